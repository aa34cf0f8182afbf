/- roundhouselaw10.OrderReads answers true for any number, any key's number, any place, any byte, any text; no condition. -/
import Derived.Test.YtljgcffpijjliaaDoorOrdTxt
import Derived.BigQuiet
import Derived.Deep.RegionHeld3
import Derived.Deep.Cut
import Derived.Lib.OthersKept
import Derived.Laws.RangeAny
import Derived.Laws.RangeString
import Derived.Lib.Split
import Derived.Laws.Concat
import Derived.Test.YtljgcffpijjliaaDoorOrdKn
import Derived.Test.YtljgcffpijjliaaDoorOrdPa
import Derived.IntWalk
import Derived.Test.YtljgcffpijjliaaDoorPolEnt
import Derived.Test.YtljgcffpijjliaaDoorOrdKnown10
import Derived.Test.YtljgcffpijjliaaDoorDoor
/- Digits. -/
namespace Go.Proofs.YtljgcffpijjliaaDoor
set_option linter.unusedVariables false
set_option linter.unusedSimpArgs false
open Go.RowKit Go.ChangeShapes Go.WideShapes Go.ChangeAt

/-- A row of digits as a number. -/
def vd (l : List UInt8) : Nat := l.foldl (fun n c => n * 10 + (c.toNat - 48)) 0
theorem vd_snoc (l : List UInt8) (c : UInt8) : vd (l ++ [c]) = vd l * 10 + (c.toNat - 48) := by unfold vd; rw [List.foldl_append]; rfl
theorem dig_of (d : Nat) (h : d < 10) : (UInt8.ofNat (48 + d)).toNat = 48 + d := by
  rw [UInt8.toNat_ofNat']
  omega
theorem dec_step {u : Nat} (h : ¬ u < 10) : Lib.decDigits u = Lib.decDigits (u / 10) ++ [UInt8.ofNat (48 + u % 10)] := by
  rw [Lib.decDigits]
  rw [dif_neg h]
theorem dec_small {u : Nat} (h : u < 10) : Lib.decDigits u = [UInt8.ofNat (48 + u)] := by
  rw [Lib.decDigits]
  rw [dif_pos h]
theorem vd_dec (u : Nat) : vd (Lib.decDigits u) = u := by
  induction u using Nat.strongRecOn with
  | ind u ih =>
    by_cases h : u < 10
    · rw [dec_small h]
      show 0 * 10 + ((UInt8.ofNat (48 + u)).toNat - 48) = u
      rw [dig_of u h]
      omega
    · rw [dec_step h, vd_snoc, ih (u / 10) (by omega), dig_of _ (by omega)]
      omega
theorem dec_dig (u : Nat) : ∀ c ∈ Lib.decDigits u, 48 ≤ c.toNat ∧ c.toNat ≤ 57 := by
  induction u using Nat.strongRecOn with
  | ind u ih =>
    intro c hc
    by_cases h : u < 10
    · rw [dec_small h] at hc
      obtain rfl := List.mem_singleton.1 hc
      rw [dig_of u h]
      omega
    · rw [dec_step h] at hc
      rcases List.mem_append.1 hc with hc | hc
      · exact ih (u / 10) (by omega) c hc
      · obtain rfl := List.mem_singleton.1 hc
        rw [dig_of _ (by omega)]
        omega
theorem fold_ge : ∀ (t : List UInt8) (n : Nat), n ≤ t.foldl (fun n c => n * 10 + (c.toNat - 48)) n
  | [], n => Nat.le_refl _
  | c :: t, n => by
    have := fold_ge t (n * 10 + (c.toNat - 48))
    rw [List.foldl_cons]
    omega
theorem vd_mono (l : List UInt8) (t : List UInt8) : vd l ≤ vd (l ++ t) := by
  unfold vd
  rw [List.foldl_append]
  exact fold_ge t _
theorem vd_take {l : List UInt8} {k : Nat} (hk : k < l.length) : vd (l.take (k + 1)) = vd (l.take k) * 10 + ((l[k]).toNat - 48) ∧ vd (l.take (k + 1)) ≤ vd l := by
  refine ⟨?_, ?_⟩
  · rw [List.take_succ_eq_append_getElem hk, vd_snoc]
  · have := vd_mono (l.take (k + 1)) (l.drop (k + 1))
    rw [List.take_append_drop] at this
    exact this
theorem dec_ne (u : Nat) : Lib.decDigits u ≠ [] := by
  by_cases h : u < 10
  · rw [dec_small h]; simp
  · rw [dec_step h]; simp
/-- No nought ahead. -/
theorem dec_head (u : Nat) (h : 1 < (Lib.decDigits u).length) : ∃ c t, Lib.decDigits u = c :: t ∧ c.toNat ≠ 48 := by
  induction u using Nat.strongRecOn with
  | ind u ih =>
    by_cases h9 : u < 10
    · rw [dec_small h9] at h; simp at h
    · by_cases h99 : u / 10 < 10
      · refine ⟨UInt8.ofNat (48 + u / 10), [UInt8.ofNat (48 + u % 10)], by rw [dec_step h9, dec_small h99]; rfl, ?_⟩
        rw [dig_of _ h99]
        omega
      · have hl : 1 < (Lib.decDigits (u / 10)).length := by
          rw [dec_step h99, List.length_append]
          have := List.length_pos_iff.2 (dec_ne (u / 10 / 10))
          simp
          omega
        obtain ⟨c, t, e, hc⟩ := ih (u / 10) (by omega) hl
        exact ⟨c, t ++ [UInt8.ofNat (48 + u % 10)], by rw [dec_step h9, e]; rfl, hc⟩
theorem dec_blank (u : Nat) : (32 : UInt8) ∉ Lib.decDigits u := fun h => by
  have := dec_dig u _ h
  exact absurd this.1 (by decide)
set_option maxRecDepth 100000 in
set_option maxHeartbeats 4000000 in
theorem digit_any (d : Nat) (hd : d < 10) (w : World) : Calls Tryd.prog 78 #[.int .i32 (48 + (d : Int))] w fun e w' => e = .returned (.tuple #[.int .u64 (d : Int), .bool true]) ∧ w = w' := by
  have h1 : ¬ (48 + (d : Int)) < 48 := by omega
  have h2 : ¬ (57 : Int) < 48 + (d : Int) := by omega
  have h3 : 48 + (d : Int) - 48 = d := by omega
  have h4 : IntKind.i32.wrap (d : Int) = d := by rw [IntKind.wrap_i32]; omega
  have h5 : IntKind.u64.wrap (d : Int) = d := by rw [IntKind.wrap_u64]; omega
  go_enter Tryd.func78, Tryd.ntmps78
  go_wp2
  go_ret2
  exact ⟨rfl, rfl⟩
end Go.Proofs.YtljgcffpijjliaaDoor

/- A numeral, read. -/
namespace Go.Proofs.YtljgcffpijjliaaDoor
set_option linter.unusedVariables false
set_option linter.unusedSimpArgs false
open Go.RowKit Go.ChangeShapes Go.WideShapes Go.ChangeAt

set_option maxRecDepth 100000 in
set_option maxHeartbeats 4000000 in
theorem pnum_any (u : Nat) (hu64 : u < 18446744073709551616) (w : World) : Calls Tryd.prog 68 #[.string ⟨(Lib.decDigits u).toArray⟩] w fun e w' => e = .returned (.tuple #[.int .u64 (u : Int), .bool true]) ∧ Below w.heap.size w w' := by
  obtain ⟨l, hl⟩ : ∃ l, l = Lib.decDigits u := ⟨_, rfl⟩
  have hvd : vd l = u := by rw [hl]; exact vd_dec u
  have hdg : ∀ c ∈ l, 48 ≤ c.toNat ∧ c.toNat ≤ 57 := by rw [hl]; exact dec_dig u
  have hl0 : 0 < l.length := by rw [hl]; exact List.length_pos_iff.2 (dec_ne u)
  have hhd : 1 < l.length → ∃ c t, l = c :: t ∧ c.toNat ≠ 48 := by rw [hl]; exact dec_head u
  rw [← hl]
  clear hl
  obtain ⟨s, hs⟩ : ∃ s : ByteArray, s = ⟨l.toArray⟩ := ⟨_, rfl⟩
  have hsz : s.size = l.length := by rw [hs]; rfl
  have hat : ∀ i (h : i < s.size) (h2 : i < l.length), s[i] = l[i] := fun i h h2 => by subst hs; rfl
  have hls : s.toList = l := by rw [hs, ByteArray.toList_eq]
  rw [← hs]
  clear hs
  have hem : s.toList.isEmpty = false := by rw [hls]; cases l; simp at hl0; rfl
  have hnl : ¬ s.toList = [] := by rw [hls]; intro e; rw [e] at hl0; simp at hl0
  have h0 : 0 < s.size := by omega
  have hB : ((s[0].toNat : Int) == 48) = false ∨ ¬ (1 : Int) < s.size := by
    by_cases h1 : 1 < l.length
    · obtain ⟨c, t, e, hc⟩ := hhd h1
      refine .inl ?_
      rw [hat 0 h0 hl0]
      have : l[0]'hl0 = c := by simp [e]
      rw [this]
      simp
      omega
    · exact .inr (by omega)
  clear hhd hls
  have HDG := hid hdg
  have HVD := hid hvd
  have HAT := hid hat
  have HSZ := hid hsz
  clear hdg hvd hat hsz
  obtain ⟨L, hL⟩ : ∃ L, L = s.size := ⟨_, rfl⟩
  have HL := hid hL
  have hk0 : (w.iter s 0).heap[w.heap.size]? = some (.stringIter s 0) := World.iter_heap w _ 0
  have hb0 : Below w.heap.size w (w.iter s 0) := (Below.refl _ w).alloc (Nat.le_refl _) _
  have HK0 := hid hk0
  have HB0 := hid hb0
  clear hk0 hb0 hL
  skip
  obtain ⟨b, hb⟩ : ∃ b, b = ((s[0].toNat : Int) == 48) := ⟨_, rfl⟩
  rw [← hb] at hB
  have hb2 := hb.symm
  clear hb
  have h3 : b = false ∨ b = true ∧ ¬ (1 : Int) < s.size := by cases b; exact .inl rfl; rcases hB with h | h; cases h; exact .inr ⟨rfl, h⟩
  clear hB
  rcases h3 with rfl | ⟨rfl, hn1⟩
  · go_enter Tryd.func68, Tryd.ntmps68
    go_wp2_with fail
    go_loopw [4] (fun n wr => ∃ pos : Nat, pos ≤ L ∧ wr.heap[w.heap.size]? = some (.stringIter s pos) ∧ n = .int .u64 ((vd (l.take pos) : Nat) : Int) ∧ Below w.heap.size w wr) (fun _ wr => L - wr.iterPos w.heap.size)
    case atStart => exact ⟨0, by omega, HK0.out, rfl, HB0.out⟩
    case round =>
      clear HK0 HB0 hem hnl hb2
      obtain ⟨pos, hps, hk, rfl, hnx⟩ := hrel
      by_cases hp0 : pos < L
      · have hp : pos < s.size := by rw [← HL.out]; exact hp0
        have hpl : pos < l.length := by rw [← HSZ.out]; exact hp
        obtain ⟨hd1, hd2⟩ := HDG.out _ (List.getElem_mem hpl)
        obtain ⟨d, hd⟩ : ∃ d, d = (l[pos]'hpl).toNat - 48 := ⟨_, rfl⟩
        have hd10 : d < 10 := by omega
        have hv : (((s[pos]'hp).toNat : Nat) : Int) = 48 + (d : Int) := by rw [HAT.out pos hp hpl]; omega
        have h128 : (s[pos]'hp).toNat < 128 := by omega
        have hnext : ∀ ty, (Instr.next (.pointer (some ⟨w.heap.size, 0, none⟩)) true ty).run Tryd.prog wr = _ := fun ty => Lib.run_next_ascii_at wr w.heap.size s pos ty hk hp h128
        obtain ⟨ht1, ht2⟩ := vd_take hpl
        rw [← hd] at ht1
        rw [HVD.out] at ht2
        obtain ⟨n, hn⟩ : ∃ n, n = vd (l.take pos) := ⟨_, rfl⟩
        have HN2 := hid (show vd (l.take (pos + 1)) = n * 10 + d from by rw [hn]; exact ht1)
        have hbd : n * 10 + d < 18446744073709551616 := by rw [hn]; omega
        rw [← hn]
        clear ht1 ht2 hn hd hd1 hd2
        have hk1 := Lib.iterAt_heap wr w.heap.size s pos (pos + 1) hk
        have hnx1 : Below w.heap.size w (wr.iterAt w.heap.size s (pos + 1)) := Lib.below_iterAt hnx (by omega) _ (pos + 1)
        have hmu : wr.iterPos w.heap.size = pos := by simp [World.iterPos, hk]
        have hmu1 : (wr.iterAt w.heap.size s (pos + 1)).iterPos w.heap.size = pos + 1 := by simp [World.iterPos, hk1]
        rw [hv] at hnext
        have HK1 := hid hk1
        have HN1 := hid hnx1
        have HM := hid hmu
        have HM1 := hid hmu1
        have HP0 := hid hp0
        clear hk1 hnx1 hmu hmu1 hk hnx hv h128 hpl hp hp0
        generalize wr.iterAt w.heap.size s (pos + 1) = W1 at *
        have q1 : IntKind.u64.wrap (18446744073709551615 - (d : Int)) = 18446744073709551615 - d := by rw [IntKind.wrap_u64]; omega
        have q2 : ¬ (18446744073709551615 - (d : Int)) / 10 < n := by omega
        have q2t : ¬ (18446744073709551615 - (d : Int)).tdiv 10 < n := by rw [Int.tdiv_eq_ediv_of_nonneg (by omega)]; omega
        have q3 : IntKind.u64.wrap ((n : Int) * 10) = n * 10 := by rw [IntKind.wrap_u64]; omega
        have q4 : IntKind.u64.wrap ((n : Int) * 10 + d) = n * 10 + d := by rw [IntKind.wrap_u64]; omega
        go_wp2_with fail
        refine (digit_any d hd10 _).mono ?_
        rintro e W2 ⟨rfl, rfl⟩
        go_wp2_with fail
        go_roundw
        case rel => exact ⟨pos + 1, by have := HP0.out; omega, HK1.out, by rw [HN2.out]; go_num, HN1.out⟩
        case measure => rw [HM.out, HM1.out]; have := HP0.out; omega
      · have hpe : pos = L := by omega
        have hp : ¬ pos < s.size := by rw [← HL.out]; exact hp0
        have hnext : ∀ ty, (Instr.next (.pointer (some ⟨w.heap.size, 0, none⟩)) true ty).run Tryd.prog wr = _ := fun ty => Lib.run_next_end_at wr w.heap.size s pos ty hk hp
        have HN := hid hnx
        have HE := hid (show vd (l.take pos) = u from by rw [List.take_of_length_le (by rw [← HSZ.out, ← HL.out, hpe]; exact Nat.le_refl _), HVD.out])
        clear hk hnx hp hpe hp0
        rw [HE.out]
        go_wp2_with fail
        go_ret2
        exact ⟨rfl, HN.out⟩
  · have hn2 : ¬ 1 < s.size := by omega
    go_enter Tryd.func68, Tryd.ntmps68
    go_wp2_with fail
    go_loopw [4] (fun n wr => ∃ pos : Nat, pos ≤ L ∧ wr.heap[w.heap.size]? = some (.stringIter s pos) ∧ n = .int .u64 ((vd (l.take pos) : Nat) : Int) ∧ Below w.heap.size w wr) (fun _ wr => L - wr.iterPos w.heap.size)
    case atStart => exact ⟨0, by omega, HK0.out, rfl, HB0.out⟩
    case round =>
      clear HK0 HB0 hem hnl hb2 hn1 hn2
      obtain ⟨pos, hps, hk, rfl, hnx⟩ := hrel
      by_cases hp0 : pos < L
      · have hp : pos < s.size := by rw [← HL.out]; exact hp0
        have hpl : pos < l.length := by rw [← HSZ.out]; exact hp
        obtain ⟨hd1, hd2⟩ := HDG.out _ (List.getElem_mem hpl)
        obtain ⟨d, hd⟩ : ∃ d, d = (l[pos]'hpl).toNat - 48 := ⟨_, rfl⟩
        have hd10 : d < 10 := by omega
        have hv : (((s[pos]'hp).toNat : Nat) : Int) = 48 + (d : Int) := by rw [HAT.out pos hp hpl]; omega
        have h128 : (s[pos]'hp).toNat < 128 := by omega
        have hnext : ∀ ty, (Instr.next (.pointer (some ⟨w.heap.size, 0, none⟩)) true ty).run Tryd.prog wr = _ := fun ty => Lib.run_next_ascii_at wr w.heap.size s pos ty hk hp h128
        obtain ⟨ht1, ht2⟩ := vd_take hpl
        rw [← hd] at ht1
        rw [HVD.out] at ht2
        obtain ⟨n, hn⟩ : ∃ n, n = vd (l.take pos) := ⟨_, rfl⟩
        have HN2 := hid (show vd (l.take (pos + 1)) = n * 10 + d from by rw [hn]; exact ht1)
        have hbd : n * 10 + d < 18446744073709551616 := by rw [hn]; omega
        rw [← hn]
        clear ht1 ht2 hn hd hd1 hd2
        have hk1 := Lib.iterAt_heap wr w.heap.size s pos (pos + 1) hk
        have hnx1 : Below w.heap.size w (wr.iterAt w.heap.size s (pos + 1)) := Lib.below_iterAt hnx (by omega) _ (pos + 1)
        have hmu : wr.iterPos w.heap.size = pos := by simp [World.iterPos, hk]
        have hmu1 : (wr.iterAt w.heap.size s (pos + 1)).iterPos w.heap.size = pos + 1 := by simp [World.iterPos, hk1]
        rw [hv] at hnext
        have HK1 := hid hk1
        have HN1 := hid hnx1
        have HM := hid hmu
        have HM1 := hid hmu1
        have HP0 := hid hp0
        clear hk1 hnx1 hmu hmu1 hk hnx hv h128 hpl hp hp0
        generalize wr.iterAt w.heap.size s (pos + 1) = W1 at *
        have q1 : IntKind.u64.wrap (18446744073709551615 - (d : Int)) = 18446744073709551615 - d := by rw [IntKind.wrap_u64]; omega
        have q2 : ¬ (18446744073709551615 - (d : Int)) / 10 < n := by omega
        have q2t : ¬ (18446744073709551615 - (d : Int)).tdiv 10 < n := by rw [Int.tdiv_eq_ediv_of_nonneg (by omega)]; omega
        have q3 : IntKind.u64.wrap ((n : Int) * 10) = n * 10 := by rw [IntKind.wrap_u64]; omega
        have q4 : IntKind.u64.wrap ((n : Int) * 10 + d) = n * 10 + d := by rw [IntKind.wrap_u64]; omega
        go_wp2_with fail
        refine (digit_any d hd10 _).mono ?_
        rintro e W2 ⟨rfl, rfl⟩
        go_wp2_with fail
        go_roundw
        case rel => exact ⟨pos + 1, by have := HP0.out; omega, HK1.out, by rw [HN2.out]; go_num, HN1.out⟩
        case measure => rw [HM.out, HM1.out]; have := HP0.out; omega
      · have hpe : pos = L := by omega
        have hp : ¬ pos < s.size := by rw [← HL.out]; exact hp0
        have hnext : ∀ ty, (Instr.next (.pointer (some ⟨w.heap.size, 0, none⟩)) true ty).run Tryd.prog wr = _ := fun ty => Lib.run_next_end_at wr w.heap.size s pos ty hk hp
        have HN := hid hnx
        have HE := hid (show vd (l.take pos) = u from by rw [List.take_of_length_le (by rw [← HSZ.out, ← HL.out, hpe]; exact Nat.le_refl _), HVD.out])
        clear hk hnx hp hpe hp0
        rw [HE.out]
        go_wp2_with fail
        go_ret2
        exact ⟨rfl, HN.out⟩
end Go.Proofs.YtljgcffpijjliaaDoor

/- Numerals, read. -/
namespace Go.Proofs.YtljgcffpijjliaaDoor
set_option linter.unusedVariables false
set_option linter.unusedSimpArgs false
open Go.RowKit Go.ChangeShapes Go.WideShapes Go.ChangeAt

theorem Ow.ceG {w : World} {B c n : Nat} {T : TypeId} {A : Option Addr} {f : Nat → Value} (h : Ow w B T 1 (.slice A n c) n f) (h0 : 0 < n) : ∃ g, A = some ⟨g, 0, none⟩ ∧ n ≤ c ∧ g < w.heap.size ∧ (∀ j, j < n → w.cell? ⟨g, j, none⟩ = some (f j)) ∧ ∀ j, w.frozen? ⟨g, j, none⟩ = false := by
  obtain ⟨A', c', hv, hcc, _⟩ := Ow.form_ h
  injection hv with _ _ h3
  obtain ⟨g, e, _, hg, hc, hf⟩ := Ow.block_ h h0
  exact ⟨g, e, by omega, hg, fun j hj => hc j (by omega), hf⟩
set_option maxRecDepth 100000 in
set_option maxHeartbeats 4000000 in
theorem pall_any (num : Nat → Nat) (n b off c : Nat) (h0 : 0 < n) (hn5 : n ≤ 1000) (h1 : n ≤ c) (hn : ∀ j, j < n → num j < 18446744073709551616) (w : World) (hb : b < w.heap.size) (hc : ∀ j, j < n → w.cell? ⟨b, off + j, none⟩ = some (.string ⟨(Lib.decDigits (num j)).toArray⟩)) : Calls Tryd.prog 50 #[.slice (some ⟨b, off, none⟩) n c] w fun e w' => ∃ B d, n ≤ d ∧ e = .returned (.tuple #[.slice (some ⟨B, 0, none⟩) n d, .bool true]) ∧ B < w'.heap.size ∧ (∀ j, j < n → w'.cell? ⟨B, j, none⟩ = some (.int .u64 ((num j : Nat) : Int))) ∧ (∀ j, w'.frozen? ⟨B, j, none⟩ = false) ∧ Below w.heap.size w w' := by
  obtain ⟨G, hG⟩ : ∃ G : Nat → Value, G = fun j => .int .u64 ((num j : Nat) : Int) := ⟨_, rfl⟩
  have HG := hid (fun j => (show G j = .int .u64 ((num j : Nat) : Int) from by rw [hG]))
  have HG1 := hid (fun j => (show (G j).oneCell' = true from by rw [hG]; rfl))
  clear hG
  have HC := hid hc
  have HN := hid hn
  clear hc hn
  go_enter Tryd.func50, Tryd.ntmps50
  go_wp2_with fail
  go_loopw [4, 11] (fun l i wr => ∃ (k : Nat) (A : Option Addr) (d : Nat), k ≤ n ∧ l = .slice A k d ∧ i = .int .i64 (k : Int) ∧ Ow wr w.heap.size 27 1 (.slice A k d) k G ∧ Below w.heap.size w wr) (fun _ i _ => n - (intOf i).toNat)
  case atStart => exact ⟨0, none, 0, by omega, rfl, rfl, Ow.none_, Below.refl _ _⟩
  case round =>
    obtain ⟨k, A, d, hk, rfl, rfl, ho, hbl⟩ := hrel
    have HO := hid ho
    have HB := hid hbl
    clear ho hbl
    by_cases hlt : k < n
    · have i0 : (0 : Int) ≤ k := by omega
      have i1 : (k : Int) < n := by omega
      have xc : wr.cell? ⟨b, off + k, none⟩ = some (.string ⟨(Lib.decDigits (num k)).toArray⟩) := (World.cell?_of_block (a := ⟨b, off + k, none⟩) (HB.out.block b hb)).trans (HC.out k hlt)
      have PN := hid (fun w => pnum_any (num k) (HN.out k hlt) w)
      have HU := hid (HG.out k)
      obtain ⟨u, hu⟩ : ∃ u, u = num k := ⟨_, rfl⟩
      rw [← hu] at xc PN HU
      clear hu
      obtain ⟨x, hx⟩ : ∃ x, x = (Lib.decDigits u).toArray := ⟨_, rfl⟩
      rw [← hx] at xc PN
      clear hx
      go_wp2_with fail
      refine (PN.out _).mono ?_
      rintro e w2 ⟨rfl, hb2⟩
      have HO2 := hid (HO.out.keep hb2 (Nat.le_refl _))
      have HB2 := hid (HB.out.trans (hb2.mono HB.out.size))
      have l2 := HB2.out.size
      clear hb2 HO HB xc PN
      go_wp2_with (at_builtin; refine wp_app_u rfl (.tmp 22) (.tmp 24) rfl w.heap.size _ k G (HG1.out _) rfl (Ow.alloc HO2.out _) w2.heap.size 1 rfl (by rw [HU.out]; exact Ce.made (l := [.int .u64 (u : Int)]) rfl) (by omega) (by simp; omega) ?_; intro A' d' w3 hown hbel hgr; have HO3 := hid hown; have HB3 := hid ((HB2.out.alloc l2 (.cells #[.int .u64 (u : Int)] 27)).trans hbel); clear hown hbel hgr HO2 HB2)
      go_roundw
      case rel => exact ⟨k + 1, A', d', by omega, rfl, by go_num, HO3.out, HB3.out⟩
      case measure => simp [intOf]; omega
    · have e : k = n := by omega
      subst e
      obtain ⟨g, rfl, hd1, hg, hce, hfr⟩ := Ow.ceG HO.out (by omega)
      have HFR := hid hfr
      clear hfr
      have HCE := hid (fun j hj => (hce j hj).trans (congrArg some (HG.out j)))
      clear hce
      go_wp2_with fail
      go_ret2
      exact ⟨g, d, hd1, rfl, hg, HCE.out, HFR.out, HB.out⟩
end Go.Proofs.YtljgcffpijjliaaDoor

/- A text, split. -/
namespace Go.Proofs.YtljgcffpijjliaaDoor
set_option linter.unusedVariables false
set_option linter.unusedSimpArgs false
open Go.RowKit Go.ChangeShapes Go.WideShapes Go.ChangeAt

theorem pre32 (b : UInt8) (l : List UInt8) : ([32] : List UInt8).isPrefixOf (b :: l) = (32 == b) := by
  simp [List.isPrefixOf]
theorem idx_no : ∀ {l : List UInt8}, 32 ∉ l → Lib.index l [32] = -1
  | [], _ => rfl
  | b :: l, h => by
    have hb : (32 == b) = false := by
      rw [beq_eq_false_iff_ne]; intro e; exact h (by rw [e]; exact List.mem_cons_self ..)
    have ih := idx_no (l := l) (fun hm => h (List.mem_cons_of_mem _ hm))
    unfold Lib.index
    rw [pre32, hb, ih]
    rfl
theorem idx_at : ∀ {x : List UInt8} (r : List UInt8), 32 ∉ x → Lib.index (x ++ 32 :: r) [32] = (x.length : Int)
  | [], r, _ => by
    show Lib.index (32 :: r) [32] = 0
    unfold Lib.index
    rw [pre32]; rfl
  | b :: l, r, h => by
    have hb : (32 == b) = false := by
      rw [beq_eq_false_iff_ne]; intro e; exact h (by rw [e]; exact List.mem_cons_self ..)
    have ih := idx_at (x := l) r (fun hm => h (List.mem_cons_of_mem _ hm))
    show Lib.index (b :: (l ++ 32 :: r)) [32] = _
    unfold Lib.index
    rw [pre32, hb, ih, if_neg (by decide), if_neg (by rw [beq_iff_eq]; omega)]
    simp
theorem join_more (x y : List UInt8) (r : List (List UInt8)) : Lib.join (x :: y :: r) [32] = x ++ 32 :: Lib.join (y :: r) [32] := by
  rw [Lib.join_cons, Lib.join_cons]
  simp [Lib.joinTail]
theorem split_join : ∀ {ws : List (List UInt8)} {k : Nat}, ws ≠ [] → (∀ x ∈ ws, (32 : UInt8) ∉ x) → ws.length ≤ k + 1 → Lib.splitK [32] 0 k (Lib.join ws [32]) = ws
  | [], _, h, _, _ => absurd rfl h
  | [x], k, _, h, _ => by
    rw [Lib.join_one]
    cases k with
    | zero => rfl
    | succ k => unfold Lib.splitK; rw [idx_no (h x (List.mem_cons_self ..))]; rfl
  | x :: y :: r, k, _, h, hl => by
    cases k with
    | zero => simp at hl
    | succ k =>
      have hx := h x (List.mem_cons_self ..)
      have ih := split_join (ws := y :: r) (k := k) (by simp) (fun z hz => h z (List.mem_cons_of_mem _ hz)) (by simp at hl ⊢; omega)
      rw [join_more]
      unfold Lib.splitK
      rw [idx_at _ hx, if_neg (by rw [beq_iff_eq]; omega)]
      have e1 : ((x.length : Int).toNat + 0) = x.length := by omega
      have e2 : ((x.length : Int).toNat + ([32] : List UInt8).length) = x.length + 1 := by simp
      rw [e1, e2, List.take_left, show (x ++ 32 :: Lib.join (y :: r) [32]).drop (x.length + 1) = Lib.join (y :: r) [32] from by rw [List.drop_append]; simp, ih]
theorem bytes_inj : ∀ {l : List ByteArray} {ws : List (List UInt8)}, l.map (·.data.toList) = ws → l = ws.map fun x => (⟨x.toArray⟩ : ByteArray)
  | [], [], _ => rfl
  | [], _ :: _, h => by cases h
  | _ :: _, [], h => by cases h
  | x :: l, y :: ws, h => by
    injection h with h1 h2
    rw [List.map_cons, bytes_inj h2, ← h1]
theorem dec_no32 (u : Nat) : (32 : UInt8) ∉ Lib.decDigits u := fun h => by have := (dec_dig u _ h).1; exact absurd this (by decide)
theorem wd_no32 (k : Int) : (32 : UInt8) ∉ wdL k := by
  unfold wdL
  split; decide
  split; decide
  split; decide
  split; decide
  split <;> decide
theorem wrds_no32 (e : En) : ∀ x ∈ wrds e, (32 : UInt8) ∉ x := by
  intro x hx
  unfold wrds at hx
  rcases List.mem_cons.1 hx with rfl | hx
  · exact wd_no32 _
  · obtain ⟨y, _, rfl⟩ := List.mem_map.1 hx
    exact dec_no32 _
theorem wrds_len (e : En) : (wrds e).length = (nmL e).length + 1 := by unfold wrds; rw [List.length_cons, List.length_map]
theorem sp_txt (e : En) (k : Nat) (hk : (wrds e).length ≤ k + 1) : Lib.splitB ⟨#[32]⟩ 0 k ⟨(txtL e).toArray⟩ = (wrds e).map fun x => (⟨x.toArray⟩ : ByteArray) := by
  refine bytes_inj ?_
  rw [Lib.splitB_data]
  exact split_join (by unfold wrds; simp) (wrds_no32 e) hk
theorem txt_long (e : En) : (wrds e).length ≤ (txtL e).length + 1 := by
  have key : ∀ ws : List (List UInt8), ws.length ≤ (Lib.join ws [32]).length + 1 := fun ws => by
    induction ws with
    | nil => simp
    | cons x r ih =>
      cases r with
      | nil => simp
      | cons y r => rw [join_more, List.length_append, List.length_cons]; simp only [List.length_cons] at ih ⊢; omega
  exact key _
end Go.Proofs.YtljgcffpijjliaaDoor

/- An entry of numbers. -/
namespace Go.Proofs.YtljgcffpijjliaaDoor
set_option linter.unusedVariables false
set_option linter.unusedSimpArgs false
open Go.RowKit Go.ChangeShapes Go.WideShapes Go.ChangeAt

theorem Ce.storeA2 {w : World} {b : Nat} {x0 x1 x2 x3 x4 x5 x6 : Value} (h : Ce w b [x0, x1, x2, x3, x4, x5, x6]) (x5i : x5 = .int .u64 0) (x6i : x6 = .int .u64 0) (u v : Int) : (Instr.storeAt 29 (.pointer (some ⟨b, 5, none⟩)) (.agg #[.int .u64 u, .int .u64 v])).run Tryd.prog w = .ok () (w.setCells b 5 [.int .u64 u, .int .u64 v]) := by
  subst x5i x6i
  refine run_storeAt_mid w b 5 29 #[.int .u64 u, .int .u64 v] (fun j hj => ?_) (by kernel_rfl) (all_oneCell_toArray (cs := [.int .u64 u, .int .u64 v]) (fun v hv => by simp at hv; rcases hv with rfl | rfl <;> rfl))
  have hl : j < 2 := hj
  rcases j with _ | _ | j
  · rw [h.2.1 5 _ rfl]; exact ⟨rfl, h.2.2 _⟩
  · rw [h.2.1 6 _ rfl]; exact ⟨rfl, h.2.2 _⟩
  · omega
theorem Ce.store1 {w : World} {b : Nat} {l : List Value} (h : Ce w b l) (j : Nat) {x : Int} (hx : l[j]? = some (.int .i64 x)) (v : Int) : (Instr.storeAt 3 (.pointer (some ⟨b, j, none⟩)) (.int .i64 v)).run Tryd.prog w = .ok () (w.setCell ⟨b, j, none⟩ (.int .i64 v)) := by
  have e := h.2.1 j _ hx
  have f := h.2.2 j
  simp [go_sem, e, f]
theorem Ce.setA2 {w : World} {b : Nat} {x0 x1 x2 x3 x4 x5 x6 : Value} (h : Ce w b [x0, x1, x2, x3, x4, x5, x6]) (u v : Value) : Ce (w.setCells b 5 [u, v]) b [x0, x1, x2, x3, x4, u, v] :=
  (h.set 5 u (by simp)).set 6 v (by simp)
set_option maxRecDepth 100000 in
set_option maxHeartbeats 4000000 in
theorem entry_slot (k s : Int) (h1 : ¬ k = 1) (h6 : ¬ k = 6) (hs : 0 ≤ s ∧ s ≤ 63) (b d : Nat) (hd : 1 ≤ d) (w : World) (hc : Ce w b [.int .u64 s]) : Calls Tryd.prog 51 #[.int .i64 k, .slice (some ⟨b, 0, none⟩) 1 d] w fun e w' => e = .returned (.tuple #[.agg #[.int .i64 k, .int .i64 s, .int .i64 0, .int .i64 0, .int .i64 0, .int .u64 0, .int .u64 0], .bool true]) ∧ Below w.heap.size w w' := by
  have HC := hid hc
  clear hc
  have b1 : (k == 1) = false := by simpa using h1
  have b6 : (k == 6) = false := by simpa using h6
  have ws_ : IntKind.i64.wrap s = s := IntWalk.i64_in _ (by omega)
  have NU := hid (fun (w : World) => (show Calls Tryd.prog 46 #[.agg #[.int .i64 k, .int .i64 0, .int .i64 0, .int .i64 0, .int .i64 0, .int .u64 0, .int .u64 0]] w fun r w' => ∃ b : Nat, r = .returned (.slice (some ⟨b, 0, none⟩) 1 1) ∧ Below w.heap.size w w' from (nums_any ⟨k, 0, 0, 0, 0, zKy⟩ (fun x hx => by simp [nmL, zKy, h1, h6] at hx; subst hx; unfold U64; omega) w).mono (fun r w' h => by obtain ⟨b, e, _, _, hb⟩ := h; exact ⟨b, by rw [e]; simp [nmL, h1, h6], hb⟩)))
  clear h1 h6
  go_enter Tryd.func51, Tryd.ntmps51
  go_upto_region 2 with (fail)
  have CR := hid ((Ce.made (w := w) (l := [.int .i64 0, .int .i64 0, .int .i64 0, .int .i64 0, .int .i64 0, .int .u64 0, .int .u64 0]) (T := 56) (g := w.heap.size) rfl).alloc (.cells #[.int .i64 k, .int .i64 0, .int .i64 0, .int .i64 0, .int .i64 0, .int .u64 0, .int .u64 0] 56))
  have CE := hid (Ce.made (w := w.alloc (.cells #[.int .i64 0, .int .i64 0, .int .i64 0, .int .i64 0, .int .i64 0, .int .u64 0, .int .u64 0] 56)) (l := [.int .i64 k, .int .i64 0, .int .i64 0, .int .i64 0, .int .i64 0, .int .u64 0, .int .u64 0]) (T := 56) (g := w.heap.size + 1) (by simp))
  have CB := hid ((HC.out.alloc (.cells #[.int .i64 0, .int .i64 0, .int .i64 0, .int .i64 0, .int .i64 0, .int .u64 0, .int .u64 0] 56)).alloc (.cells #[.int .i64 k, .int .i64 0, .int .i64 0, .int .i64 0, .int .i64 0, .int .u64 0, .int .u64 0] 56))
  have HB := hid (((Below.refl w.heap.size w).alloc (Nat.le_refl _) (.cells #[.int .i64 0, .int .i64 0, .int .i64 0, .int .i64 0, .int .i64 0, .int .u64 0, .int .u64 0] 56)).alloc (by simp) (.cells #[.int .i64 k, .int .i64 0, .int .i64 0, .int .i64 0, .int .i64 0, .int .u64 0, .int .u64 0] 56))
  simp only [List.toArray] at CR CE
  generalize (w.alloc (.cells #[.int .i64 0, .int .i64 0, .int .i64 0, .int .i64 0, .int .i64 0, .int .u64 0, .int .u64 0] 56)).alloc (.cells #[.int .i64 k, .int .i64 0, .int .i64 0, .int .i64 0, .int .i64 0, .int .u64 0, .int .u64 0] 56) = w1 at *
  have lb := HC.out.1
  have e0 := CE.out.2.1 0 _ rfl
  have e1 := CE.out.2.1 1 _ rfl
  have e2 := CE.out.2.1 2 _ rfl
  have e3 := CE.out.2.1 3 _ rfl
  have e4 := CE.out.2.1 4 _ rfl
  have e5 := CE.out.2.1 5 _ rfl
  have e6 := CE.out.2.1 6 _ rfl
  have ef := CE.out.2.2
  go_wp2_with fail
  clear e0 e1 e2 e3 e4 e5 e6 ef
  refine (NU.out _).mono ?_
  rintro x w2 ⟨bb, rfl, hb⟩
  have CR2 := hid (CR.out.below hb)
  have CE2 := hid (CE.out.below hb)
  have CB2 := hid (CB.out.below hb)
  have HB2 := hid (HB.out.trans (hb.mono HB.out.size))
  clear hb CR CE CB HB NU
  have e0 := CE2.out.2.1 0 _ rfl
  have e1 := CE2.out.2.1 1 _ rfl
  have e2 := CE2.out.2.1 2 _ rfl
  have e3 := CE2.out.2.1 3 _ rfl
  have e4 := CE2.out.2.1 4 _ rfl
  have e5 := CE2.out.2.1 5 _ rfl
  have e6 := CE2.out.2.1 6 _ rfl
  have ef := CE2.out.2.2
  have c0 := CB2.out.2.1 0 _ rfl
  go_upto_region 10 with (fail)
  clear e0 e1 e2 e3 e4 e5 e6 ef c0
  have CE3 := hid (CE2.out.set 1 (.int .i64 s) (by simp))
  simp only [List.set_cons_succ, List.set_cons_zero] at CE3
  have CR3 := hid (CR2.out.other (c := w.heap.size + 1) (j := 1) (v := .int .i64 s) (by omega))
  have HB3 := hid (HB2.out.setCell (p := ⟨w.heap.size + 1, 1, none⟩) (Nat.le_succ _) (.int .i64 s))
  clear CE2 CR2 CB2 HB2
  generalize w2.setCell ⟨w.heap.size + 1, 1, none⟩ (.int .i64 s) = w3 at *
  have e0 := CE3.out.2.1 0 _ rfl
  have e1 := CE3.out.2.1 1 _ rfl
  have e2 := CE3.out.2.1 2 _ rfl
  have e3 := CE3.out.2.1 3 _ rfl
  have e4 := CE3.out.2.1 4 _ rfl
  have e5 := CE3.out.2.1 5 _ rfl
  have e6 := CE3.out.2.1 6 _ rfl
  have ef := CE3.out.2.2
  have r0 := CR3.out.2.1 0 _ rfl
  have r1 := CR3.out.2.1 1 _ rfl
  have r2 := CR3.out.2.1 2 _ rfl
  have r3 := CR3.out.2.1 3 _ rfl
  have r4 := CR3.out.2.1 4 _ rfl
  have r5 := CR3.out.2.1 5 _ rfl
  have r6 := CR3.out.2.1 6 _ rfl
  have rf := CR3.out.2.2
  go_wp2_with fail
  clear e0 e1 e2 e3 e4 e5 e6 ef r0 r1 r2 r3 r4 r5 r6 rf
  have CF := hid (Ce.s7 CR3.out (.int .i64 k) (.int .i64 s) (.int .i64 0) (.int .i64 0) (.int .i64 0) (.int .u64 0) (.int .u64 0))
  have BF := hid (below_s7 HB3.out (Nat.le_refl _) (.int .i64 k) (.int .i64 s) (.int .i64 0) (.int .i64 0) (.int .i64 0) (.int .u64 0) (.int .u64 0))
  unfold S7 at CF BF
  refine at_world (fun w' => Ce w' w.heap.size [.int .i64 k, .int .i64 s, .int .i64 0, .int .i64 0, .int .i64 0, .int .u64 0, .int .u64 0] ∧ Below w.heap.size w w') ⟨CF.out, BF.out⟩ (fun wf hwf => ?_)
  obtain ⟨hc2, hbf⟩ := hwf
  have x0 := hc2.2.1 0 _ rfl
  have x1 := hc2.2.1 1 _ rfl
  have x2 := hc2.2.1 2 _ rfl
  have x3 := hc2.2.1 3 _ rfl
  have x4 := hc2.2.1 4 _ rfl
  have x5 := hc2.2.1 5 _ rfl
  have x6 := hc2.2.1 6 _ rfl
  refine bodyPost_ret (v := .tuple #[.agg #[.int .i64 k, .int .i64 s, .int .i64 0, .int .i64 0, .int .i64 0, .int .u64 0, .int .u64 0], .bool true]) (by simp [results, Tryd.results51, go_sem, x0, x1, x2, x3, x4, x5, x6]) rfl ?_
  exact ⟨rfl, hbf⟩
set_option maxRecDepth 100000 in
set_option maxHeartbeats 4000000 in
theorem entry_bind (s a q m : Int) (hs : 0 ≤ s ∧ s ≤ 63) (ha : 0 ≤ a ∧ a ≤ 4294967295) (hq : 0 ≤ q ∧ q ≤ 65535) (hm : 0 ≤ m ∧ m ≤ 8) (b d : Nat) (hd : 4 ≤ d) (w : World) (hc : Ce w b [.int .u64 s, .int .u64 a, .int .u64 q, .int .u64 m]) : Calls Tryd.prog 51 #[.int .i64 1, .slice (some ⟨b, 0, none⟩) 4 d] w fun e w' => e = .returned (.tuple #[.agg #[.int .i64 1, .int .i64 s, .int .i64 a, .int .i64 q, .int .i64 m, .int .u64 0, .int .u64 0], .bool true]) ∧ Below w.heap.size w w' := by
  have HC := hid hc
  clear hc
  have ws_ : IntKind.i64.wrap s = s := IntWalk.i64_in _ (by omega)
  have wa_ : IntKind.i64.wrap a = a := IntWalk.i64_in _ (by omega)
  have wq_ : IntKind.i64.wrap q = q := IntWalk.i64_in _ (by omega)
  have wm_ : IntKind.i64.wrap m = m := IntWalk.i64_in _ (by omega)
  have NU := hid (fun (w : World) => (show Calls Tryd.prog 46 #[.agg #[.int .i64 1, .int .i64 0, .int .i64 0, .int .i64 0, .int .i64 0, .int .u64 0, .int .u64 0]] w fun r w' => ∃ b : Nat, r = .returned (.slice (some ⟨b, 0, none⟩) 4 4) ∧ Below w.heap.size w w' from (nums_any ⟨1, 0, 0, 0, 0, zKy⟩ (fun x hx => by simp [nmL, zKy] at hx; subst hx; unfold U64; omega) w).mono (fun r w' h => by obtain ⟨b, e, _, _, hb⟩ := h; exact ⟨b, e, hb⟩)))
  go_enter Tryd.func51, Tryd.ntmps51
  go_upto_region 2 with (fail)
  have CR := hid ((Ce.made (w := w) (l := [.int .i64 0, .int .i64 0, .int .i64 0, .int .i64 0, .int .i64 0, .int .u64 0, .int .u64 0]) (T := 56) (g := w.heap.size) rfl).alloc (.cells #[.int .i64 1, .int .i64 0, .int .i64 0, .int .i64 0, .int .i64 0, .int .u64 0, .int .u64 0] 56))
  have CE := hid (Ce.made (w := w.alloc (.cells #[.int .i64 0, .int .i64 0, .int .i64 0, .int .i64 0, .int .i64 0, .int .u64 0, .int .u64 0] 56)) (l := [.int .i64 1, .int .i64 0, .int .i64 0, .int .i64 0, .int .i64 0, .int .u64 0, .int .u64 0]) (T := 56) (g := w.heap.size + 1) (by simp))
  have CB := hid ((HC.out.alloc (.cells #[.int .i64 0, .int .i64 0, .int .i64 0, .int .i64 0, .int .i64 0, .int .u64 0, .int .u64 0] 56)).alloc (.cells #[.int .i64 1, .int .i64 0, .int .i64 0, .int .i64 0, .int .i64 0, .int .u64 0, .int .u64 0] 56))
  have HB := hid (((Below.refl w.heap.size w).alloc (Nat.le_refl _) (.cells #[.int .i64 0, .int .i64 0, .int .i64 0, .int .i64 0, .int .i64 0, .int .u64 0, .int .u64 0] 56)).alloc (by simp) (.cells #[.int .i64 1, .int .i64 0, .int .i64 0, .int .i64 0, .int .i64 0, .int .u64 0, .int .u64 0] 56))
  simp only [List.toArray] at CR CE
  generalize (w.alloc (.cells #[.int .i64 0, .int .i64 0, .int .i64 0, .int .i64 0, .int .i64 0, .int .u64 0, .int .u64 0] 56)).alloc (.cells #[.int .i64 1, .int .i64 0, .int .i64 0, .int .i64 0, .int .i64 0, .int .u64 0, .int .u64 0] 56) = w1 at *
  have lb := HC.out.1
  have e0 := CE.out.2.1 0 _ rfl
  have e1 := CE.out.2.1 1 _ rfl
  have e2 := CE.out.2.1 2 _ rfl
  have e3 := CE.out.2.1 3 _ rfl
  have e4 := CE.out.2.1 4 _ rfl
  have e5 := CE.out.2.1 5 _ rfl
  have e6 := CE.out.2.1 6 _ rfl
  have ef := CE.out.2.2
  go_wp2_with fail
  clear e0 e1 e2 e3 e4 e5 e6 ef
  refine (NU.out _).mono ?_
  rintro x w2 ⟨bb, rfl, hb⟩
  have CR2 := hid (CR.out.below hb)
  have CE2 := hid (CE.out.below hb)
  have CB2 := hid (CB.out.below hb)
  have HB2 := hid (HB.out.trans (hb.mono HB.out.size))
  clear hb CR CE CB HB NU
  have e0 := CE2.out.2.1 0 _ rfl
  have e1 := CE2.out.2.1 1 _ rfl
  have e2 := CE2.out.2.1 2 _ rfl
  have e3 := CE2.out.2.1 3 _ rfl
  have e4 := CE2.out.2.1 4 _ rfl
  have e5 := CE2.out.2.1 5 _ rfl
  have e6 := CE2.out.2.1 6 _ rfl
  have ef := CE2.out.2.2
  have c0 := CB2.out.2.1 0 _ rfl
  have c1 := CB2.out.2.1 1 _ rfl
  have c2 := CB2.out.2.1 2 _ rfl
  have c3 := CB2.out.2.1 3 _ rfl
  go_upto_region 9 with (fail)
  clear e0 e1 e2 e3 e4 e5 e6 ef c0 c1 c2 c3
  have CB3 := hid (CB2.out.other (c := w.heap.size + 1) (j := 1) (v := .int .i64 s) (by omega))
  have CE3 := hid (CE2.out.set 1 (.int .i64 s) (by simp))
  simp only [List.set_cons_succ, List.set_cons_zero] at CE3
  have CR3 := hid (CR2.out.other (c := w.heap.size + 1) (j := 1) (v := .int .i64 s) (by omega))
  have HB3 := hid (HB2.out.setCell (p := ⟨w.heap.size + 1, 1, none⟩) (Nat.le_succ _) (.int .i64 s))
  clear CE2 CR2 CB2 HB2
  generalize w2.setCell ⟨w.heap.size + 1, 1, none⟩ (.int .i64 s) = w3 at *
  have hbE : w.heap.size + 1 ≠ b := by omega
  refine wp_region_held_drew (S := fun w' => Ce w' b [.int .u64 s, .int .u64 a, .int .u64 q, .int .u64 m]) (by kernel_rfl) ?_ (fun hHeld => ?_)
  · exact CB3.out
  refine tk 0 (v := ?_) rfl (by kernel_rfl) (by kernel_rfl) (by kernel_rfl) (fun _ _ _ h => h) rfl ?_ hHeld ?_; rotate_left; (focus (intro w hSw; (try dsimp only at hSw); have c1 := hSw.2.1 1 _ rfl; have c2 := hSw.2.1 2 _ rfl; have c3 := hSw.2.1 3 _ rfl;  go_simp; (try with_reducible rfl))); (try simp only [Act.put, List.setIfInBounds_toArray, List.set_cons_zero, List.set_cons_succ])
  refine tk 1 (v := ?_) rfl (by kernel_rfl) (by kernel_rfl) (by kernel_rfl) (fun _ _ _ h => h) rfl ?_ hHeld ?_; rotate_left; (focus (intro w hSw; (try dsimp only at hSw); have c1 := hSw.2.1 1 _ rfl; have c2 := hSw.2.1 2 _ rfl; have c3 := hSw.2.1 3 _ rfl;  go_simp; (try with_reducible rfl))); (try simp only [Act.put, List.setIfInBounds_toArray, List.set_cons_zero, List.set_cons_succ])
  refine tk 2 (v := ?_) rfl (by kernel_rfl) (by kernel_rfl) (by kernel_rfl) (fun _ _ _ h => h) rfl ?_ hHeld ?_; rotate_left; (focus (intro w hSw; (try dsimp only at hSw); have c1 := hSw.2.1 1 _ rfl; have c2 := hSw.2.1 2 _ rfl; have c3 := hSw.2.1 3 _ rfl;  go_simp; (try with_reducible rfl))); (try simp only [Act.put, List.setIfInBounds_toArray, List.set_cons_zero, List.set_cons_succ])
  refine tk 3 (v := ?_) rfl (by kernel_rfl) (by kernel_rfl) (by kernel_rfl) (fun _ _ _ h => h) rfl ?_ hHeld ?_; rotate_left; (focus (intro w hSw; (try dsimp only at hSw); have c1 := hSw.2.1 1 _ rfl; have c2 := hSw.2.1 2 _ rfl; have c3 := hSw.2.1 3 _ rfl;  go_simp; (try with_reducible rfl))); (try simp only [Act.put, List.setIfInBounds_toArray, List.set_cons_zero, List.set_cons_succ])
  refine tk 4 (v := ?_) rfl (by kernel_rfl) (by kernel_rfl) (by kernel_rfl) (fun _ _ _ h => h) rfl ?_ hHeld ?_; rotate_left; (focus (intro w hSw; (try dsimp only at hSw); have c1 := hSw.2.1 1 _ rfl; have c2 := hSw.2.1 2 _ rfl; have c3 := hSw.2.1 3 _ rfl;  go_simp; (try with_reducible rfl))); (try simp only [Act.put, List.setIfInBounds_toArray, List.set_cons_zero, List.set_cons_succ])
  refine tk 5 (v := ?_) rfl (by kernel_rfl) (by kernel_rfl) (by kernel_rfl) (fun _ _ _ h => h) rfl ?_ hHeld ?_; rotate_left; (focus (intro w hSw; (try dsimp only at hSw); have c1 := hSw.2.1 1 _ rfl; have c2 := hSw.2.1 2 _ rfl; have c3 := hSw.2.1 3 _ rfl;  go_simp; (try with_reducible rfl))); (try simp only [Act.put, List.setIfInBounds_toArray, List.set_cons_zero, List.set_cons_succ])
  refine tk 6 (v := ?_) rfl (by kernel_rfl) (by kernel_rfl) (by kernel_rfl) (fun _ _ _ h => h) rfl ?_ hHeld ?_; rotate_left; (focus (intro w hSw; (try dsimp only at hSw); have c1 := hSw.2.1 1 _ rfl; have c2 := hSw.2.1 2 _ rfl; have c3 := hSw.2.1 3 _ rfl;  go_simp; (try with_reducible rfl))); (try simp only [Act.put, List.setIfInBounds_toArray, List.set_cons_zero, List.set_cons_succ])
  refine tk 7 (v := ?_) rfl (by kernel_rfl) (by kernel_rfl) (by kernel_rfl) (fun _ _ _ h => h) rfl ?_ hHeld ?_; rotate_left; (focus (intro w hSw; (try dsimp only at hSw); have c1 := hSw.2.1 1 _ rfl; have c2 := hSw.2.1 2 _ rfl; have c3 := hSw.2.1 3 _ rfl;  go_simp; (try with_reducible rfl))); (try simp only [Act.put, List.setIfInBounds_toArray, List.set_cons_zero, List.set_cons_succ])
  refine tk 8 (v := ?_) rfl (by kernel_rfl) (by kernel_rfl) (by kernel_rfl) (fun _ _ _ h => h) rfl ?_ hHeld ?_; rotate_left; (focus (intro w hSw; (try dsimp only at hSw); have c1 := hSw.2.1 1 _ rfl; have c2 := hSw.2.1 2 _ rfl; have c3 := hSw.2.1 3 _ rfl;  go_simp; (try with_reducible rfl))); (try simp only [Act.put, List.setIfInBounds_toArray, List.set_cons_zero, List.set_cons_succ])
  refine tk 9 (v := ?_) rfl (by kernel_rfl) (by kernel_rfl) (by kernel_rfl) (fun _ _ _ h => h) rfl ?_ hHeld ?_; rotate_left; (focus (intro w hSw; (try dsimp only at hSw); have c1 := hSw.2.1 1 _ rfl; have c2 := hSw.2.1 2 _ rfl; have c3 := hSw.2.1 3 _ rfl;  go_simp; (try with_reducible rfl))); (try simp only [Act.put, List.setIfInBounds_toArray, List.set_cons_zero, List.set_cons_succ])
  refine tk 10 (v := ?_) rfl (by kernel_rfl) (by kernel_rfl) (by kernel_rfl) (fun _ _ _ h => h) rfl ?_ hHeld ?_; rotate_left; (focus (intro w hSw; (try dsimp only at hSw); have c1 := hSw.2.1 1 _ rfl; have c2 := hSw.2.1 2 _ rfl; have c3 := hSw.2.1 3 _ rfl;  go_simp; (try with_reducible rfl))); (try simp only [Act.put, List.setIfInBounds_toArray, List.set_cons_zero, List.set_cons_succ])
  refine tk 11 (v := ?_) rfl (by kernel_rfl) (by kernel_rfl) (by kernel_rfl) (fun _ _ _ h => h) rfl ?_ hHeld ?_; rotate_left; (focus (intro w hSw; (try dsimp only at hSw); have c1 := hSw.2.1 1 _ rfl; have c2 := hSw.2.1 2 _ rfl; have c3 := hSw.2.1 3 _ rfl;  go_simp; (try with_reducible rfl))); (try simp only [Act.put, List.setIfInBounds_toArray, List.set_cons_zero, List.set_cons_succ])
  refine tk 12 (v := ?_) rfl (by kernel_rfl) (by kernel_rfl) (by kernel_rfl) (fun _ _ _ h => h) rfl ?_ hHeld ?_; rotate_left; (focus (intro w hSw; (try dsimp only at hSw); have c1 := hSw.2.1 1 _ rfl; have c2 := hSw.2.1 2 _ rfl; have c3 := hSw.2.1 3 _ rfl;  go_simp; (try with_reducible rfl))); (try simp only [Act.put, List.setIfInBounds_toArray, List.set_cons_zero, List.set_cons_succ])
  have CE4 := hid (show Ce w3.drew (w.heap.size + 1) _ from CE3.out)
  have CR4 := hid (show Ce w3.drew w.heap.size _ from CR3.out)
  have HB4 := hid (show Below w.heap.size w w3.drew from by have := below_drewN HB3.out 1; exact this)
  clear CE3 CR3 HB3
  generalize w3.drew = w4 at *
  refine only 13 rfl (by kernel_rfl) rfl (fun K hK => ?_)
  refine ov_store rfl rfl rfl (CE4.out.store1 2 rfl a) ?_
  refine hK.out _ _ (Ce.other hHeld hbE) (fun hH0 => ?_)
  clear hK
  try simp only [Act.put, List.setIfInBounds_toArray, List.set_cons_zero, List.set_cons_succ]
  have CE5 := hid (CE4.out.set 2 (.int .i64 a) (by simp))
  simp only [List.set_cons_succ, List.set_cons_zero] at CE5
  have CR5 := hid (CR4.out.other (c := w.heap.size + 1) (j := 2) (v := .int .i64 a) (by omega))
  have HB5 := hid (HB4.out.setCell (p := ⟨w.heap.size + 1, 2, none⟩) (Nat.le_succ _) (.int .i64 a))
  clear CE4 CR4 HB4
  refine tk 14 (v := ?_) rfl (by kernel_rfl) (by kernel_rfl) (by kernel_rfl) (fun _ _ _ h => h) rfl ?_ hH0 ?_; rotate_left; (focus (intro w hSw; (try dsimp only at hSw);  go_simp; (try with_reducible rfl))); (try simp only [Act.put, List.setIfInBounds_toArray, List.set_cons_zero, List.set_cons_succ])
  refine only 15 rfl (by kernel_rfl) rfl (fun K hK => ?_)
  refine ov_store rfl rfl rfl (CE5.out.store1 3 rfl q) ?_
  refine hK.out _ _ (Ce.other hH0 hbE) (fun hH1 => ?_)
  clear hK
  try simp only [Act.put, List.setIfInBounds_toArray, List.set_cons_zero, List.set_cons_succ]
  have CE6 := hid (CE5.out.set 3 (.int .i64 q) (by simp))
  simp only [List.set_cons_succ, List.set_cons_zero] at CE6
  have CR6 := hid (CR5.out.other (c := w.heap.size + 1) (j := 3) (v := .int .i64 q) (by omega))
  have HB6 := hid (HB5.out.setCell (p := ⟨w.heap.size + 1, 3, none⟩) (Nat.le_succ _) (.int .i64 q))
  clear CE5 CR5 HB5
  refine tk 16 (v := ?_) rfl (by kernel_rfl) (by kernel_rfl) (by kernel_rfl) (fun _ _ _ h => h) rfl ?_ hH1 ?_; rotate_left; (focus (intro w hSw; (try dsimp only at hSw);  go_simp; (try with_reducible rfl))); (try simp only [Act.put, List.setIfInBounds_toArray, List.set_cons_zero, List.set_cons_succ])
  refine only 17 rfl (by kernel_rfl) rfl (fun K hK => ?_)
  refine ov_store rfl rfl rfl (CE6.out.store1 4 rfl m) ?_
  refine hK.out _ _ (Ce.other hH1 hbE) (fun hH2 => ?_)
  clear hK
  try simp only [Act.put, List.setIfInBounds_toArray, List.set_cons_zero, List.set_cons_succ]
  have CE7 := hid (CE6.out.set 4 (.int .i64 m) (by simp))
  simp only [List.set_cons_succ, List.set_cons_zero] at CE7
  have CR7 := hid (CR6.out.other (c := w.heap.size + 1) (j := 4) (v := .int .i64 m) (by omega))
  have HB7 := hid (HB6.out.setCell (p := ⟨w.heap.size + 1, 4, none⟩) (Nat.le_succ _) (.int .i64 m))
  clear CE6 CR6 HB6
  refine wpAnyH_done (by kernel_rfl) ?_ _
  have CE3 := CE7
  have CR3 := CR7
  have HB3 := HB7
  clear CE7 CR7 HB7 hHeld hH0 hH1 hH2 CB3
  have e0 := CE3.out.2.1 0 _ rfl
  have e1 := CE3.out.2.1 1 _ rfl
  have e2 := CE3.out.2.1 2 _ rfl
  have e3 := CE3.out.2.1 3 _ rfl
  have e4 := CE3.out.2.1 4 _ rfl
  have e5 := CE3.out.2.1 5 _ rfl
  have e6 := CE3.out.2.1 6 _ rfl
  have ef := CE3.out.2.2
  have r0 := CR3.out.2.1 0 _ rfl
  have r1 := CR3.out.2.1 1 _ rfl
  have r2 := CR3.out.2.1 2 _ rfl
  have r3 := CR3.out.2.1 3 _ rfl
  have r4 := CR3.out.2.1 4 _ rfl
  have r5 := CR3.out.2.1 5 _ rfl
  have r6 := CR3.out.2.1 6 _ rfl
  have rf := CR3.out.2.2
  go_wp2_with fail
  clear e0 e1 e2 e3 e4 e5 e6 ef r0 r1 r2 r3 r4 r5 r6 rf
  have CF := hid (Ce.s7 CR3.out (.int .i64 1) (.int .i64 s) (.int .i64 a) (.int .i64 q) (.int .i64 m) (.int .u64 0) (.int .u64 0))
  have BF := hid (below_s7 HB3.out (Nat.le_refl _) (.int .i64 1) (.int .i64 s) (.int .i64 a) (.int .i64 q) (.int .i64 m) (.int .u64 0) (.int .u64 0))
  unfold S7 at CF BF
  refine at_world (fun w' => Ce w' w.heap.size [.int .i64 1, .int .i64 s, .int .i64 a, .int .i64 q, .int .i64 m, .int .u64 0, .int .u64 0] ∧ Below w.heap.size w w') ⟨CF.out, BF.out⟩ (fun wf hwf => ?_)
  obtain ⟨hc2, hbf⟩ := hwf
  have x0 := hc2.2.1 0 _ rfl
  have x1 := hc2.2.1 1 _ rfl
  have x2 := hc2.2.1 2 _ rfl
  have x3 := hc2.2.1 3 _ rfl
  have x4 := hc2.2.1 4 _ rfl
  have x5 := hc2.2.1 5 _ rfl
  have x6 := hc2.2.1 6 _ rfl
  refine bodyPost_ret (v := .tuple #[.agg #[.int .i64 1, .int .i64 s, .int .i64 a, .int .i64 q, .int .i64 m, .int .u64 0, .int .u64 0], .bool true]) (by simp [results, Tryd.results51, go_sem, x0, x1, x2, x3, x4, x5, x6]) rfl ?_
  exact ⟨rfl, hbf⟩
set_option maxRecDepth 100000 in
set_option maxHeartbeats 4000000 in
theorem entry_rot (ya yb : Int) (b d : Nat) (hd : 2 ≤ d) (w : World) (hc : Ce w b [.int .u64 ya, .int .u64 yb]) : Calls Tryd.prog 51 #[.int .i64 6, .slice (some ⟨b, 0, none⟩) 2 d] w fun e w' => e = .returned (.tuple #[.agg #[.int .i64 6, .int .i64 0, .int .i64 0, .int .i64 0, .int .i64 0, .int .u64 ya, .int .u64 yb], .bool true]) ∧ Below w.heap.size w w' := by
  have HC := hid hc
  clear hc
  have NU := hid (fun (w : World) => (show Calls Tryd.prog 46 #[.agg #[.int .i64 6, .int .i64 0, .int .i64 0, .int .i64 0, .int .i64 0, .int .u64 0, .int .u64 0]] w fun r w' => ∃ b : Nat, r = .returned (.slice (some ⟨b, 0, none⟩) 2 2) ∧ Below w.heap.size w w' from (nums_any ⟨6, 0, 0, 0, 0, zKy⟩ (fun x hx => by simp [nmL, zKy] at hx; subst hx; unfold U64; omega) w).mono (fun r w' h => by obtain ⟨b, e, _, _, hb⟩ := h; exact ⟨b, e, hb⟩)))
  go_enter Tryd.func51, Tryd.ntmps51
  go_upto_region 2 with (fail)
  have CR := hid ((Ce.made (w := w) (l := [.int .i64 0, .int .i64 0, .int .i64 0, .int .i64 0, .int .i64 0, .int .u64 0, .int .u64 0]) (T := 56) (g := w.heap.size) rfl).alloc (.cells #[.int .i64 6, .int .i64 0, .int .i64 0, .int .i64 0, .int .i64 0, .int .u64 0, .int .u64 0] 56))
  have CE := hid (Ce.made (w := w.alloc (.cells #[.int .i64 0, .int .i64 0, .int .i64 0, .int .i64 0, .int .i64 0, .int .u64 0, .int .u64 0] 56)) (l := [.int .i64 6, .int .i64 0, .int .i64 0, .int .i64 0, .int .i64 0, .int .u64 0, .int .u64 0]) (T := 56) (g := w.heap.size + 1) (by simp))
  have CB := hid ((HC.out.alloc (.cells #[.int .i64 0, .int .i64 0, .int .i64 0, .int .i64 0, .int .i64 0, .int .u64 0, .int .u64 0] 56)).alloc (.cells #[.int .i64 6, .int .i64 0, .int .i64 0, .int .i64 0, .int .i64 0, .int .u64 0, .int .u64 0] 56))
  have HB := hid (((Below.refl w.heap.size w).alloc (Nat.le_refl _) (.cells #[.int .i64 0, .int .i64 0, .int .i64 0, .int .i64 0, .int .i64 0, .int .u64 0, .int .u64 0] 56)).alloc (by simp) (.cells #[.int .i64 6, .int .i64 0, .int .i64 0, .int .i64 0, .int .i64 0, .int .u64 0, .int .u64 0] 56))
  simp only [List.toArray] at CR CE
  generalize (w.alloc (.cells #[.int .i64 0, .int .i64 0, .int .i64 0, .int .i64 0, .int .i64 0, .int .u64 0, .int .u64 0] 56)).alloc (.cells #[.int .i64 6, .int .i64 0, .int .i64 0, .int .i64 0, .int .i64 0, .int .u64 0, .int .u64 0] 56) = w1 at *
  have lb := HC.out.1
  have e0 := CE.out.2.1 0 _ rfl
  have e1 := CE.out.2.1 1 _ rfl
  have e2 := CE.out.2.1 2 _ rfl
  have e3 := CE.out.2.1 3 _ rfl
  have e4 := CE.out.2.1 4 _ rfl
  have e5 := CE.out.2.1 5 _ rfl
  have e6 := CE.out.2.1 6 _ rfl
  have ef := CE.out.2.2
  go_wp2_with fail
  clear e0 e1 e2 e3 e4 e5 e6 ef
  refine (NU.out _).mono ?_
  rintro x w2 ⟨bb, rfl, hb⟩
  have CR2 := hid (CR.out.below hb)
  have CE2 := hid (CE.out.below hb)
  have CB2 := hid (CB.out.below hb)
  have HB2 := hid (HB.out.trans (hb.mono HB.out.size))
  clear hb CR CE CB HB NU
  have e0 := CE2.out.2.1 0 _ rfl
  have e1 := CE2.out.2.1 1 _ rfl
  have e2 := CE2.out.2.1 2 _ rfl
  have e3 := CE2.out.2.1 3 _ rfl
  have e4 := CE2.out.2.1 4 _ rfl
  have e5 := CE2.out.2.1 5 _ rfl
  have e6 := CE2.out.2.1 6 _ rfl
  have ef := CE2.out.2.2
  have c0 := CB2.out.2.1 0 _ rfl
  have c1 := CB2.out.2.1 1 _ rfl
  go_upto_region 5 with (fail)
  clear e0 e1 e2 e3 e4 e5 e6 ef c0 c1
  refine wp_region_held_drew (S := fun w' => Ce w' b [.int .u64 ya, .int .u64 yb]) (by kernel_rfl) ?_ (fun hHeld => ?_)
  · exact CB2.out
  refine tk 0 (v := ?_) rfl (by kernel_rfl) (by kernel_rfl) (by kernel_rfl) (fun _ _ _ h => h) rfl ?_ hHeld ?_; rotate_left; (focus (intro w hSw; (try dsimp only at hSw); have c0 := hSw.2.1 0 _ rfl; have c1 := hSw.2.1 1 _ rfl;  go_simp; (try with_reducible rfl))); (try simp only [Act.put, List.setIfInBounds_toArray, List.set_cons_zero, List.set_cons_succ])
  refine tk 1 (v := ?_) rfl (by kernel_rfl) (by kernel_rfl) (by kernel_rfl) (fun _ _ _ h => h) rfl ?_ hHeld ?_; rotate_left; (focus (intro w hSw; (try dsimp only at hSw); have c0 := hSw.2.1 0 _ rfl; have c1 := hSw.2.1 1 _ rfl;  go_simp; (try with_reducible rfl))); (try simp only [Act.put, List.setIfInBounds_toArray, List.set_cons_zero, List.set_cons_succ])
  refine tk 2 (v := ?_) rfl (by kernel_rfl) (by kernel_rfl) (by kernel_rfl) (fun _ _ _ h => h) rfl ?_ hHeld ?_; rotate_left; (focus (intro w hSw; (try dsimp only at hSw); have c0 := hSw.2.1 0 _ rfl; have c1 := hSw.2.1 1 _ rfl;  go_simp; (try with_reducible rfl))); (try simp only [Act.put, List.setIfInBounds_toArray, List.set_cons_zero, List.set_cons_succ])
  refine tk 3 (v := ?_) rfl (by kernel_rfl) (by kernel_rfl) (by kernel_rfl) (fun _ _ _ h => h) rfl ?_ hHeld ?_; rotate_left; (focus (intro w hSw; (try dsimp only at hSw); have c0 := hSw.2.1 0 _ rfl; have c1 := hSw.2.1 1 _ rfl;  go_simp; (try with_reducible rfl))); (try simp only [Act.put, List.setIfInBounds_toArray, List.set_cons_zero, List.set_cons_succ])
  refine tk 4 (v := ?_) rfl (by kernel_rfl) (by kernel_rfl) (by kernel_rfl) (fun _ _ _ h => h) rfl ?_ hHeld ?_; rotate_left; (focus (intro w hSw; (try dsimp only at hSw); have c0 := hSw.2.1 0 _ rfl; have c1 := hSw.2.1 1 _ rfl;  go_simp; (try with_reducible rfl))); (try simp only [Act.put, List.setIfInBounds_toArray, List.set_cons_zero, List.set_cons_succ])
  refine tk 5 (v := ?_) rfl (by kernel_rfl) (by kernel_rfl) (by kernel_rfl) (fun _ _ _ h => h) rfl ?_ hHeld ?_; rotate_left; (focus (intro w hSw; (try dsimp only at hSw); have c0 := hSw.2.1 0 _ rfl; have c1 := hSw.2.1 1 _ rfl;  go_simp; (try with_reducible rfl))); (try simp only [Act.put, List.setIfInBounds_toArray, List.set_cons_zero, List.set_cons_succ])
  refine tk 6 (v := ?_) rfl (by kernel_rfl) (by kernel_rfl) (by kernel_rfl) (fun _ _ _ h => h) rfl ?_ hHeld ?_; rotate_left; (focus (intro w hSw; (try dsimp only at hSw); have c0 := hSw.2.1 0 _ rfl; have c1 := hSw.2.1 1 _ rfl;  go_simp; (try with_reducible rfl))); (try simp only [Act.put, List.setIfInBounds_toArray, List.set_cons_zero, List.set_cons_succ])
  refine tk 7 (v := ?_) rfl (by kernel_rfl) (by kernel_rfl) (by kernel_rfl) (fun _ _ _ h => h) rfl ?_ hHeld ?_; rotate_left; (focus (intro w hSw; (try dsimp only at hSw); have c0 := hSw.2.1 0 _ rfl; have c1 := hSw.2.1 1 _ rfl;  go_simp; (try with_reducible rfl))); (try simp only [Act.put, List.setIfInBounds_toArray, List.set_cons_zero, List.set_cons_succ])
  have hbE : w.heap.size + 1 ≠ b := by omega
  have CE4 := hid (show Ce w2.drew (w.heap.size + 1) _ from CE2.out)
  have CR4 := hid (show Ce w2.drew w.heap.size _ from CR2.out)
  have HB4 := hid (show Below w.heap.size w w2.drew from by have := below_drewN HB2.out 1; exact this)
  clear CE2 CR2 HB2 CB2
  generalize w2.drew = w4 at *
  refine only 8 rfl (by kernel_rfl) rfl (fun K hK => ?_)
  refine ov_store rfl rfl rfl (CE4.out.storeA2 rfl rfl ya yb) ?_
  refine hK.out _ _ ((Ce.other hHeld hbE).other hbE) (fun hH => ?_)
  clear hK hHeld
  try simp only [Act.put, List.setIfInBounds_toArray, List.set_cons_zero, List.set_cons_succ]
  have CE3 := hid (CE4.out.setA2 (.int .u64 ya) (.int .u64 yb))
  have CR3 := hid (show Ce (w4.setCells (w.heap.size + 1) 5 [.int .u64 ya, .int .u64 yb]) w.heap.size [.int .i64 0, .int .i64 0, .int .i64 0, .int .i64 0, .int .i64 0, .int .u64 0, .int .u64 0] from (CR4.out.other (c := w.heap.size + 1) (j := 5) (v := .int .u64 ya) (by omega)).other (c := w.heap.size + 1) (j := 6) (v := .int .u64 yb) (by omega))
  have HB3 := hid (show Below w.heap.size w (w4.setCells (w.heap.size + 1) 5 [.int .u64 ya, .int .u64 yb]) from (HB4.out.setCell (p := ⟨w.heap.size + 1, 5, none⟩) (Nat.le_succ _) (.int .u64 ya)).setCell (p := ⟨w.heap.size + 1, 6, none⟩) (Nat.le_succ _) (.int .u64 yb))
  clear CE4 CR4 HB4 hH
  generalize w4.setCells (w.heap.size + 1) 5 [.int .u64 ya, .int .u64 yb] = w3 at *
  refine wpAnyH_done (by kernel_rfl) ?_ _
  have e0 := CE3.out.2.1 0 _ rfl
  have e1 := CE3.out.2.1 1 _ rfl
  have e2 := CE3.out.2.1 2 _ rfl
  have e3 := CE3.out.2.1 3 _ rfl
  have e4 := CE3.out.2.1 4 _ rfl
  have e5 := CE3.out.2.1 5 _ rfl
  have e6 := CE3.out.2.1 6 _ rfl
  have ef := CE3.out.2.2
  have r0 := CR3.out.2.1 0 _ rfl
  have r1 := CR3.out.2.1 1 _ rfl
  have r2 := CR3.out.2.1 2 _ rfl
  have r3 := CR3.out.2.1 3 _ rfl
  have r4 := CR3.out.2.1 4 _ rfl
  have r5 := CR3.out.2.1 5 _ rfl
  have r6 := CR3.out.2.1 6 _ rfl
  have rf := CR3.out.2.2
  go_wp2_with fail
  clear e0 e1 e2 e3 e4 e5 e6 ef r0 r1 r2 r3 r4 r5 r6 rf
  have CF := hid (Ce.s7 CR3.out (.int .i64 6) (.int .i64 0) (.int .i64 0) (.int .i64 0) (.int .i64 0) (.int .u64 ya) (.int .u64 yb))
  have BF := hid (below_s7 HB3.out (Nat.le_refl _) (.int .i64 6) (.int .i64 0) (.int .i64 0) (.int .i64 0) (.int .i64 0) (.int .u64 ya) (.int .u64 yb))
  unfold S7 at CF BF
  refine at_world (fun w' => Ce w' w.heap.size [.int .i64 6, .int .i64 0, .int .i64 0, .int .i64 0, .int .i64 0, .int .u64 ya, .int .u64 yb] ∧ Below w.heap.size w w') ⟨CF.out, BF.out⟩ (fun wf hwf => ?_)
  obtain ⟨hc2, hbf⟩ := hwf
  have x0 := hc2.2.1 0 _ rfl
  have x1 := hc2.2.1 1 _ rfl
  have x2 := hc2.2.1 2 _ rfl
  have x3 := hc2.2.1 3 _ rfl
  have x4 := hc2.2.1 4 _ rfl
  have x5 := hc2.2.1 5 _ rfl
  have x6 := hc2.2.1 6 _ rfl
  refine bodyPost_ret (v := .tuple #[.agg #[.int .i64 6, .int .i64 0, .int .i64 0, .int .i64 0, .int .i64 0, .int .u64 ya, .int .u64 yb], .bool true]) (by simp [results, Tryd.results51, go_sem, x0, x1, x2, x3, x4, x5, x6]) rfl ?_
  exact ⟨rfl, hbf⟩
end Go.Proofs.YtljgcffpijjliaaDoor

/- An entry's shape; a text, split; an entry of its numbers. -/
namespace Go.Proofs.YtljgcffpijjliaaDoor
set_option linter.unusedVariables false
set_option linter.unusedSimpArgs false
open Go.RowKit Go.ChangeShapes Go.WideShapes Go.ChangeAt

theorem chk_shape {e : En} (h : chk e = 0) : (∃ s a q m, e = ⟨1, s, a, q, m, zKy⟩ ∧ (0 ≤ s ∧ s ≤ 63) ∧ (0 ≤ a ∧ a ≤ 4294967295) ∧ (0 ≤ q ∧ q ≤ 65535) ∧ (0 ≤ m ∧ m ≤ 8)) ∨ (∃ ya yb, e = ⟨6, 0, 0, 0, 0, ⟨ya, yb⟩⟩) ∨ (∃ k s, e = ⟨k, s, 0, 0, 0, zKy⟩ ∧ ¬ k = 1 ∧ ¬ k = 6 ∧ 0 ≤ s ∧ s ≤ 63) := by
  obtain ⟨k1, k2, s1, s2, s3⟩ := chk_ok h
  obtain ⟨k, s, a, q, m, ya, yb⟩ := e
  simp only at k1 k2 s1 s2 s3
  unfold chk at h
  simp only at h
  split at h
  · cases h
  split at h
  · cases h
  split at h
  · cases h
  rename_i h3
  split at h
  · rename_i hE
    by_cases e1 : k = 1
    · subst e1
      simp [its, eqE, eqK, zKy] at hE
      obtain ⟨rfl, rfl⟩ := hE
      simp [mayB, inR] at h3
      exact .inl ⟨s, a, q, m, rfl, ⟨s1, s2⟩, by omega, by omega, by omega⟩
    · by_cases e6 : k = 6
      · subst e6
        simp [its, eqE, eqK, zKy] at hE
        obtain ⟨rfl, rfl, rfl, rfl⟩ := hE
        exact .inr (.inl ⟨ya, yb, rfl⟩)
      · simp [its, eqE, eqK, zKy, e1, e6] at hE
        obtain ⟨rfl, rfl, rfl, rfl, rfl⟩ := hE
        exact .inr (.inr ⟨k, s, rfl, e1, e6, s1, s2⟩)
  · cases h
theorem oentry_any (e : En) (hk : chk e = 0) (b d : Nat) (hd : (nmL e).length ≤ d) (w : World) (hc : Ce w b ((nmL e).map fun x => .int .u64 x)) : Calls Tryd.prog 51 #[.int .i64 e.k, .slice (some ⟨b, 0, none⟩) (nmL e).length d] w fun r w' => r = .returned (.tuple #[enV e, .bool true]) ∧ Below w.heap.size w w' := by
  rcases chk_shape hk with ⟨s, a, q, m, rfl, hs, ha, hq, hm⟩ | ⟨ya, yb, rfl⟩ | ⟨k, s, rfl, h1, h6, hs⟩
  · exact entry_bind s a q m hs ha hq hm b d hd w hc
  · exact entry_rot ya yb b d hd w hc
  · have hn : nmL ⟨k, s, 0, 0, 0, zKy⟩ = [s] := by unfold nmL; rw [if_neg h1, if_neg h6]
    rw [hn] at hd hc ⊢
    exact entry_slot k s h1 h6 hs b d hd w hc
theorem nm_pos (e : En) : 0 < (nmL e).length := by unfold nmL; split; simp; split <;> simp
theorem nm_of {e : En} (hu : ∀ x ∈ nmL e, U64 x) {w : World} {b : Nat} (hb : b < w.heap.size) (h : ∀ j, j < (nmL e).length → w.cell? ⟨b, j, none⟩ = some (.int .u64 ((((nmL e).getD j 0).toNat : Nat) : Int))) (hf : ∀ j, w.frozen? ⟨b, j, none⟩ = false) : Ce w b ((nmL e).map fun x => .int .u64 x) := by
  refine ⟨hb, fun j v hj => ?_, hf⟩
  rw [List.getElem?_map] at hj
  obtain ⟨x, hx, rfl⟩ := Option.map_eq_some_iff.1 hj
  have hl : j < (nmL e).length := (List.getElem?_eq_some_iff.1 hx).1
  rw [h j hl, List.getD_eq_getElem?_getD, hx]
  have := hu x (List.mem_of_getElem? hx)
  unfold U64 at this
  show some (Value.int .u64 (x.toNat : Int)) = _
  rw [Int.toNat_of_nonneg this.1]
theorem wd_ne {j k : Int} (h1 : 1 ≤ j) (h2 : j < k) (h3 : k ≤ 6) : wdL j ≠ wdL k := by
  have hj : j = 1 ∨ j = 2 ∨ j = 3 ∨ j = 4 ∨ j = 5 := by omega
  have hk : k = 2 ∨ k = 3 ∨ k = 4 ∨ k = 5 ∨ k = 6 := by omega
  rcases hj with rfl | rfl | rfl | rfl | rfl <;> rcases hk with rfl | rfl | rfl | rfl | rfl <;> first | (exfalso; omega) | decide
def wrdV (e : En) : List Value := (wrds e).map fun l => .string ⟨l.toArray⟩
theorem split_call (e : En) (hu : ∀ x ∈ nmL e, U64 x) (m : Int) (w : World) (hm : w.cell? ⟨1, 0, none⟩ = some (.int .i64 m)) : Calls Tryd.prog 49 #[.string ⟨(txtL e).toArray⟩, .string ⟨#[32]⟩, .int .i64 6] w fun r w' => ∃ (S d : Nat), r = .returned (.slice (some ⟨S, 0, none⟩) ((nmL e).length + 1) d) ∧ (nmL e).length + 1 ≤ d ∧ Ce w' S (wrdV e) ∧ Below w.heap.size w w' := by
  have hsz : (⟨(txtL e).toArray⟩ : ByteArray).size = (txtL e).length := rfl
  have h1 := txt_len hu
  have h2 := wrds_len e
  have h3 := nm_len e
  have h4 := txt_long e
  have hsp := sp_txt e (min 6 ((⟨(txtL e).toArray⟩ : ByteArray).size + 1) - 1) (by rw [hsz]; omega)
  have := Tryd.strings_SplitN ⟨(txtL e).toArray⟩ ⟨#[32]⟩ 6 m w (by rw [hsz]; omega) hm (by decide) (by decide) (by decide)
  rw [hsp] at this
  refine this.mono fun r w' h => ?_
  obtain ⟨rfl, rfl⟩ := h
  have hl : (wrdV e).length = (nmL e).length + 1 := by unfold wrdV; rw [List.length_map, h2]
  have hm2 := Ce.made (w := w) (l := ((wrds e).map fun x => (⟨x.toArray⟩ : ByteArray)).map Value.string ++ List.replicate (min 6 ((⟨(txtL e).toArray⟩ : ByteArray).size + 1) - ((wrds e).map fun x => (⟨x.toArray⟩ : ByteArray)).length) (Value.string ByteArray.empty)) (T := 9) (g := w.heap.size) rfl
  refine ⟨w.heap.size, min 6 ((⟨(txtL e).toArray⟩ : ByteArray).size + 1), by rw [List.length_map, h2], by rw [hsz]; omega, ⟨hm2.1, fun j v hj => hm2.2.1 j v ?_, hm2.2.2⟩, (Below.refl _ w).alloc (Nat.le_refl _) _⟩
  have hj2 : j < (wrdV e).length := (List.getElem?_eq_some_iff.1 hj).1
  rw [List.getElem?_append_left (by simp; omega), List.map_map]
  exact hj
theorem wv0 (e : En) : (wrdV e)[0]? = some (.string ⟨(wdL e.k).toArray⟩) := rfl
theorem wvs (e : En) (j : Nat) (hj : j < (nmL e).length) : (wrdV e)[1 + j]? = some (.string ⟨(Lib.decDigits ((nmL e).getD j 0).toNat).toArray⟩) := by
  obtain ⟨x, hx⟩ : ∃ x, (nmL e)[j]? = some x := ⟨_, List.getElem?_eq_getElem hj⟩
  unfold wrdV wrds
  rw [Nat.add_comm 1 j, List.map_cons, List.getElem?_cons_succ, List.map_map, List.getElem?_map, hx, List.getD_eq_getElem?_getD, hx]
  rfl
theorem num_lt {e : En} (hu : ∀ x ∈ nmL e, U64 x) (j : Nat) (hj : j < (nmL e).length) : ((nmL e).getD j 0).toNat < 18446744073709551616 := by
  obtain ⟨x, hx⟩ : ∃ x, (nmL e)[j]? = some x := ⟨_, List.getElem?_eq_getElem hj⟩
  have := hu x (List.mem_of_getElem? hx)
  unfold U64 at this
  rw [List.getD_eq_getElem?_getD, hx]
  show x.toNat < _
  omega
end Go.Proofs.YtljgcffpijjliaaDoor

/- The reference's digits, word, numbers, text. -/
namespace Go.Proofs.YtljgcffpijjliaaDoor
set_option linter.unusedVariables false
set_option linter.unusedSimpArgs false
open Go.RowKit Go.ChangeShapes Go.WideShapes Go.ChangeAt

set_option maxRecDepth 100000 in
set_option maxHeartbeats 4000000 in
theorem rword_any (k : Int) (w : World) : Calls Tryd.prog 52 #[.int .i64 k] w fun e w' => e = .returned (.string ⟨(wdL k).toArray⟩) ∧ w = w' := by
  by_cases h1 : k = 1
  · subst h1
    go_enter Tryd.func52, Tryd.ntmps52
    go_wp2
    go_ret
    exact ⟨rfl, rfl⟩
  · have b1 : (k == 1) = false := by simpa using h1
    by_cases h2 : k = 2
    · subst h2
      go_enter Tryd.func52, Tryd.ntmps52
      go_wp2
      go_ret
      exact ⟨rfl, rfl⟩
    · have b2 : (k == 2) = false := by simpa using h2
      by_cases h3 : k = 3
      · subst h3
        go_enter Tryd.func52, Tryd.ntmps52
        go_wp2
        go_ret
        exact ⟨rfl, rfl⟩
      · have b3 : (k == 3) = false := by simpa using h3
        by_cases h4 : k = 4
        · subst h4
          go_enter Tryd.func52, Tryd.ntmps52
          go_wp2
          go_ret
          exact ⟨rfl, rfl⟩
        · have b4 : (k == 4) = false := by simpa using h4
          by_cases h5 : k = 5
          · subst h5
            go_enter Tryd.func52, Tryd.ntmps52
            go_wp2
            go_ret
            exact ⟨rfl, rfl⟩
          · have b5 : (k == 5) = false := by simpa using h5
            have HW := hid (show wdL k = [114, 111, 116, 97, 116, 101] from by unfold wdL; rw [if_neg h1, if_neg h2, if_neg h3, if_neg h4, if_neg h5])
            rw [HW.out]
            clear h1 h2 h3 h4 h5
            go_enter Tryd.func52, Tryd.ntmps52
            go_wp2
            go_ret
            exact ⟨rfl, rfl⟩
set_option maxRecDepth 100000 in
set_option maxHeartbeats 4000000 in
theorem rnums_any (e : En) (h : ∀ x ∈ nmL e, U64 x) (w : World) : Calls Tryd.prog 53 #[enV e] w fun r w' => ∃ b : Nat, r = .returned (.slice (some ⟨b, 0, none⟩) (nmL e).length (nmL e).length) ∧ w.heap.size ≤ b ∧ Ce w' b ((nmL e).map fun x => Value.int .u64 x) ∧ Below w.heap.size w w' := by
  obtain ⟨k, s, a, q, m, ya, yb⟩ := e
  unfold enV
  by_cases h1 : k = 1
  · subst h1
    have HN := hid (show nmL ⟨1, s, a, q, m, ⟨ya, yb⟩⟩ = [s, a, q, m] from rfl)
    have w1_ := wr_u (h s (by rw [HN.out]; simp))
    have w2_ := wr_u (h a (by rw [HN.out]; simp))
    have w3_ := wr_u (h q (by rw [HN.out]; simp))
    have w4_ := wr_u (h m (by rw [HN.out]; simp))
    clear h
    rw [show (nmL ⟨1, s, a, q, m, ⟨ya, yb⟩⟩).length = 4 from rfl]
    go_enter Tryd.func53, Tryd.ntmps53
    have HB := hid ((Below.refl w.heap.size w).alloc (Nat.le_refl _) (.cells #[.int .i64 1, .int .i64 s, .int .i64 a, .int .i64 q, .int .i64 m, .int .u64 ya, .int .u64 yb] 56))
    go_wp2_with fail
    go_ret
    refine ⟨_, rfl, ?_, ?_, HB.out.alloc HB.out.size _⟩
    · simp
    · rw [HN.out]; exact Ce.made (l := [.int .u64 s, .int .u64 a, .int .u64 q, .int .u64 m]) (by simp)
  · have b1 : (k == 1) = false := by simpa using h1
    by_cases h6 : k = 6
    · subst h6
      have HN := hid (show nmL ⟨6, s, a, q, m, ⟨ya, yb⟩⟩ = [ya, yb] from rfl)
      clear h
      rw [show (nmL ⟨6, s, a, q, m, ⟨ya, yb⟩⟩).length = 2 from rfl]
      go_enter Tryd.func53, Tryd.ntmps53
      have HB := hid ((Below.refl w.heap.size w).alloc (Nat.le_refl _) (.cells #[.int .i64 6, .int .i64 s, .int .i64 a, .int .i64 q, .int .i64 m, .int .u64 ya, .int .u64 yb] 56))
      go_wp2_with fail
      go_ret
      refine ⟨_, rfl, ?_, ?_, HB.out.alloc HB.out.size _⟩
      · simp
      · rw [HN.out]; exact Ce.made (l := [.int .u64 ya, .int .u64 yb]) (by simp)
    · have b6 : (k == 6) = false := by simpa using h6
      have HN := hid (show nmL ⟨k, s, a, q, m, ⟨ya, yb⟩⟩ = [s] from by unfold nmL; rw [if_neg h1, if_neg h6])
      have w1_ := wr_u (h s (by rw [HN.out]; simp))
      clear h h1 h6
      rw [show (nmL ⟨k, s, a, q, m, ⟨ya, yb⟩⟩).length = 1 from by rw [HN.out]; rfl]
      go_enter Tryd.func53, Tryd.ntmps53
      have HB := hid ((Below.refl w.heap.size w).alloc (Nat.le_refl _) (.cells #[.int .i64 k, .int .i64 s, .int .i64 a, .int .i64 q, .int .i64 m, .int .u64 ya, .int .u64 yb] 56))
      go_wp2_with fail
      go_ret
      refine ⟨_, rfl, ?_, ?_, HB.out.alloc HB.out.size _⟩
      · simp
      · rw [HN.out]; exact Ce.made (l := [.int .u64 s]) (by simp)
theorem dec_le (u : Nat) : (Lib.decDigits u).length ≤ u + 1 := by
  induction u using Nat.strongRecOn with
  | ind u ih =>
    by_cases h : u < 10
    · rw [dec_small h]; simp
    · rw [dec_step h, List.length_append]
      have := ih (u / 10) (by omega)
      simp
      omega
set_option maxRecDepth 100000 in
set_option maxHeartbeats 4000000 in
theorem rdig_any (u : Nat) (hu : u < 18446744073709551616) (w : World) : Calls Tryd.prog 54 #[.int .u64 (u : Int)] w fun e w' => e = .returned (.string ⟨(Lib.decDigits u).toArray⟩) ∧ Below w.heap.size w w' := by
  induction u using Nat.strongRecOn generalizing w with
  | ind u ih =>
  by_cases h : u < 10
  · rw [dec_small h]
    have i0 : ¬ (10 : Int) ≤ u := by omega
    have q1 : IntKind.u8.wrap (u : Int) = u := by rw [IntKind.wrap_u8]; omega
    have q2 : IntKind.u8.wrap (48 + (u : Int)) = 48 + u := by rw [IntKind.wrap_u8]; omega
    have q3 : IntKind.u64.wrap (48 + (u : Int)) = 48 + u := by rw [IntKind.wrap_u64]; omega
    clear ih hu
    have HB := hid ((Below.refl w.heap.size w).alloc (Nat.le_refl _) (.cells #[.int .u8 (48 + (u : Int))] 5))
    have hcv : (convert 63 9 (.slice (some ⟨w.heap.size, 0, none⟩) 1 1)).run Tryd.prog (w.alloc (.cells #[.int .u8 (48 + (u : Int))] 5)) = .ok (.string ⟨[UInt8.ofNat (48 + u)].toArray⟩) (w.alloc (.cells #[.int .u8 (48 + (u : Int))] 5)) :=
      run_convert_bytes_back (P := Tryd.prog) _ 63 9 5 ⟨w.heap.size, 0, none⟩ 1 [UInt8.ofNat (48 + u)] Tryd.underlying63 Tryd.underlying5 Tryd.underlying9 (fun j hj => by
        obtain rfl : j = 0 := by simp at hj; omega
        have h2 := (Ce.made (w := w) (l := [.int .u8 (48 + (u : Int))]) (T := 5) (g := w.heap.size) rfl).2.1 0 _ rfl
        simp only [List.toArray] at h2
        rw [show (⟨w.heap.size, 0, none⟩ : Addr).add 0 = ⟨w.heap.size, 0, none⟩ from rfl, h2]
        show _ = some (Value.int .u8 ((UInt8.ofNat (48 + u)).toNat : Int))
        rw [dig_of u h]
        simp)
    go_enter Tryd.func54, Tryd.ntmps54
    go_wp2_with fail
    go_ret
    exact ⟨rfl, HB.out⟩
  · have D1 := hid (fun w => ih (u / 10) (by omega) (by omega) w)
    have D2 := hid (fun w => ih (u % 10) (by omega) (by omega) w)
    have i0 : (10 : Int) ≤ u := by omega
    have l1 : (Lib.decDigits (u / 10)).length ≤ 20 := dec_len (by omega)
    have l2 : (Lib.decDigits (u % 10)).length ≤ 20 := dec_len (by omega)
    have HE := hid (show Lib.decDigits u = Lib.decDigits (u / 10) ++ Lib.decDigits (u % 10) from by rw [dec_step h, dec_small (show u % 10 < 10 by omega)])
    obtain ⟨a1, ha1⟩ : ∃ a : Int, a = ((u / 10 : Nat) : Int) := ⟨_, rfl⟩
    obtain ⟨a2, ha2⟩ : ∃ a : Int, a = ((u % 10 : Nat) : Int) := ⟨_, rfl⟩
    rw [← ha1] at D1
    rw [← ha2] at D2
    have q1 : (u : Int) / 10 = a1 := by omega
    have q2 : (u : Int) % 10 = a2 := by omega
    have q3 : (u : Int).tdiv 10 = a1 := by rw [Int.tdiv_eq_ediv_of_nonneg (by omega)]; omega
    have q4 : (u : Int).tmod 10 = a2 := by rw [Int.tmod_eq_emod_of_nonneg (by omega)]; omega
    have q5 : IntKind.u64.wrap a1 = a1 := by rw [IntKind.wrap_u64]; omega
    have q6 : IntKind.u64.wrap a2 = a2 := by rw [IntKind.wrap_u64]; omega
    clear ha1 ha2
    rw [HE.out]
    generalize Lib.decDigits (u / 10) = A at *
    generalize Lib.decDigits (u % 10) = B at *
    have SA := hid (fun w => run_string_add_lists (P := Tryd.prog) w A B (by omega) (by omega))
    clear ih hu h HE
    go_enter Tryd.func54, Tryd.ntmps54
    go_wp2_with fail
    refine (D1.out _).mono ?_
    rintro e w2 ⟨rfl, hb⟩
    have HB2 := hid hb
    clear hb
    go_wp2_with fail
    refine (D2.out _).mono ?_
    rintro e w3 ⟨rfl, hb⟩
    have HB3 := hid (then_ HB2.out hb)
    have SA3 := SA.out w3
    clear hb HB2 SA
    go_wp2_with fail
    go_ret
    exact ⟨rfl, HB3.out⟩
def txP (e : En) (i : Nat) : List UInt8 := wdL e.k ++ Lib.joinTail [32] (((nmL e).map fun x => Lib.decDigits x.toNat).take i)
theorem txP_0 (e : En) : txP e 0 = wdL e.k := by unfold txP Lib.joinTail; simp
theorem txP_n (e : En) : txP e (nmL e).length = txtL e := by unfold txP txtL wrds; rw [List.take_of_length_le (by simp), Lib.join_cons]
theorem txP_s (e : En) {i : Nat} {u : Nat} (h : ((nmL e).map fun x => Value.int .u64 x)[i]? = some (.int .u64 (u : Int))) : txP e (i + 1) = txP e i ++ [32] ++ Lib.decDigits u := by
  unfold txP
  have : ((nmL e).map fun x => Lib.decDigits x.toNat)[i]? = some (Lib.decDigits u) := by
    rw [List.getElem?_map] at h ⊢
    obtain ⟨x, hx, h2⟩ := Option.map_eq_some_iff.1 h
    rw [hx]
    injection h2 with _ h3
    rw [Option.map_some, h3]; simp
  rw [Lib.joinTail_take_succ _ _ _ _ this]
  simp
theorem txP_len (e : En) (h : ∀ x ∈ nmL e, U64 x) (i : Nat) : (txP e i).length ≤ 1000 := by
  have h1 := txt_len h
  unfold txP
  rw [← txP_n] at h1
  unfold txP at h1
  rw [List.length_append] at h1 ⊢
  rw [List.take_of_length_le (by simp)] at h1
  have h2 := Lib.joinTail_take_le [32] ((nmL e).map fun x => Lib.decDigits x.toNat) i
  omega
set_option maxRecDepth 100000 in
set_option maxHeartbeats 4000000 in
theorem rtext_any (e : En) (hu : ∀ x ∈ nmL e, U64 x) (w : World) : Calls Tryd.prog 33 #[enV e] w fun r w' => r = .returned (.string ⟨(txtL e).toArray⟩) ∧ Below w.heap.size w w' := by
  obtain ⟨n, hn⟩ : ∃ n, n = (nmL e).length := ⟨_, rfl⟩
  have hn4 : n ≤ 4 := by rw [hn]; exact nm_len e
  have NU := hid (rnums_any e hu)
  have WD := hid (rword_any e.k)
  have HF := hid (fun k (hk : k < n) => nm_at e hu (by omega : k < (nmL e).length))
  have HS := hid (fun (i u : Nat) h => txP_s e (i := i) (u := u) h)
  have HL := hid (txP_len e hu)
  have H0 := hid (txP_0 e)
  have HN := hid (show txP e n = txtL e from by rw [hn]; exact txP_n e)
  rw [← hn] at NU
  obtain ⟨cs, hcs⟩ : ∃ cs, cs = (nmL e).map fun x => Value.int .u64 x := ⟨_, rfl⟩
  rw [← hcs] at NU HF
  simp only [← hcs] at HS
  obtain ⟨F, hF⟩ : ∃ F, F = txP e := ⟨_, rfl⟩
  rw [← hF] at H0 HN HL
  simp only [← hF] at HS
  rw [← HN.out]
  rw [← H0.out] at WD
  clear hcs hF hn hu H0 HN
  obtain ⟨k, s, a, q, m, ya, yb⟩ := e
  unfold enV at NU ⊢
  simp only at NU WD
  go_enter Tryd.func33, Tryd.ntmps33
  go_upto_region 1 with (fail)
  have CE := hid (Ce.made (w := w) (l := [.int .i64 k, .int .i64 s, .int .i64 a, .int .i64 q, .int .i64 m, .int .u64 ya, .int .u64 yb]) (T := 56) (g := w.heap.size) rfl)
  have HB := hid ((Below.refl w.heap.size w).alloc (Nat.le_refl _) (.cells #[.int .i64 k, .int .i64 s, .int .i64 a, .int .i64 q, .int .i64 m, .int .u64 ya, .int .u64 yb] 56))
  simp only [List.toArray] at CE
  generalize w.alloc (.cells #[.int .i64 k, .int .i64 s, .int .i64 a, .int .i64 q, .int .i64 m, .int .u64 ya, .int .u64 yb] 56) = w1 at *
  have e0 := CE.out.2.1 0 _ rfl
  have e1 := CE.out.2.1 1 _ rfl
  have e2 := CE.out.2.1 2 _ rfl
  have e3 := CE.out.2.1 3 _ rfl
  have e4 := CE.out.2.1 4 _ rfl
  have e5 := CE.out.2.1 5 _ rfl
  have e6 := CE.out.2.1 6 _ rfl
  have ef := CE.out.2.2
  go_wp2_with fail
  refine (WD.out _).mono ?_
  rintro x w' ⟨rfl, rfl⟩
  go_wp2_with fail
  clear e0 e1 e2 e3 e4 e5 e6 ef
  refine (NU.out _).mono ?_
  rintro x w4 ⟨N, rfl, hNl, hn, hb⟩
  have CN4 := hid hn
  have HB4 := hid (HB.out.trans (hb.mono HB.out.size))
  clear hn hb CE NU WD HB
  go_wp2_with fail
  go_loopw [3, 5] (fun s i wr => ∃ k : Nat, k ≤ n ∧ s = .string ⟨(F k).toArray⟩ ∧ i = .int .i64 (k : Int) ∧ Ce wr N cs ∧ Below w.heap.size w wr) (fun _ i _ => n - (intOf i).toNat)
  case atStart => exact ⟨0, by omega, rfl, rfl, CN4.out, HB4.out⟩
  case round =>
    clear CN4 HB4
    obtain ⟨k, hk, rfl, rfl, hce, hb⟩ := hrel
    have CN := hid hce
    have HB := hid hb
    clear hce hb
    by_cases hlt : k < n
    · have i0 : (0 : Int) ≤ k := by omega
      have i1 : (k : Int) < n := by omega
      obtain ⟨u, hu1, hu2, -⟩ := HF.out k hlt
      have HE := hid (HS.out k u hu2)
      have hu2' := hu2
      have hl1 := HL.out k
      have hl2 := dec_len hu1
      have SA1 := run_string_add_lists (P := Tryd.prog) wr (F k) [32] (by omega) (by decide)
      have SA2 := hid (fun w => run_string_add_lists (P := Tryd.prog) w (F k ++ [32]) (Lib.decDigits u) (by simp; omega) (by omega))
      have n0 := CN.out.2.1 k _ hu2
      have DG := hid (fun w => rdig_any u hu1 w)
      clear hu2 hu2' HF HS HL hl1 hl2
      go_wp2_with fail
      refine (DG.out _).mono ?_
      rintro e w5 ⟨rfl, hb⟩
      have CN5 := hid (CN.out.below hb)
      have HB5 := hid (HB.out.trans (hb.mono HB.out.size))
      have SA3 := SA2.out w5
      clear hb CN HB n0 SA1 SA2
      go_wp2_with fail
      go_roundw
      case rel => exact ⟨k + 1, by omega, by rw [HE.out]; simp, by go_num, CN5.out, HB5.out⟩
      case measure => simp [intOf]; omega
    · have e : k = n := by omega
      subst e
      clear HF HS HL
      go_wp2_with fail
      go_ret
      exact ⟨rfl, HB.out⟩
end Go.Proofs.YtljgcffpijjliaaDoor

/- A number read of any bytes. -/
namespace Go.Proofs.YtljgcffpijjliaaDoor
set_option linter.unusedVariables false
set_option linter.unusedSimpArgs false
open Go.RowKit Go.ChangeShapes Go.WideShapes Go.ChangeAt

/-- Digits, on from a number. -/
def dgs (n : Nat) : List UInt8 → Option Nat
  | [] => some n
  | c :: t => if c.toNat < 48 ∨ 57 < c.toNat then none else if 18446744073709551615 < n * 10 + (c.toNat - 48) then none else dgs (n * 10 + (c.toNat - 48)) t
def numO (l : List UInt8) : Option Nat := if l = [] ∨ l.head? = some 48 ∧ 1 < l.length then none else dgs 0 l
theorem dgs_lt : ∀ {l : List UInt8} {n m : Nat}, n < 18446744073709551616 → dgs n l = some m → m < 18446744073709551616
  | [], n, m, hn, h => by injection h with h; omega
  | c :: t, n, m, hn, h => by
    unfold dgs at h
    split at h
    · cases h
    · split at h
      · cases h
      · exact dgs_lt (by omega) h
theorem numO_lt {l : List UInt8} {m : Nat} (h : numO l = some m) : m < 18446744073709551616 := by
  unfold numO at h
  split at h
  · cases h
  · exact dgs_lt (by decide) h
theorem dgs_bad {n : Nat} {l : List UInt8} {c : UInt8} (hc : c.toNat < 48 ∨ 57 < c.toNat) (h : c ∈ l) : dgs n l = none := by
  induction l generalizing n with
  | nil => cases h
  | cons d t ih =>
    unfold dgs
    rcases List.mem_cons.1 h with rfl | h
    · rw [if_pos hc]
    · split
      · rfl
      · split
        · rfl
        · exact ih h
theorem numO_bad {l : List UInt8} {c : UInt8} (hc : c.toNat < 48 ∨ 57 < c.toNat) (h : c ∈ l) : numO l = none := by
  unfold numO
  split
  · rfl
  · exact dgs_bad hc h
def opU (o : Option Nat) : Int := ((o.getD 0 : Nat) : Int)
set_option maxRecDepth 100000 in
set_option maxHeartbeats 4000000 in
theorem digit_no (r : Int) (h : r < 48 ∨ 57 < r) (w : World) : Calls Tryd.prog 78 #[.int .i32 r] w fun e w' => e = .returned (.tuple #[.int .u64 0, .bool false]) ∧ w = w' := by
  by_cases h1 : r < 48
  · clear h
    go_enter Tryd.func78, Tryd.ntmps78
    go_wp2
    go_ret2
    exact ⟨rfl, rfl⟩
  · have h2 : (57 : Int) < r := by omega
    clear h
    go_enter Tryd.func78, Tryd.ntmps78
    go_wp2
    go_ret2
    exact ⟨rfl, rfl⟩
set_option maxRecDepth 100000 in
set_option maxHeartbeats 4000000 in
theorem pnumO_any (s : ByteArray) (w : World) : Calls Tryd.prog 68 #[.string s] w fun e w' => e = .returned (.tuple #[.int .u64 (opU (numO s.toList)), .bool (numO s.toList).isSome]) ∧ Below w.heap.size w w' := by
  obtain ⟨l, hl⟩ : ∃ l, l = s.toList := ⟨_, rfl⟩
  have hsz : s.size = l.length := by rw [hl, ByteArray.toList_eq]; exact (Array.length_toList).symm
  have hat : ∀ i (h : i < s.size) (h2 : i < l.length), s[i] = l[i] := fun i h h2 => by simp only [hl, ByteArray.toList_eq]; rfl
  rw [← hl]
  by_cases h0 : s.size = 0
  · have hl0 : l = [] := List.length_eq_zero_iff.1 (by omega)
    have hE : numO l = none := by unfold numO; rw [if_pos (.inl hl0)]
    have hnl : s.toList = [] := by rw [← hl]; exact hl0
    have hem : s.toList.isEmpty = true := by rw [hnl]; rfl
    rw [hE]
    clear hE hl0 hat hsz hl
    go_enter Tryd.func68, Tryd.ntmps68
    go_wp2_with fail
    go_ret2
    exact ⟨rfl, Below.refl _ _⟩
  have hp0 : 0 < s.size := by omega
  have hnl : ¬ s.toList = [] := by rw [← hl]; intro e; rw [e] at hsz; simp only [List.length_nil] at hsz; omega
  have hem : s.toList.isEmpty = false := by rw [← hl]; cases l with | nil => simp only [List.length_nil] at hsz; omega | cons _ _ => rfl
  obtain ⟨c0, t0, hc0⟩ : ∃ c t, l = c :: t := by cases l with | nil => simp only [List.length_nil] at hsz; omega | cons c t => exact ⟨c, t, rfl⟩
  have h00 : s[0] = c0 := by rw [hat 0 hp0 (by omega)]; simp [hc0]
  by_cases hz : c0 = 48 ∧ 1 < l.length
  · have hE : numO l = none := by unfold numO; rw [if_pos (.inr ⟨by rw [hc0, hz.1]; rfl, hz.2⟩)]
    have hb : ((s[0].toNat : Int) == 48) = true := by rw [h00, hz.1]; rfl
    have h1 : (1 : Int) < s.size := by omega
    have h1n : 1 < s.size := by omega
    rw [hE]
    clear hE hat hsz hl hz h00 hc0 h0
    go_enter Tryd.func68, Tryd.ntmps68
    go_wp2_with fail
    go_ret2
    exact ⟨rfl, Below.refl _ _⟩
  have hN : numO l = dgs 0 l := by unfold numO; rw [if_neg]; rintro (h | ⟨h, h'⟩); exact absurd h (by rw [hc0]; simp); exact hz ⟨by rw [hc0] at h; simpa using h, h'⟩
  have hB : ((s[0].toNat : Int) == 48) = false ∨ ((s[0].toNat : Int) == 48) = true ∧ ¬ (1 : Int) < s.size := by
    by_cases h : c0 = 48
    · refine .inr ⟨by rw [h00, h]; rfl, fun h' => hz ⟨h, by omega⟩⟩
    · refine .inl ?_
      rw [h00]
      have : c0.toNat ≠ 48 := fun e => h (UInt8.toNat_inj.1 e)
      simp
      omega
  rw [hN]
  clear hz hc0 h00 hN hl h0
  obtain ⟨L, hL⟩ : ∃ L, L = s.size := ⟨_, rfl⟩
  have HL := hid hL
  have HAT := hid hat
  have HSZ := hid hsz
  have HK0 := hid (World.iter_heap w s 0)
  have HB0 := hid (show Below w.heap.size w (w.iter s 0) from (Below.refl _ w).alloc (Nat.le_refl _) _)
  clear hL hat hsz
  have ROUND : True := trivial
  rcases hB with hb2 | ⟨hb2, hn1⟩
  all_goals
    try have hn2 : ¬ 1 < s.size := by omega
    go_enter Tryd.func68, Tryd.ntmps68
    go_wp2_with fail
    go_loopw [4] (fun n wr => ∃ (pos m : Nat), pos ≤ L ∧ wr.heap[w.heap.size]? = some (.stringIter s pos) ∧ n = .int .u64 (m : Int) ∧ m < 18446744073709551616 ∧ dgs m (l.drop pos) = dgs 0 l ∧ Below w.heap.size w wr) (fun _ wr => L - wr.iterPos w.heap.size)
    case atStart => exact ⟨0, 0, by omega, HK0.out, rfl, by decide, rfl, HB0.out⟩
    case round =>
      clear HK0 HB0 hem hnl hb2
      try clear hn1 hn2
      obtain ⟨pos, m, hps, hk, rfl, hm, hv, hnx⟩ := hrel
      by_cases hp0 : pos < L
      · have hp : pos < s.size := by rw [← HL.out]; exact hp0
        have hpl : pos < l.length := by rw [← HSZ.out]; exact hp
        obtain ⟨c, hc⟩ : ∃ c, c = l[pos]'hpl := ⟨_, rfl⟩
        have hsc : s[pos]'hp = c := by rw [HAT.out pos hp hpl, hc]
        have hdr : l.drop pos = c :: l.drop (pos + 1) := by rw [hc]; exact List.drop_eq_getElem_cons hpl
        rw [hdr] at hv
        by_cases hd : c.toNat < 48 ∨ 57 < c.toNat
        · have hE : dgs 0 l = none := by rw [← hv]; unfold dgs; rw [if_pos hd]
          have hnext := fun ty => Lib.run_next_any_at (P := Tryd.prog) wr w.heap.size s pos ty hk hp
          obtain ⟨rr, hrr⟩ : ∃ r, r = (Utf8.decode s pos).1 := ⟨_, rfl⟩
          obtain ⟨p2, hp2⟩ : ∃ r, r = pos + (Utf8.decode s pos).2 := ⟨_, rfl⟩
          have hbad : (rr : Int) < 48 ∨ (57 : Int) < rr := by
            by_cases h128 : c.toNat < 128
            · have e := decode_ascii s pos hp (by rw [hsc]; exact h128)
              rw [hrr, e]
              show ((s[pos]'hp).toNat : Int) < 48 ∨ (57 : Int) < ((s[pos]'hp).toNat : Int)
              rw [hsc]
              omega
            · have e := decode_high s pos hp (by rw [hsc]; omega)
              omega
          simp only [← hrr, ← hp2] at hnext
          have DN := hid (fun w => digit_no (rr : Int) hbad w)
          have HNX := hid (Lib.below_iterAt hnx (Nat.le_refl _) s p2)
          have HE := hid hE
          clear hE hv hdr hd hsc hc hrr hp2 hbad hnx hps hm hp0
          clear hk
          generalize wr.iterAt w.heap.size s p2 = W1 at *
          go_wp2_with fail
          refine (DN.out _).mono ?_
          rintro e W2 ⟨rfl, rfl⟩
          go_wp2_with fail
          go_ret2
          exact ⟨by rw [HE.out]; rfl, HNX.out⟩
        · obtain ⟨d, hdd⟩ : ∃ d, d = c.toNat - 48 := ⟨_, rfl⟩
          have hd10 : d < 10 := by omega
          have hvv : (((s[pos]'hp).toNat : Nat) : Int) = 48 + (d : Int) := by rw [hsc]; omega
          have h128 : (s[pos]'hp).toNat < 128 := by rw [hsc]; omega
          have hnext : ∀ ty, (Instr.next (.pointer (some ⟨w.heap.size, 0, none⟩)) true ty).run Tryd.prog wr = _ := fun ty => Lib.run_next_ascii_at wr w.heap.size s pos ty hk hp h128
          have hst : (if 18446744073709551615 < m * 10 + d then none else dgs (m * 10 + d) (l.drop (pos + 1))) = dgs 0 l := by rw [← hv, hdd]; show _ = (if c.toNat < 48 ∨ 57 < c.toNat then none else _); rw [if_neg hd]
          have HNX := hid (Lib.below_iterAt hnx (Nat.le_refl _) s (pos + 1))
          have hk1 := Lib.iterAt_heap wr w.heap.size s pos (pos + 1) hk
          have hmu : wr.iterPos w.heap.size = pos := by simp [World.iterPos, hk]
          have hmu1 : (wr.iterAt w.heap.size s (pos + 1)).iterPos w.heap.size = pos + 1 := by simp [World.iterPos, hk1]
          rw [hvv] at hnext
          have HK1 := hid hk1
          have HM := hid hmu
          have HM1 := hid hmu1
          have HP0 := hid hp0
          clear hk1 hmu hmu1 hk hnx hvv h128 hpl hp hp0 hv hdr hd hdd hsc hc
          generalize wr.iterAt w.heap.size s (pos + 1) = W1 at *
          have q1 : IntKind.u64.wrap (18446744073709551615 - (d : Int)) = 18446744073709551615 - d := by rw [IntKind.wrap_u64]; omega
          by_cases hov : 18446744073709551615 < m * 10 + d
          · rw [if_pos hov] at hst
            have HST := hid hst
            have q2 : (18446744073709551615 - (d : Int)) / 10 < m := by omega
            have q2t : (18446744073709551615 - (d : Int)).tdiv 10 < m := by rw [Int.tdiv_eq_ediv_of_nonneg (by omega)]; omega
            clear hst hov
            go_wp2_with fail
            refine (digit_any d hd10 _).mono ?_
            rintro e W2 ⟨rfl, rfl⟩
            go_wp2_with fail
            go_ret2
            exact ⟨by rw [← HST.out]; rfl, HNX.out⟩
          · rw [if_neg hov] at hst
            have HST := hid hst
            have q2 : ¬ (18446744073709551615 - (d : Int)) / 10 < m := by omega
            have q2t : ¬ (18446744073709551615 - (d : Int)).tdiv 10 < m := by rw [Int.tdiv_eq_ediv_of_nonneg (by omega)]; omega
            have q3 : IntKind.u64.wrap ((m : Int) * 10) = m * 10 := by rw [IntKind.wrap_u64]; omega
            have q4 : IntKind.u64.wrap ((m : Int) * 10 + d) = m * 10 + d := by rw [IntKind.wrap_u64]; omega
            have HOV := hid hov
            clear hst hov
            go_wp2_with fail
            refine (digit_any d hd10 _).mono ?_
            rintro e W2 ⟨rfl, rfl⟩
            go_wp2_with fail
            go_roundw
            case rel => exact ⟨pos + 1, m * 10 + d, by have := HP0.out; omega, HK1.out, by go_num, by have := HOV.out; omega, HST.out, HNX.out⟩
            case measure => rw [HM.out, HM1.out]; have := HP0.out; omega
      · have hpe : pos = L := by omega
        have hp : ¬ pos < s.size := by rw [← HL.out]; exact hp0
        have hnext : ∀ ty, (Instr.next (.pointer (some ⟨w.heap.size, 0, none⟩)) true ty).run Tryd.prog wr = _ := fun ty => Lib.run_next_end_at wr w.heap.size s pos ty hk hp
        have HN := hid hnx
        rw [List.drop_eq_nil_of_le (by rw [← HSZ.out, ← HL.out, hpe]; exact Nat.le_refl _)] at hv
        have HV := hid hv
        clear hk hnx hp hpe hp0 hv
        go_wp2_with fail
        go_ret2
        exact ⟨by rw [← HV.out]; rfl, HN.out⟩
end Go.Proofs.YtljgcffpijjliaaDoor

/- An entry of any numbers. -/
namespace Go.Proofs.YtljgcffpijjliaaDoor
set_option linter.unusedVariables false
set_option linter.unusedSimpArgs false
open Go.RowKit Go.ChangeShapes Go.WideShapes Go.ChangeAt

set_option maxRecDepth 100000 in
set_option maxHeartbeats 4000000 in
theorem entry_slot2 (k s0 s : Int) (h1 : ¬ k = 1) (h6 : ¬ k = 6) (ws_ : IntKind.i64.wrap s0 = s) (b d : Nat) (hd : 1 ≤ d) (w : World) (hc : Ce w b [.int .u64 s0]) : Calls Tryd.prog 51 #[.int .i64 k, .slice (some ⟨b, 0, none⟩) 1 d] w fun e w' => e = .returned (.tuple #[.agg #[.int .i64 k, .int .i64 s, .int .i64 0, .int .i64 0, .int .i64 0, .int .u64 0, .int .u64 0], .bool true]) ∧ Below w.heap.size w w' := by
  have HC := hid hc
  clear hc
  have b1 : (k == 1) = false := by simpa using h1
  have b6 : (k == 6) = false := by simpa using h6
  have NU := hid (fun (w : World) => (show Calls Tryd.prog 46 #[.agg #[.int .i64 k, .int .i64 0, .int .i64 0, .int .i64 0, .int .i64 0, .int .u64 0, .int .u64 0]] w fun r w' => ∃ b : Nat, r = .returned (.slice (some ⟨b, 0, none⟩) 1 1) ∧ Below w.heap.size w w' from (nums_any ⟨k, 0, 0, 0, 0, zKy⟩ (fun x hx => by simp [nmL, zKy, h1, h6] at hx; subst hx; unfold U64; omega) w).mono (fun r w' h => by obtain ⟨b, e, _, _, hb⟩ := h; exact ⟨b, by rw [e]; simp [nmL, h1, h6], hb⟩)))
  clear h1 h6
  go_enter Tryd.func51, Tryd.ntmps51
  go_upto_region 2 with (fail)
  have CR := hid ((Ce.made (w := w) (l := [.int .i64 0, .int .i64 0, .int .i64 0, .int .i64 0, .int .i64 0, .int .u64 0, .int .u64 0]) (T := 56) (g := w.heap.size) rfl).alloc (.cells #[.int .i64 k, .int .i64 0, .int .i64 0, .int .i64 0, .int .i64 0, .int .u64 0, .int .u64 0] 56))
  have CE := hid (Ce.made (w := w.alloc (.cells #[.int .i64 0, .int .i64 0, .int .i64 0, .int .i64 0, .int .i64 0, .int .u64 0, .int .u64 0] 56)) (l := [.int .i64 k, .int .i64 0, .int .i64 0, .int .i64 0, .int .i64 0, .int .u64 0, .int .u64 0]) (T := 56) (g := w.heap.size + 1) (by simp))
  have CB := hid ((HC.out.alloc (.cells #[.int .i64 0, .int .i64 0, .int .i64 0, .int .i64 0, .int .i64 0, .int .u64 0, .int .u64 0] 56)).alloc (.cells #[.int .i64 k, .int .i64 0, .int .i64 0, .int .i64 0, .int .i64 0, .int .u64 0, .int .u64 0] 56))
  have HB := hid (((Below.refl w.heap.size w).alloc (Nat.le_refl _) (.cells #[.int .i64 0, .int .i64 0, .int .i64 0, .int .i64 0, .int .i64 0, .int .u64 0, .int .u64 0] 56)).alloc (by simp) (.cells #[.int .i64 k, .int .i64 0, .int .i64 0, .int .i64 0, .int .i64 0, .int .u64 0, .int .u64 0] 56))
  simp only [List.toArray] at CR CE
  generalize (w.alloc (.cells #[.int .i64 0, .int .i64 0, .int .i64 0, .int .i64 0, .int .i64 0, .int .u64 0, .int .u64 0] 56)).alloc (.cells #[.int .i64 k, .int .i64 0, .int .i64 0, .int .i64 0, .int .i64 0, .int .u64 0, .int .u64 0] 56) = w1 at *
  have lb := HC.out.1
  have e0 := CE.out.2.1 0 _ rfl
  have e1 := CE.out.2.1 1 _ rfl
  have e2 := CE.out.2.1 2 _ rfl
  have e3 := CE.out.2.1 3 _ rfl
  have e4 := CE.out.2.1 4 _ rfl
  have e5 := CE.out.2.1 5 _ rfl
  have e6 := CE.out.2.1 6 _ rfl
  have ef := CE.out.2.2
  go_wp2_with fail
  clear e0 e1 e2 e3 e4 e5 e6 ef
  refine (NU.out _).mono ?_
  rintro x w2 ⟨bb, rfl, hb⟩
  have CR2 := hid (CR.out.below hb)
  have CE2 := hid (CE.out.below hb)
  have CB2 := hid (CB.out.below hb)
  have HB2 := hid (HB.out.trans (hb.mono HB.out.size))
  clear hb CR CE CB HB NU
  have e0 := CE2.out.2.1 0 _ rfl
  have e1 := CE2.out.2.1 1 _ rfl
  have e2 := CE2.out.2.1 2 _ rfl
  have e3 := CE2.out.2.1 3 _ rfl
  have e4 := CE2.out.2.1 4 _ rfl
  have e5 := CE2.out.2.1 5 _ rfl
  have e6 := CE2.out.2.1 6 _ rfl
  have ef := CE2.out.2.2
  have c0 := CB2.out.2.1 0 _ rfl
  go_upto_region 10 with (fail)
  clear e0 e1 e2 e3 e4 e5 e6 ef c0
  have CE3 := hid (CE2.out.set 1 (.int .i64 s) (by simp))
  simp only [List.set_cons_succ, List.set_cons_zero] at CE3
  have CR3 := hid (CR2.out.other (c := w.heap.size + 1) (j := 1) (v := .int .i64 s) (by omega))
  have HB3 := hid (HB2.out.setCell (p := ⟨w.heap.size + 1, 1, none⟩) (Nat.le_succ _) (.int .i64 s))
  clear CE2 CR2 CB2 HB2
  generalize w2.setCell ⟨w.heap.size + 1, 1, none⟩ (.int .i64 s) = w3 at *
  have e0 := CE3.out.2.1 0 _ rfl
  have e1 := CE3.out.2.1 1 _ rfl
  have e2 := CE3.out.2.1 2 _ rfl
  have e3 := CE3.out.2.1 3 _ rfl
  have e4 := CE3.out.2.1 4 _ rfl
  have e5 := CE3.out.2.1 5 _ rfl
  have e6 := CE3.out.2.1 6 _ rfl
  have ef := CE3.out.2.2
  have r0 := CR3.out.2.1 0 _ rfl
  have r1 := CR3.out.2.1 1 _ rfl
  have r2 := CR3.out.2.1 2 _ rfl
  have r3 := CR3.out.2.1 3 _ rfl
  have r4 := CR3.out.2.1 4 _ rfl
  have r5 := CR3.out.2.1 5 _ rfl
  have r6 := CR3.out.2.1 6 _ rfl
  have rf := CR3.out.2.2
  go_wp2_with fail
  clear e0 e1 e2 e3 e4 e5 e6 ef r0 r1 r2 r3 r4 r5 r6 rf
  have CF := hid (Ce.s7 CR3.out (.int .i64 k) (.int .i64 s) (.int .i64 0) (.int .i64 0) (.int .i64 0) (.int .u64 0) (.int .u64 0))
  have BF := hid (below_s7 HB3.out (Nat.le_refl _) (.int .i64 k) (.int .i64 s) (.int .i64 0) (.int .i64 0) (.int .i64 0) (.int .u64 0) (.int .u64 0))
  unfold S7 at CF BF
  refine at_world (fun w' => Ce w' w.heap.size [.int .i64 k, .int .i64 s, .int .i64 0, .int .i64 0, .int .i64 0, .int .u64 0, .int .u64 0] ∧ Below w.heap.size w w') ⟨CF.out, BF.out⟩ (fun wf hwf => ?_)
  obtain ⟨hc2, hbf⟩ := hwf
  have x0 := hc2.2.1 0 _ rfl
  have x1 := hc2.2.1 1 _ rfl
  have x2 := hc2.2.1 2 _ rfl
  have x3 := hc2.2.1 3 _ rfl
  have x4 := hc2.2.1 4 _ rfl
  have x5 := hc2.2.1 5 _ rfl
  have x6 := hc2.2.1 6 _ rfl
  refine bodyPost_ret (v := .tuple #[.agg #[.int .i64 k, .int .i64 s, .int .i64 0, .int .i64 0, .int .i64 0, .int .u64 0, .int .u64 0], .bool true]) (by simp [results, Tryd.results51, go_sem, x0, x1, x2, x3, x4, x5, x6]) rfl ?_
  exact ⟨rfl, hbf⟩
set_option maxRecDepth 100000 in
set_option maxHeartbeats 4000000 in
theorem entry_bind2 (s0 a0 q0 m0 s a q m : Int) (ws_ : IntKind.i64.wrap s0 = s) (wa_ : IntKind.i64.wrap a0 = a) (wq_ : IntKind.i64.wrap q0 = q) (wm_ : IntKind.i64.wrap m0 = m) (b d : Nat) (hd : 4 ≤ d) (w : World) (hc : Ce w b [.int .u64 s0, .int .u64 a0, .int .u64 q0, .int .u64 m0]) : Calls Tryd.prog 51 #[.int .i64 1, .slice (some ⟨b, 0, none⟩) 4 d] w fun e w' => e = .returned (.tuple #[.agg #[.int .i64 1, .int .i64 s, .int .i64 a, .int .i64 q, .int .i64 m, .int .u64 0, .int .u64 0], .bool true]) ∧ Below w.heap.size w w' := by
  have HC := hid hc
  clear hc
  have NU := hid (fun (w : World) => (show Calls Tryd.prog 46 #[.agg #[.int .i64 1, .int .i64 0, .int .i64 0, .int .i64 0, .int .i64 0, .int .u64 0, .int .u64 0]] w fun r w' => ∃ b : Nat, r = .returned (.slice (some ⟨b, 0, none⟩) 4 4) ∧ Below w.heap.size w w' from (nums_any ⟨1, 0, 0, 0, 0, zKy⟩ (fun x hx => by simp [nmL, zKy] at hx; subst hx; unfold U64; omega) w).mono (fun r w' h => by obtain ⟨b, e, _, _, hb⟩ := h; exact ⟨b, e, hb⟩)))
  go_enter Tryd.func51, Tryd.ntmps51
  go_upto_region 2 with (fail)
  have CR := hid ((Ce.made (w := w) (l := [.int .i64 0, .int .i64 0, .int .i64 0, .int .i64 0, .int .i64 0, .int .u64 0, .int .u64 0]) (T := 56) (g := w.heap.size) rfl).alloc (.cells #[.int .i64 1, .int .i64 0, .int .i64 0, .int .i64 0, .int .i64 0, .int .u64 0, .int .u64 0] 56))
  have CE := hid (Ce.made (w := w.alloc (.cells #[.int .i64 0, .int .i64 0, .int .i64 0, .int .i64 0, .int .i64 0, .int .u64 0, .int .u64 0] 56)) (l := [.int .i64 1, .int .i64 0, .int .i64 0, .int .i64 0, .int .i64 0, .int .u64 0, .int .u64 0]) (T := 56) (g := w.heap.size + 1) (by simp))
  have CB := hid ((HC.out.alloc (.cells #[.int .i64 0, .int .i64 0, .int .i64 0, .int .i64 0, .int .i64 0, .int .u64 0, .int .u64 0] 56)).alloc (.cells #[.int .i64 1, .int .i64 0, .int .i64 0, .int .i64 0, .int .i64 0, .int .u64 0, .int .u64 0] 56))
  have HB := hid (((Below.refl w.heap.size w).alloc (Nat.le_refl _) (.cells #[.int .i64 0, .int .i64 0, .int .i64 0, .int .i64 0, .int .i64 0, .int .u64 0, .int .u64 0] 56)).alloc (by simp) (.cells #[.int .i64 1, .int .i64 0, .int .i64 0, .int .i64 0, .int .i64 0, .int .u64 0, .int .u64 0] 56))
  simp only [List.toArray] at CR CE
  generalize (w.alloc (.cells #[.int .i64 0, .int .i64 0, .int .i64 0, .int .i64 0, .int .i64 0, .int .u64 0, .int .u64 0] 56)).alloc (.cells #[.int .i64 1, .int .i64 0, .int .i64 0, .int .i64 0, .int .i64 0, .int .u64 0, .int .u64 0] 56) = w1 at *
  have lb := HC.out.1
  have e0 := CE.out.2.1 0 _ rfl
  have e1 := CE.out.2.1 1 _ rfl
  have e2 := CE.out.2.1 2 _ rfl
  have e3 := CE.out.2.1 3 _ rfl
  have e4 := CE.out.2.1 4 _ rfl
  have e5 := CE.out.2.1 5 _ rfl
  have e6 := CE.out.2.1 6 _ rfl
  have ef := CE.out.2.2
  go_wp2_with fail
  clear e0 e1 e2 e3 e4 e5 e6 ef
  refine (NU.out _).mono ?_
  rintro x w2 ⟨bb, rfl, hb⟩
  have CR2 := hid (CR.out.below hb)
  have CE2 := hid (CE.out.below hb)
  have CB2 := hid (CB.out.below hb)
  have HB2 := hid (HB.out.trans (hb.mono HB.out.size))
  clear hb CR CE CB HB NU
  have e0 := CE2.out.2.1 0 _ rfl
  have e1 := CE2.out.2.1 1 _ rfl
  have e2 := CE2.out.2.1 2 _ rfl
  have e3 := CE2.out.2.1 3 _ rfl
  have e4 := CE2.out.2.1 4 _ rfl
  have e5 := CE2.out.2.1 5 _ rfl
  have e6 := CE2.out.2.1 6 _ rfl
  have ef := CE2.out.2.2
  have c0 := CB2.out.2.1 0 _ rfl
  have c1 := CB2.out.2.1 1 _ rfl
  have c2 := CB2.out.2.1 2 _ rfl
  have c3 := CB2.out.2.1 3 _ rfl
  go_upto_region 9 with (fail)
  clear e0 e1 e2 e3 e4 e5 e6 ef c0 c1 c2 c3
  have CB3 := hid (CB2.out.other (c := w.heap.size + 1) (j := 1) (v := .int .i64 s) (by omega))
  have CE3 := hid (CE2.out.set 1 (.int .i64 s) (by simp))
  simp only [List.set_cons_succ, List.set_cons_zero] at CE3
  have CR3 := hid (CR2.out.other (c := w.heap.size + 1) (j := 1) (v := .int .i64 s) (by omega))
  have HB3 := hid (HB2.out.setCell (p := ⟨w.heap.size + 1, 1, none⟩) (Nat.le_succ _) (.int .i64 s))
  clear CE2 CR2 CB2 HB2
  generalize w2.setCell ⟨w.heap.size + 1, 1, none⟩ (.int .i64 s) = w3 at *
  have hbE : w.heap.size + 1 ≠ b := by omega
  refine wp_region_held_drew (S := fun w' => Ce w' b [.int .u64 s0, .int .u64 a0, .int .u64 q0, .int .u64 m0]) (by kernel_rfl) ?_ (fun hHeld => ?_)
  · exact CB3.out
  refine tk 0 (v := ?_) rfl (by kernel_rfl) (by kernel_rfl) (by kernel_rfl) (fun _ _ _ h => h) rfl ?_ hHeld ?_; rotate_left; (focus (intro w hSw; (try dsimp only at hSw); have c1 := hSw.2.1 1 _ rfl; have c2 := hSw.2.1 2 _ rfl; have c3 := hSw.2.1 3 _ rfl;  go_simp; (try with_reducible rfl))); (try simp only [Act.put, List.setIfInBounds_toArray, List.set_cons_zero, List.set_cons_succ])
  refine tk 1 (v := ?_) rfl (by kernel_rfl) (by kernel_rfl) (by kernel_rfl) (fun _ _ _ h => h) rfl ?_ hHeld ?_; rotate_left; (focus (intro w hSw; (try dsimp only at hSw); have c1 := hSw.2.1 1 _ rfl; have c2 := hSw.2.1 2 _ rfl; have c3 := hSw.2.1 3 _ rfl;  go_simp; (try with_reducible rfl))); (try simp only [Act.put, List.setIfInBounds_toArray, List.set_cons_zero, List.set_cons_succ])
  refine tk 2 (v := ?_) rfl (by kernel_rfl) (by kernel_rfl) (by kernel_rfl) (fun _ _ _ h => h) rfl ?_ hHeld ?_; rotate_left; (focus (intro w hSw; (try dsimp only at hSw); have c1 := hSw.2.1 1 _ rfl; have c2 := hSw.2.1 2 _ rfl; have c3 := hSw.2.1 3 _ rfl;  go_simp; (try with_reducible rfl))); (try simp only [Act.put, List.setIfInBounds_toArray, List.set_cons_zero, List.set_cons_succ])
  refine tk 3 (v := ?_) rfl (by kernel_rfl) (by kernel_rfl) (by kernel_rfl) (fun _ _ _ h => h) rfl ?_ hHeld ?_; rotate_left; (focus (intro w hSw; (try dsimp only at hSw); have c1 := hSw.2.1 1 _ rfl; have c2 := hSw.2.1 2 _ rfl; have c3 := hSw.2.1 3 _ rfl;  go_simp; (try with_reducible rfl))); (try simp only [Act.put, List.setIfInBounds_toArray, List.set_cons_zero, List.set_cons_succ])
  refine tk 4 (v := ?_) rfl (by kernel_rfl) (by kernel_rfl) (by kernel_rfl) (fun _ _ _ h => h) rfl ?_ hHeld ?_; rotate_left; (focus (intro w hSw; (try dsimp only at hSw); have c1 := hSw.2.1 1 _ rfl; have c2 := hSw.2.1 2 _ rfl; have c3 := hSw.2.1 3 _ rfl;  go_simp; (try with_reducible rfl))); (try simp only [Act.put, List.setIfInBounds_toArray, List.set_cons_zero, List.set_cons_succ])
  refine tk 5 (v := ?_) rfl (by kernel_rfl) (by kernel_rfl) (by kernel_rfl) (fun _ _ _ h => h) rfl ?_ hHeld ?_; rotate_left; (focus (intro w hSw; (try dsimp only at hSw); have c1 := hSw.2.1 1 _ rfl; have c2 := hSw.2.1 2 _ rfl; have c3 := hSw.2.1 3 _ rfl;  go_simp; (try with_reducible rfl))); (try simp only [Act.put, List.setIfInBounds_toArray, List.set_cons_zero, List.set_cons_succ])
  refine tk 6 (v := ?_) rfl (by kernel_rfl) (by kernel_rfl) (by kernel_rfl) (fun _ _ _ h => h) rfl ?_ hHeld ?_; rotate_left; (focus (intro w hSw; (try dsimp only at hSw); have c1 := hSw.2.1 1 _ rfl; have c2 := hSw.2.1 2 _ rfl; have c3 := hSw.2.1 3 _ rfl;  go_simp; (try with_reducible rfl))); (try simp only [Act.put, List.setIfInBounds_toArray, List.set_cons_zero, List.set_cons_succ])
  refine tk 7 (v := ?_) rfl (by kernel_rfl) (by kernel_rfl) (by kernel_rfl) (fun _ _ _ h => h) rfl ?_ hHeld ?_; rotate_left; (focus (intro w hSw; (try dsimp only at hSw); have c1 := hSw.2.1 1 _ rfl; have c2 := hSw.2.1 2 _ rfl; have c3 := hSw.2.1 3 _ rfl;  go_simp; (try with_reducible rfl))); (try simp only [Act.put, List.setIfInBounds_toArray, List.set_cons_zero, List.set_cons_succ])
  refine tk 8 (v := ?_) rfl (by kernel_rfl) (by kernel_rfl) (by kernel_rfl) (fun _ _ _ h => h) rfl ?_ hHeld ?_; rotate_left; (focus (intro w hSw; (try dsimp only at hSw); have c1 := hSw.2.1 1 _ rfl; have c2 := hSw.2.1 2 _ rfl; have c3 := hSw.2.1 3 _ rfl;  go_simp; (try with_reducible rfl))); (try simp only [Act.put, List.setIfInBounds_toArray, List.set_cons_zero, List.set_cons_succ])
  refine tk 9 (v := ?_) rfl (by kernel_rfl) (by kernel_rfl) (by kernel_rfl) (fun _ _ _ h => h) rfl ?_ hHeld ?_; rotate_left; (focus (intro w hSw; (try dsimp only at hSw); have c1 := hSw.2.1 1 _ rfl; have c2 := hSw.2.1 2 _ rfl; have c3 := hSw.2.1 3 _ rfl;  go_simp; (try with_reducible rfl))); (try simp only [Act.put, List.setIfInBounds_toArray, List.set_cons_zero, List.set_cons_succ])
  refine tk 10 (v := ?_) rfl (by kernel_rfl) (by kernel_rfl) (by kernel_rfl) (fun _ _ _ h => h) rfl ?_ hHeld ?_; rotate_left; (focus (intro w hSw; (try dsimp only at hSw); have c1 := hSw.2.1 1 _ rfl; have c2 := hSw.2.1 2 _ rfl; have c3 := hSw.2.1 3 _ rfl;  go_simp; (try with_reducible rfl))); (try simp only [Act.put, List.setIfInBounds_toArray, List.set_cons_zero, List.set_cons_succ])
  refine tk 11 (v := ?_) rfl (by kernel_rfl) (by kernel_rfl) (by kernel_rfl) (fun _ _ _ h => h) rfl ?_ hHeld ?_; rotate_left; (focus (intro w hSw; (try dsimp only at hSw); have c1 := hSw.2.1 1 _ rfl; have c2 := hSw.2.1 2 _ rfl; have c3 := hSw.2.1 3 _ rfl;  go_simp; (try with_reducible rfl))); (try simp only [Act.put, List.setIfInBounds_toArray, List.set_cons_zero, List.set_cons_succ])
  refine tk 12 (v := ?_) rfl (by kernel_rfl) (by kernel_rfl) (by kernel_rfl) (fun _ _ _ h => h) rfl ?_ hHeld ?_; rotate_left; (focus (intro w hSw; (try dsimp only at hSw); have c1 := hSw.2.1 1 _ rfl; have c2 := hSw.2.1 2 _ rfl; have c3 := hSw.2.1 3 _ rfl;  go_simp; (try with_reducible rfl))); (try simp only [Act.put, List.setIfInBounds_toArray, List.set_cons_zero, List.set_cons_succ])
  have CE4 := hid (show Ce w3.drew (w.heap.size + 1) _ from CE3.out)
  have CR4 := hid (show Ce w3.drew w.heap.size _ from CR3.out)
  have HB4 := hid (show Below w.heap.size w w3.drew from by have := below_drewN HB3.out 1; exact this)
  clear CE3 CR3 HB3
  generalize w3.drew = w4 at *
  refine only 13 rfl (by kernel_rfl) rfl (fun K hK => ?_)
  refine ov_store rfl rfl rfl (CE4.out.store1 2 rfl a) ?_
  refine hK.out _ _ (Ce.other hHeld hbE) (fun hH0 => ?_)
  clear hK
  try simp only [Act.put, List.setIfInBounds_toArray, List.set_cons_zero, List.set_cons_succ]
  have CE5 := hid (CE4.out.set 2 (.int .i64 a) (by simp))
  simp only [List.set_cons_succ, List.set_cons_zero] at CE5
  have CR5 := hid (CR4.out.other (c := w.heap.size + 1) (j := 2) (v := .int .i64 a) (by omega))
  have HB5 := hid (HB4.out.setCell (p := ⟨w.heap.size + 1, 2, none⟩) (Nat.le_succ _) (.int .i64 a))
  clear CE4 CR4 HB4
  refine tk 14 (v := ?_) rfl (by kernel_rfl) (by kernel_rfl) (by kernel_rfl) (fun _ _ _ h => h) rfl ?_ hH0 ?_; rotate_left; (focus (intro w hSw; (try dsimp only at hSw);  go_simp; (try with_reducible rfl))); (try simp only [Act.put, List.setIfInBounds_toArray, List.set_cons_zero, List.set_cons_succ])
  refine only 15 rfl (by kernel_rfl) rfl (fun K hK => ?_)
  refine ov_store rfl rfl rfl (CE5.out.store1 3 rfl q) ?_
  refine hK.out _ _ (Ce.other hH0 hbE) (fun hH1 => ?_)
  clear hK
  try simp only [Act.put, List.setIfInBounds_toArray, List.set_cons_zero, List.set_cons_succ]
  have CE6 := hid (CE5.out.set 3 (.int .i64 q) (by simp))
  simp only [List.set_cons_succ, List.set_cons_zero] at CE6
  have CR6 := hid (CR5.out.other (c := w.heap.size + 1) (j := 3) (v := .int .i64 q) (by omega))
  have HB6 := hid (HB5.out.setCell (p := ⟨w.heap.size + 1, 3, none⟩) (Nat.le_succ _) (.int .i64 q))
  clear CE5 CR5 HB5
  refine tk 16 (v := ?_) rfl (by kernel_rfl) (by kernel_rfl) (by kernel_rfl) (fun _ _ _ h => h) rfl ?_ hH1 ?_; rotate_left; (focus (intro w hSw; (try dsimp only at hSw);  go_simp; (try with_reducible rfl))); (try simp only [Act.put, List.setIfInBounds_toArray, List.set_cons_zero, List.set_cons_succ])
  refine only 17 rfl (by kernel_rfl) rfl (fun K hK => ?_)
  refine ov_store rfl rfl rfl (CE6.out.store1 4 rfl m) ?_
  refine hK.out _ _ (Ce.other hH1 hbE) (fun hH2 => ?_)
  clear hK
  try simp only [Act.put, List.setIfInBounds_toArray, List.set_cons_zero, List.set_cons_succ]
  have CE7 := hid (CE6.out.set 4 (.int .i64 m) (by simp))
  simp only [List.set_cons_succ, List.set_cons_zero] at CE7
  have CR7 := hid (CR6.out.other (c := w.heap.size + 1) (j := 4) (v := .int .i64 m) (by omega))
  have HB7 := hid (HB6.out.setCell (p := ⟨w.heap.size + 1, 4, none⟩) (Nat.le_succ _) (.int .i64 m))
  clear CE6 CR6 HB6
  refine wpAnyH_done (by kernel_rfl) ?_ _
  have CE3 := CE7
  have CR3 := CR7
  have HB3 := HB7
  clear CE7 CR7 HB7 hHeld hH0 hH1 hH2 CB3
  have e0 := CE3.out.2.1 0 _ rfl
  have e1 := CE3.out.2.1 1 _ rfl
  have e2 := CE3.out.2.1 2 _ rfl
  have e3 := CE3.out.2.1 3 _ rfl
  have e4 := CE3.out.2.1 4 _ rfl
  have e5 := CE3.out.2.1 5 _ rfl
  have e6 := CE3.out.2.1 6 _ rfl
  have ef := CE3.out.2.2
  have r0 := CR3.out.2.1 0 _ rfl
  have r1 := CR3.out.2.1 1 _ rfl
  have r2 := CR3.out.2.1 2 _ rfl
  have r3 := CR3.out.2.1 3 _ rfl
  have r4 := CR3.out.2.1 4 _ rfl
  have r5 := CR3.out.2.1 5 _ rfl
  have r6 := CR3.out.2.1 6 _ rfl
  have rf := CR3.out.2.2
  go_wp2_with fail
  clear e0 e1 e2 e3 e4 e5 e6 ef r0 r1 r2 r3 r4 r5 r6 rf
  have CF := hid (Ce.s7 CR3.out (.int .i64 1) (.int .i64 s) (.int .i64 a) (.int .i64 q) (.int .i64 m) (.int .u64 0) (.int .u64 0))
  have BF := hid (below_s7 HB3.out (Nat.le_refl _) (.int .i64 1) (.int .i64 s) (.int .i64 a) (.int .i64 q) (.int .i64 m) (.int .u64 0) (.int .u64 0))
  unfold S7 at CF BF
  refine at_world (fun w' => Ce w' w.heap.size [.int .i64 1, .int .i64 s, .int .i64 a, .int .i64 q, .int .i64 m, .int .u64 0, .int .u64 0] ∧ Below w.heap.size w w') ⟨CF.out, BF.out⟩ (fun wf hwf => ?_)
  obtain ⟨hc2, hbf⟩ := hwf
  have x0 := hc2.2.1 0 _ rfl
  have x1 := hc2.2.1 1 _ rfl
  have x2 := hc2.2.1 2 _ rfl
  have x3 := hc2.2.1 3 _ rfl
  have x4 := hc2.2.1 4 _ rfl
  have x5 := hc2.2.1 5 _ rfl
  have x6 := hc2.2.1 6 _ rfl
  refine bodyPost_ret (v := .tuple #[.agg #[.int .i64 1, .int .i64 s, .int .i64 a, .int .i64 q, .int .i64 m, .int .u64 0, .int .u64 0], .bool true]) (by simp [results, Tryd.results51, go_sem, x0, x1, x2, x3, x4, x5, x6]) rfl ?_
  exact ⟨rfl, hbf⟩
def nml (k : Int) : Nat := if k = 1 then 4 else if k = 6 then 2 else 1
theorem nml_len (k : Int) : (nmL ⟨k, 0, 0, 0, 0, zKy⟩).length = nml k := by unfold nmL nml; split; rfl; split <;> rfl
theorem nml_U (k : Int) : ∀ x ∈ nmL ⟨k, 0, 0, 0, 0, zKy⟩, U64 x := by
  intro x hx
  have : x = 0 := by unfold nmL at hx; split at hx; simpa using hx; split at hx; simpa [zKy] using hx; simpa using hx
  subst this
  exact ⟨by decide, by decide⟩
set_option maxRecDepth 100000 in
set_option maxHeartbeats 4000000 in
theorem entry_len (k : Int) (n d : Nat) (A : Option Addr) (hn : n ≤ 1000) (h : n ≠ nml k) (w : World) : Calls Tryd.prog 51 #[.int .i64 k, .slice A n d] w fun e w' => e = .returned (.tuple #[.agg #[.int .i64 0, .int .i64 0, .int .i64 0, .int .i64 0, .int .i64 0, .int .u64 0, .int .u64 0], .bool false]) ∧ Below w.heap.size w w' := by
  have NU := hid (fun (w : World) => (show Calls Tryd.prog 46 #[.agg #[.int .i64 k, .int .i64 0, .int .i64 0, .int .i64 0, .int .i64 0, .int .u64 0, .int .u64 0]] w fun r w' => ∃ b : Nat, r = .returned (.slice (some ⟨b, 0, none⟩) (nml k) (nml k)) ∧ Below w.heap.size w w' from by rw [← nml_len k]; exact (nums_any ⟨k, 0, 0, 0, 0, zKy⟩ (nml_U k) w).mono (fun r w' h => by obtain ⟨b, e, _, _, hb⟩ := h; exact ⟨b, e, hb⟩)))
  obtain ⟨m, hm⟩ : ∃ m, m = nml k := ⟨_, rfl⟩
  rw [← hm] at NU h
  clear hm
  have hne : ((n : Int) == (m : Int)) = false := by rw [beq_eq_false_iff_ne]; omega
  go_enter Tryd.func51, Tryd.ntmps51
  go_upto_region 2 with (fail)
  have CR := hid ((Ce.made (w := w) (l := [.int .i64 0, .int .i64 0, .int .i64 0, .int .i64 0, .int .i64 0, .int .u64 0, .int .u64 0]) (T := 56) (g := w.heap.size) rfl).alloc (.cells #[.int .i64 k, .int .i64 0, .int .i64 0, .int .i64 0, .int .i64 0, .int .u64 0, .int .u64 0] 56))
  have CE := hid (Ce.made (w := w.alloc (.cells #[.int .i64 0, .int .i64 0, .int .i64 0, .int .i64 0, .int .i64 0, .int .u64 0, .int .u64 0] 56)) (l := [.int .i64 k, .int .i64 0, .int .i64 0, .int .i64 0, .int .i64 0, .int .u64 0, .int .u64 0]) (T := 56) (g := w.heap.size + 1) (by simp))
  have HB := hid (((Below.refl w.heap.size w).alloc (Nat.le_refl _) (.cells #[.int .i64 0, .int .i64 0, .int .i64 0, .int .i64 0, .int .i64 0, .int .u64 0, .int .u64 0] 56)).alloc (by simp) (.cells #[.int .i64 k, .int .i64 0, .int .i64 0, .int .i64 0, .int .i64 0, .int .u64 0, .int .u64 0] 56))
  simp only [List.toArray] at CR CE
  generalize (w.alloc (.cells #[.int .i64 0, .int .i64 0, .int .i64 0, .int .i64 0, .int .i64 0, .int .u64 0, .int .u64 0] 56)).alloc (.cells #[.int .i64 k, .int .i64 0, .int .i64 0, .int .i64 0, .int .i64 0, .int .u64 0, .int .u64 0] 56) = w1 at *
  have e0 := CE.out.2.1 0 _ rfl
  have e1 := CE.out.2.1 1 _ rfl
  have e2 := CE.out.2.1 2 _ rfl
  have e3 := CE.out.2.1 3 _ rfl
  have e4 := CE.out.2.1 4 _ rfl
  have e5 := CE.out.2.1 5 _ rfl
  have e6 := CE.out.2.1 6 _ rfl
  have ef := CE.out.2.2
  go_wp2_with fail
  clear e0 e1 e2 e3 e4 e5 e6 ef
  refine (NU.out _).mono ?_
  rintro x w2 ⟨bb, rfl, hb⟩
  have CR2 := hid (CR.out.below hb)
  have HB2 := hid (HB.out.trans (hb.mono HB.out.size))
  clear hb CR CE HB NU
  have r0 := CR2.out.2.1 0 _ rfl
  have r1 := CR2.out.2.1 1 _ rfl
  have r2 := CR2.out.2.1 2 _ rfl
  have r3 := CR2.out.2.1 3 _ rfl
  have r4 := CR2.out.2.1 4 _ rfl
  have r5 := CR2.out.2.1 5 _ rfl
  have r6 := CR2.out.2.1 6 _ rfl
  have rf := CR2.out.2.2
  go_wp2_with fail
  clear r0 r1 r2 r3 r4 r5 r6 rf
  have CF := hid (Ce.s7 CR2.out (.int .i64 0) (.int .i64 0) (.int .i64 0) (.int .i64 0) (.int .i64 0) (.int .u64 0) (.int .u64 0))
  have BF := hid (below_s7 HB2.out (Nat.le_refl _) (.int .i64 0) (.int .i64 0) (.int .i64 0) (.int .i64 0) (.int .i64 0) (.int .u64 0) (.int .u64 0))
  unfold S7 at CF BF
  refine at_world (fun w' => Ce w' w.heap.size [.int .i64 0, .int .i64 0, .int .i64 0, .int .i64 0, .int .i64 0, .int .u64 0, .int .u64 0] ∧ Below w.heap.size w w') ⟨CF.out, BF.out⟩ (fun wf hwf => ?_)
  obtain ⟨hc2, hbf⟩ := hwf
  have x0 := hc2.2.1 0 _ rfl
  have x1 := hc2.2.1 1 _ rfl
  have x2 := hc2.2.1 2 _ rfl
  have x3 := hc2.2.1 3 _ rfl
  have x4 := hc2.2.1 4 _ rfl
  have x5 := hc2.2.1 5 _ rfl
  have x6 := hc2.2.1 6 _ rfl
  refine bodyPost_ret (v := .tuple #[.agg #[.int .i64 0, .int .i64 0, .int .i64 0, .int .i64 0, .int .i64 0, .int .u64 0, .int .u64 0], .bool false]) (by simp [results, Tryd.results51, go_sem, x0, x1, x2, x3, x4, x5, x6]) rfl ?_
  exact ⟨rfl, hbf⟩
def iw (n : Nat) : Int := IntKind.i64.wrap (n : Int)
/-- The entry of a kind with these numbers. -/
def enO (k : Int) (u : Nat → Nat) : En := if k = 1 then ⟨1, iw (u 0), iw (u 1), iw (u 2), iw (u 3), zKy⟩ else if k = 6 then ⟨6, 0, 0, 0, 0, ⟨(u 0 : Nat), (u 1 : Nat)⟩⟩ else ⟨k, iw (u 0), 0, 0, 0, zKy⟩
theorem enO_any (k : Int) (u : Nat → Nat) (b d : Nat) (hd : nml k ≤ d) (w : World) (hb : b < w.heap.size) (hc : ∀ j, j < nml k → w.cell? ⟨b, j, none⟩ = some (.int .u64 ((u j : Nat) : Int))) (hf : ∀ j, w.frozen? ⟨b, j, none⟩ = false) : Calls Tryd.prog 51 #[.int .i64 k, .slice (some ⟨b, 0, none⟩) (nml k) d] w fun e w' => e = .returned (.tuple #[enV (enO k u), .bool true]) ∧ Below w.heap.size w w' := by
  unfold nml at hd hc ⊢
  unfold enO
  by_cases h1 : k = 1
  · subst h1
    rw [if_pos rfl] at hd hc ⊢
    rw [if_pos rfl]
    refine entry_bind2 _ _ _ _ _ _ _ _ rfl rfl rfl rfl b d hd w ⟨hb, fun j v hj => ?_, hf⟩
    match j, hj with
    | 0, hj => injection hj with hj; subst hj; exact hc 0 (by decide)
    | 1, hj => injection hj with hj; subst hj; exact hc 1 (by decide)
    | 2, hj => injection hj with hj; subst hj; exact hc 2 (by decide)
    | 3, hj => injection hj with hj; subst hj; exact hc 3 (by decide)
    | j + 4, hj => simp at hj
  · rw [if_neg h1] at hd hc ⊢
    rw [if_neg h1]
    by_cases h6 : k = 6
    · subst h6
      rw [if_pos rfl] at hd hc ⊢
      rw [if_pos rfl]
      refine entry_rot _ _ b d hd w ⟨hb, fun j v hj => ?_, hf⟩
      match j, hj with
      | 0, hj => injection hj with hj; subst hj; exact hc 0 (by decide)
      | 1, hj => injection hj with hj; subst hj; exact hc 1 (by decide)
      | j + 2, hj => simp at hj
    · rw [if_neg h6] at hd hc ⊢
      rw [if_neg h6]
      refine entry_slot2 k _ _ h1 h6 rfl b d hd w ⟨hb, fun j v hj => ?_, hf⟩
      match j, hj with
      | 0, hj => injection hj with hj; subst hj; exact hc 0 (by decide)
      | j + 1, hj => simp at hj
end Go.Proofs.YtljgcffpijjliaaDoor

/- Any words, read as numbers. -/
namespace Go.Proofs.YtljgcffpijjliaaDoor
set_option linter.unusedVariables false
set_option linter.unusedSimpArgs false
open Go.RowKit Go.ChangeShapes Go.WideShapes Go.ChangeAt

/-- Are they numbers? -/
def okAll (WD : Nat → ByteArray) (n : Nat) : Bool := (List.range n).all fun j => (numO (WD j).toList).isSome
theorem okAll_s (WD : Nat → ByteArray) (n : Nat) : okAll WD (n + 1) = (okAll WD n && (numO (WD n).toList).isSome) := by unfold okAll; rw [List.range_succ, List.all_append]; simp
theorem okAll_no {WD : Nat → ByteArray} {n j : Nat} (hj : j < n) (h : (numO (WD j).toList).isSome = false) : okAll WD n = false := by
  unfold okAll
  rw [List.all_eq_false]
  exact ⟨j, List.mem_range.2 hj, by rw [h]; simp⟩
def nuO (WD : Nat → ByteArray) (j : Nat) : Nat := (numO (WD j).toList).getD 0
def nuV (WD : Nat → ByteArray) (j : Nat) : Value := .int .u64 ((nuO WD j : Nat) : Int)
set_option maxRecDepth 100000 in
set_option maxHeartbeats 4000000 in
theorem pallO_any (WD : Nat → ByteArray) (n c : Nat) (A : Option Addr) (hn5 : n ≤ 1000) (h1 : n ≤ c) (w : World) (hs : Sl w A n (fun j => .string (WD j))) : Calls Tryd.prog 50 #[.slice A n c] w fun e w' => ((okAll WD n = true ∧ ∃ (X : Option Addr) (d : Nat), e = .returned (.tuple #[.slice X n d, .bool true]) ∧ Ow w' w.heap.size 27 1 (.slice X n d) n (nuV WD)) ∨ (okAll WD n = false ∧ e = .returned (.tuple #[.slice none 0 0, .bool false]))) ∧ Below w.heap.size w w' := by
  have HS := hid hs
  clear hs
  obtain ⟨G, hG⟩ : ∃ G, G = nuV WD := ⟨_, rfl⟩
  have HG := hid (fun j => (show G j = .int .u64 (opU (numO (WD j).toList)) from by rw [hG]; rfl))
  have HG1 := hid (fun j => (show (G j).oneCell' = true from by rw [hG]; rfl))
  rw [← hG]
  clear hG
  go_enter Tryd.func50, Tryd.ntmps50
  go_wp2_with fail
  go_loopw [4, 11] (fun l i wr => ∃ (k : Nat) (X : Option Addr) (d : Nat), k ≤ n ∧ l = .slice X k d ∧ i = .int .i64 (k : Int) ∧ okAll WD k = true ∧ Ow wr w.heap.size 27 1 (.slice X k d) k G ∧ Below w.heap.size w wr) (fun _ i _ => n - (intOf i).toNat)
  case atStart => exact ⟨0, none, 0, by omega, rfl, rfl, rfl, Ow.none_, Below.refl _ _⟩
  case round =>
    obtain ⟨k, X, d, hk, rfl, rfl, hok, ho, hbl⟩ := hrel
    have HO := hid ho
    have HB := hid hbl
    have HOK := hid hok
    clear ho hbl hok
    by_cases hlt : k < n
    · have i0 : (0 : Int) ≤ k := by omega
      have i1 : (k : Int) < n := by omega
      obtain ⟨b, off, rfl⟩ := Sl.addr HS.out (by omega)
      have xc : wr.cell? ⟨b, off + k, none⟩ = some (.string (WD k)) := (World.cell?_of_block (a := ⟨b, off + k, none⟩) (HB.out.block b (HS.out.lt (by omega)))).trans (HS.out.at_ hlt)
      have PN := hid (fun w => pnumO_any (WD k) w)
      have HU := hid (HG.out k)
      have HK1 := hid (okAll_s WD k)
      have HNO := hid (fun h => okAll_no (WD := WD) hlt h)
      obtain ⟨bb, hbb⟩ : ∃ b, b = (numO (WD k).toList).isSome := ⟨_, rfl⟩
      obtain ⟨u, hu⟩ : ∃ u, u = opU (numO (WD k).toList) := ⟨_, rfl⟩
      simp only [← hbb, ← hu] at PN HU HK1 HNO
      obtain ⟨x, hx⟩ : ∃ x, x = WD k := ⟨_, rfl⟩
      rw [← hx] at xc PN
      clear hbb hu hx
      cases bb
      · go_wp2_with fail
        refine (PN.out _).mono ?_
        rintro e w2 ⟨rfl, hb2⟩
        have HB2 := hid (HB.out.trans (hb2.mono HB.out.size))
        clear hb2 HO HB xc PN
        go_wp2_with fail
        go_ret2
        exact ⟨.inr ⟨HNO.out (by first | rfl | trivial), rfl⟩, HB2.out⟩
      · go_wp2_with fail
        refine (PN.out _).mono ?_
        rintro e w2 ⟨rfl, hb2⟩
        have HO2 := hid (HO.out.keep hb2 (Nat.le_refl _))
        have HB2 := hid (HB.out.trans (hb2.mono HB.out.size))
        have l2 := HB2.out.size
        clear hb2 HO HB xc PN
        go_wp2_with (at_builtin; refine wp_app_u rfl (.tmp 22) (.tmp 24) rfl w.heap.size _ k G (HG1.out _) rfl (Ow.alloc HO2.out _) w2.heap.size 1 rfl (by rw [HU.out]; exact Ce.made (l := [.int .u64 u]) rfl) (by omega) (by simp; omega) ?_; intro A' d' w3 hown hbel hgr; have HO3 := hid hown; have HB3 := hid ((HB2.out.alloc l2 (.cells #[.int .u64 u] 27)).trans hbel); clear hown hbel hgr HO2 HB2)
        go_roundw
        case rel => exact ⟨k + 1, A', d', by omega, rfl, by go_num, by rw [HK1.out, HOK.out]; rfl, HO3.out, HB3.out⟩
        case measure => simp [intOf]; omega
    · have e : k = n := by omega
      subst e
      go_wp2_with fail
      go_ret2
      exact ⟨.inl ⟨HOK.out, X, d, rfl, HO.out⟩, HB.out⟩
end Go.Proofs.YtljgcffpijjliaaDoor

/- Words of any bytes. -/
namespace Go.Proofs.YtljgcffpijjliaaDoor
set_option linter.unusedVariables false
set_option linter.unusedSimpArgs false
open Go.RowKit Go.ChangeShapes Go.WideShapes Go.ChangeAt

/-- Words, one blank between. -/
def spl : List UInt8 → List (List UInt8)
  | [] => [[]]
  | c :: t => if c = 32 then [] :: spl t else match spl t with
    | [] => [[c]]
    | x :: r => (c :: x) :: r
theorem spl_no : ∀ {l : List UInt8}, 32 ∉ l → spl l = [l]
  | [], _ => rfl
  | c :: t, h => by
    have h1 : ¬ c = 32 := fun e => h (by rw [e]; exact List.mem_cons_self ..)
    unfold spl
    rw [if_neg h1, spl_no (fun hm => h (List.mem_cons_of_mem _ hm))]
theorem spl_cut : ∀ {x r : List UInt8}, 32 ∉ x → spl (x ++ 32 :: r) = x :: spl r
  | [], r, _ => by show spl (32 :: r) = _; conv => lhs; unfold spl; rw [if_pos rfl]
  | c :: t, r, h => by
    have h1 : ¬ c = 32 := fun e => h (by rw [e]; exact List.mem_cons_self ..)
    show spl (c :: (t ++ 32 :: r)) = _
    conv => lhs; unfold spl
    rw [if_neg h1, spl_cut (fun hm => h (List.mem_cons_of_mem _ hm))]
theorem spl_ne (l : List UInt8) : 0 < (spl l).length := by
  cases l with
  | nil => decide
  | cons c t =>
    unfold spl
    split
    · simp
    · split <;> simp
theorem cut_at : ∀ {l : List UInt8}, 32 ∈ l → ∃ x r, l = x ++ 32 :: r ∧ 32 ∉ x
  | c :: t, h => by
    by_cases h1 : c = 32
    · exact ⟨[], t, by rw [h1]; rfl, by simp⟩
    · obtain ⟨x, r, e, hx⟩ := cut_at (l := t) (by rcases List.mem_cons.1 h with h | h; exact absurd h.symm h1; exact h)
      exact ⟨c :: x, r, by rw [e]; rfl, fun h2 => by rcases List.mem_cons.1 h2 with h2 | h2; exact h1 h2.symm; exact hx h2⟩
theorem spk_hit {x r : List UInt8} {k : Nat} (hx : 32 ∉ x) : Lib.splitK [32] 0 (k + 1) (x ++ 32 :: r) = x :: Lib.splitK [32] 0 k r := by
  conv => lhs; unfold Lib.splitK
  rw [idx_at r hx, if_neg (by rw [beq_iff_eq]; omega)]
  have e1 : ((x.length : Int).toNat + 0) = x.length := by omega
  have e2 : ((x.length : Int).toNat + ([32] : List UInt8).length) = x.length + 1 := by simp
  rw [e1, e2, List.take_left, show (x ++ 32 :: r).drop (x.length + 1) = r from by rw [List.drop_append]; simp]
theorem spk_all : ∀ (k : Nat) (l : List UInt8), ((spl l).length ≤ k + 1 → Lib.splitK [32] 0 k l = spl l) ∧ (k + 1 < (spl l).length → (Lib.splitK [32] 0 k l).length = k + 1 ∧ ∃ y, (Lib.splitK [32] 0 k l)[k]? = some y ∧ 32 ∈ y)
  | 0, l => by
    by_cases h : 32 ∈ l
    · refine ⟨fun hl => ?_, fun _ => ⟨rfl, l, rfl, h⟩⟩
      obtain ⟨x, r, e, hx⟩ := cut_at h
      rw [e, spl_cut hx, List.length_cons] at hl
      have := spl_ne r
      omega
    · exact ⟨fun _ => by rw [spl_no h]; rfl, fun hl => by rw [spl_no h] at hl; simp at hl⟩
  | k + 1, l => by
    by_cases h : 32 ∈ l
    · obtain ⟨x, r, e, hx⟩ := cut_at h
      have ih := spk_all k r
      rw [e, spl_cut hx, spk_hit hx, List.length_cons, List.length_cons]
      refine ⟨fun hl => by rw [ih.1 (by omega)], fun hl => ?_⟩
      obtain ⟨a, y, b, c⟩ := ih.2 (by omega)
      exact ⟨by omega, y, by rw [List.getElem?_cons_succ]; exact b, c⟩
    · refine ⟨fun _ => ?_, fun hl => by rw [spl_no h] at hl; simp at hl⟩
      rw [spl_no h]
      unfold Lib.splitK
      rw [idx_no h]
      rfl
theorem spl_le : ∀ l : List UInt8, (spl l).length ≤ l.length + 1
  | [] => by decide
  | c :: t => by
    have ih := spl_le t
    unfold spl
    split
    · simp only [List.length_cons]; omega
    · split
      · simp
      · rename_i h; rw [h] at ih; simp only [List.length_cons] at ih ⊢; omega
/-- A kind's number of a word. -/
def kdO (x : List UInt8) : Int := if x = wdL 1 then 1 else if x = wdL 2 then 2 else if x = wdL 3 then 3 else if x = wdL 4 then 4 else if x = wdL 5 then 5 else if x = wdL 6 then 6 else 0
def nuW (ws : List (List UInt8)) (j : Nat) : Nat := (numO (ws.getD (j + 1) [])).getD 0
def okW (ws : List (List UInt8)) (n : Nat) : Bool := (List.range n).all fun j => (numO (ws.getD (j + 1) [])).isSome
/-- What Parse tells. -/
def prW (ws : List (List UInt8)) : Option En :=
  if kdO (ws.getD 0 []) = 0 then none else if ws.length ≠ nml (kdO (ws.getD 0 [])) + 1 then none else if okW ws (nml (kdO (ws.getD 0 []))) = false then none else
  if chk (enO (kdO (ws.getD 0 [])) (nuW ws)) = 0 then some (enO (kdO (ws.getD 0 [])) (nuW ws)) else none
theorem nml_le (k : Int) : 1 ≤ nml k ∧ nml k ≤ 4 := by unfold nml; split; decide; split <;> decide
theorem prW_many {ws : List (List UInt8)} (h : 5 < ws.length) : prW ws = none := by
  have := nml_le (kdO (ws.getD 0 []))
  unfold prW
  split
  · rfl
  · rw [if_pos (by omega)]
theorem prW_spk (l : List UInt8) : prW (Lib.splitK [32] 0 (min 6 (l.length + 1) - 1) l) = prW (spl l) := by
  by_cases h : (spl l).length ≤ min 6 (l.length + 1) - 1 + 1
  · rw [(spk_all _ l).1 h]
  · have h1 := spl_le l
    have h2 := (spk_all (min 6 (l.length + 1) - 1) l).2 (by omega)
    rw [prW_many (by omega), prW_many (by omega)]
def prV (o : Option En) : Value := .tuple #[enV (o.getD ⟨0, 0, 0, 0, 0, zKy⟩), .bool o.isSome]
theorem numO_none {l : List UInt8} (h : dgs 0 l = none) : numO l = none := by unfold numO; split; rfl; exact h
end Go.Proofs.YtljgcffpijjliaaDoor

/- The reference's Split. -/
namespace Go.Proofs.YtljgcffpijjliaaDoor
set_option linter.unusedVariables false
set_option linter.unusedSimpArgs false
open Go.RowKit Go.ChangeShapes Go.WideShapes Go.ChangeAt

theorem dr_step {l : List UInt8} {fr pos : Nat} (h : fr ≤ pos) (hp : pos < l.length) : l.drop fr = (l.drop fr).take (pos - fr) ++ (l[pos]'hp) :: l.drop (pos + 1) := by
  conv => lhs; rw [← List.take_append_drop (pos - fr) (l.drop fr)]
  rw [List.drop_drop, show fr + (pos - fr) = pos by omega, List.drop_eq_getElem_cons hp]
theorem ext_l {s : ByteArray} {l : List UInt8} (h : l = s.toList) (a b : Nat) : s.extract a b = ⟨((l.drop a).take (b - a)).toArray⟩ := by
  subst h
  apply ByteArray.ext
  rw [ByteArray.data_extract, ByteArray.toList_eq]
  apply Array.ext'
  simp [List.extract_eq_take_drop]
def splV (l : List UInt8) (j : Nat) : Value := .string ⟨((spl l).getD j []).toArray⟩
set_option maxRecDepth 100000 in
set_option maxHeartbeats 4000000 in
theorem rsplit_any (s : ByteArray) (hsm : s.size ≤ 100000) (w : World) : Calls Tryd.prog 55 #[.string s] w fun e w' => ∃ (X : Option Addr) (d : Nat), e = .returned (.slice X (spl s.toList).length d) ∧ Ow w' w.heap.size 9 1 (.slice X (spl s.toList).length d) (spl s.toList).length (splV s.toList) ∧ Below w.heap.size w w' := by
  obtain ⟨l, hl⟩ : ∃ l, l = s.toList := ⟨_, rfl⟩
  have hsz : s.size = l.length := by rw [hl, ByteArray.toList_eq]; exact (Array.length_toList).symm
  have hat : ∀ i (h : i < s.size) (h2 : i < l.length), s[i] = l[i] := fun i h h2 => by simp only [hl, ByteArray.toList_eq]; rfl
  have HEX := hid (fun a b => ext_l hl a b)
  rw [← hl]
  clear hl
  have hnl := spl_le l
  obtain ⟨n, hn⟩ : ∃ n, n = (spl l).length := ⟨_, rfl⟩
  rw [← hn] at hnl ⊢
  have HN := hid hn
  obtain ⟨F, hF⟩ : ∃ F, F = splV l := ⟨_, rfl⟩
  have HF := hid (fun k (p : List UInt8) (h : (spl l)[k]? = some p) => (show F k = .string ⟨p.toArray⟩ from by rw [hF]; unfold splV; rw [List.getD_eq_getElem?_getD, h]; rfl))
  have HF1 := hid (fun j => (show (F j).oneCell' = true from by rw [hF]; rfl))
  rw [← hF]
  clear hF hn
  obtain ⟨L, hL⟩ : ∃ L, L = s.size := ⟨_, rfl⟩
  have hL6 : L ≤ 100000 := by omega
  have hnL : n ≤ 100001 := by omega
  have HL := hid hL
  have HAT := hid hat
  have HSZ := hid hsz
  have hLl : L = l.length := by omega
  have HLL := hid hLl
  clear hL hat hsz hsm hLl hnl
  go_enter Tryd.func55, Tryd.ntmps55
  go_wp2_with fail
  go_loopw [3, 4, 5] (fun o f i wr => ∃ (k fr pos : Nat) (X : Option Addr) (d : Nat), o = .slice X k d ∧ f = .int .i64 (fr : Int) ∧ i = .int .i64 (pos : Int) ∧ pos ≤ L + 1 ∧ k ≤ n ∧ Ow wr w.heap.size 9 1 (.slice X k d) k F ∧ Below w.heap.size w wr ∧ ((pos ≤ L ∧ fr ≤ pos ∧ 32 ∉ (l.drop fr).take (pos - fr) ∧ (spl l).drop k = spl (l.drop fr)) ∨ (pos = L + 1 ∧ k = n))) (fun _ _ i _ => L + 1 - (intOf i).toNat)
  case atStart => exact ⟨0, 0, 0, none, 0, rfl, rfl, rfl, by omega, by omega, Ow.none_, Below.refl _ _, .inl ⟨by omega, by omega, by simp, rfl⟩⟩
  case round =>
    obtain ⟨k, fr, pos, X, d, rfl, rfl, rfl, hps, hkn, ho, hbl, hc⟩ := hrel
    have HO := hid ho
    have HB := hid hbl
    clear ho hbl
    rcases hc with ⟨hpL, hfp, hnb, hdr⟩ | ⟨hpe, hke⟩
    · have i0 : (0 : Int) ≤ pos := by omega
      have i1 : (pos : Int) ≤ s.size := by have := HL.out; omega
      have f0 : (0 : Int) ≤ fr := by omega
      have f1 : (fr : Int) ≤ pos := by omega
      by_cases hp0 : pos < L
      · have hp : pos < s.size := by rw [← HL.out]; exact hp0
        have hpl : pos < l.length := by rw [← HSZ.out]; exact hp
        have i2 : (pos : Int) < s.size := by omega
        have i3 : ((pos : Int) == (s.size : Int)) = false := by rw [beq_eq_false_iff_ne]; omega
        obtain ⟨c, hcc⟩ : ∃ c, c = l[pos]'hpl := ⟨_, rfl⟩
        have hsc : s[pos]'hp = c := by rw [HAT.out pos hp hpl, hcc]
        have hds := dr_step (l := l) hfp hpl
        rw [← hcc] at hds
        have HP0 := hid hp0
        by_cases h32 : c = 32
        · have b32 : (((s[pos]'hp).toNat : Int) == 32) = true := by rw [hsc, h32]; rfl
          rw [hds, h32, spl_cut hnb] at hdr
          have hk1 : (spl l)[k]? = some ((l.drop fr).take (pos - fr)) := by rw [← List.head?_drop, hdr]; rfl
          have hk2 : (spl l).drop (k + 1) = spl (l.drop (pos + 1)) := by rw [← List.drop_drop, hdr]; rfl
          have hk3 : k < n := by rw [HN.out]; exact (List.getElem?_eq_some_iff.1 hk1).1
          have HU := hid (show F k = .string (s.extract fr pos) from by rw [HF.out k _ hk1, HEX.out])
          have HK2 := hid hk2
          have HK3 := hid hk3
          clear hk1 hk2 hk3 hds hdr hnb hsc hcc h32 hp0
          have l2 := HB.out.size
          go_wp2_with (at_builtin; refine wp_app_s rfl (.tmp 22) (.tmp 27) rfl w.heap.size _ k F (HF1.out _) rfl (Ow.alloc HO.out _) wr.heap.size 1 rfl (by rw [HU.out]; exact Ce.made (l := [.string (s.extract fr pos)]) rfl) (by omega) (by simp; omega) ?_; intro A' d' w3 hown hbel hgr; have HO3 := hid hown; have HB3 := hid ((HB.out.alloc l2 (.cells #[.string (s.extract fr pos)] 9)).trans hbel); clear hown hbel hgr HO HB)
          go_roundw
          case rel => exact ⟨k + 1, pos + 1, pos + 1, A', d', rfl, by go_num, by go_num, by omega, by have := HK3.out; omega, HO3.out, HB3.out, .inl ⟨by have := HP0.out; omega, by omega, by simp, HK2.out⟩⟩
          case measure => have := HP0.out; simp [intOf]; omega
        · have b32 : (((s[pos]'hp).toNat : Int) == 32) = false := by
            rw [hsc, beq_eq_false_iff_ne]
            intro e
            exact h32 (UInt8.toNat_inj.1 (by show c.toNat = 32; omega))
          have hnb2 : 32 ∉ (l.drop fr).take (pos + 1 - fr) := by
            rw [show pos + 1 - fr = pos - fr + 1 by omega, hds, List.take_append]
            have hlen : ((l.drop fr).take (pos - fr)).length = pos - fr := by rw [List.length_take, List.length_drop]; omega
            rw [hlen, show pos - fr + 1 - (pos - fr) = 1 by omega, List.take_of_length_le (by rw [hlen]; omega)]
            intro h
            rcases List.mem_append.1 h with h | h
            · exact hnb h
            · simp at h; exact h32 h.symm
          have HNB := hid hnb2
          have HDR := hid hdr
          clear hnb hnb2 hdr hds hsc hcc h32 hp0
          go_wp2_with fail
          go_roundw
          case rel => exact ⟨k, fr, pos + 1, X, d, rfl, rfl, by go_num, by omega, hkn, HO.out, HB.out, .inl ⟨by have := HP0.out; omega, by omega, HNB.out, HDR.out⟩⟩
          case measure => have := HP0.out; simp [intOf]; omega
      · have hpe : pos = L := by omega
        have i3 : ((pos : Int) == (s.size : Int)) = true := by rw [beq_iff_eq]; have := HL.out; omega
        have hall : (l.drop fr).take (pos - fr) = l.drop fr := List.take_of_length_le (by rw [List.length_drop]; have := HLL.out; omega)
        rw [hall] at hnb
        rw [spl_no hnb] at hdr
        have hk1 : (spl l)[k]? = some (l.drop fr) := by rw [← List.head?_drop, hdr]; rfl
        have hk2 : k + 1 = n := by have := congrArg List.length hdr; rw [List.length_drop, ← HN.out] at this; simp at this; omega
        have HU := hid (show F k = .string (s.extract fr pos) from by rw [HF.out k _ hk1, HEX.out, hall])
        have HPE := hid hpe
        have HK2 := hid hk2
        clear hk1 hk2 hdr hnb hall hp0 hpe
        have l2 := HB.out.size
        go_wp2_with (at_builtin; refine wp_app_s rfl (.tmp 22) (.tmp 27) rfl w.heap.size _ k F (HF1.out _) rfl (Ow.alloc HO.out _) wr.heap.size 1 rfl (by rw [HU.out]; exact Ce.made (l := [.string (s.extract fr pos)]) rfl) (by omega) (by simp; omega) ?_; intro A' d' w3 hown hbel hgr; have HO3 := hid hown; have HB3 := hid ((HB.out.alloc l2 (.cells #[.string (s.extract fr pos)] 9)).trans hbel); clear hown hbel hgr HO HB)
        go_roundw
        case rel => exact ⟨k + 1, pos + 1, pos + 1, A', d', rfl, by go_num, by go_num, by omega, by have := HK2.out; omega, HO3.out, HB3.out, .inr ⟨by have := HPE.out; omega, HK2.out⟩⟩
        case measure => have := HPE.out; simp [intOf]; omega
    · subst hke
      have i1 : ¬ (pos : Int) ≤ s.size := by have := HL.out; omega
      go_wp2_with fail
      go_ret
      exact ⟨X, d, rfl, HO.out, HB.out⟩
end Go.Proofs.YtljgcffpijjliaaDoor

/- The reference's Number, of any bytes. -/
namespace Go.Proofs.YtljgcffpijjliaaDoor
set_option linter.unusedVariables false
set_option linter.unusedSimpArgs false
open Go.RowKit Go.ChangeShapes Go.WideShapes Go.ChangeAt

def RNum (l : List UInt8) (e : Ending) : Prop := ∃ m : Nat, e = .returned (.tuple #[.int .u64 (m : Int), .bool (numO l).isSome]) ∧ (∀ n, numO l = some n → m = n) ∧ m < 18446744073709551616
set_option maxRecDepth 100000 in
set_option maxHeartbeats 4000000 in
theorem rnumO_any (s : ByteArray) (hsm : s.size ≤ 1000000) (w : World) : Calls Tryd.prog 56 #[.string s] w fun e w' => RNum s.toList e ∧ w = w' := by
  obtain ⟨l, hl⟩ : ∃ l, l = s.toList := ⟨_, rfl⟩
  have hsz : s.size = l.length := by rw [hl, ByteArray.toList_eq]; exact (Array.length_toList).symm
  have hat : ∀ i (h : i < s.size) (h2 : i < l.length), s[i] = l[i] := fun i h h2 => by simp only [hl, ByteArray.toList_eq]; rfl
  rw [← hl]
  have HFA : ∃ b : Bool, (∀ m, dgs 0 l = some m → (numO l).isSome = b ∧ ∀ n, numO l = some n → m = n) ∧ ((s.toList = [] ∧ b = false) ∨ ∃ h : 0 < s.size, ¬ s.toList = [] ∧ ((((s[0].toNat : Int) == 48) = false ∧ b = true) ∨ (((s[0].toNat : Int) == 48) = true ∧ ((s.size : Int) == 1) = true ∧ b = true) ∨ (((s[0].toNat : Int) == 48) = true ∧ ((s.size : Int) == 1) = false ∧ b = false))) := by
    by_cases h0 : s.size = 0
    · have hl0 : l = [] := List.length_eq_zero_iff.1 (by omega)
      have hE : numO l = none := by unfold numO; rw [if_pos (.inl hl0)]
      exact ⟨false, fun m _ => ⟨by rw [hE]; rfl, fun n h => by rw [hE] at h; cases h⟩, .inl ⟨by rw [← hl]; exact hl0, rfl⟩⟩
    · have hp0 : 0 < s.size := by omega
      have hnl : ¬ s.toList = [] := by rw [← hl]; intro e; rw [e] at hsz; simp only [List.length_nil] at hsz; omega
      obtain ⟨c0, t0, hc0⟩ : ∃ c t, l = c :: t := by cases l with | nil => simp only [List.length_nil] at hsz; omega | cons c t => exact ⟨c, t, rfl⟩
      have h00 : s[0] = c0 := by rw [hat 0 hp0 (by omega)]; simp [hc0]
      by_cases hz : c0 = 48 ∧ 1 < l.length
      · have hE : numO l = none := by unfold numO; rw [if_pos (.inr ⟨by rw [hc0, hz.1]; rfl, hz.2⟩)]
        exact ⟨false, fun m _ => ⟨by rw [hE]; rfl, fun n h => by rw [hE] at h; cases h⟩, .inr ⟨hp0, hnl, .inr (.inr ⟨by rw [h00, hz.1]; rfl, by rw [beq_eq_false_iff_ne]; omega, rfl⟩)⟩⟩
      · have hN : numO l = dgs 0 l := by unfold numO; rw [if_neg]; rintro (h | ⟨h, h'⟩); exact absurd h (by rw [hc0]; simp); exact hz ⟨by rw [hc0] at h; simpa using h, h'⟩
        refine ⟨true, fun m h => ⟨by rw [hN, h]; rfl, fun n h2 => by rw [hN, h] at h2; exact Option.some.inj h2⟩, .inr ⟨hp0, hnl, ?_⟩⟩
        by_cases h : c0 = 48
        · exact .inr (.inl ⟨by rw [h00, h]; rfl, by rw [beq_iff_eq]; have : ¬ 1 < l.length := fun h' => hz ⟨h, h'⟩; omega, rfl⟩)
        · refine .inl ⟨?_, rfl⟩
          rw [h00]
          have : c0.toNat ≠ 48 := fun e => h (UInt8.toNat_inj.1 e)
          simp
          omega
  obtain ⟨b, hfin, hcase⟩ := HFA
  have HFIN := hid hfin
  have HNO := hid (fun (h : dgs 0 l = none) => numO_none h)
  obtain ⟨L, hL⟩ : ∃ L, L = s.size := ⟨_, rfl⟩
  have hL6 : L ≤ 1000000 := by omega
  have HL := hid hL
  have HAT := hid hat
  have HSZ := hid hsz
  clear hL hat hsz hfin hl hsm
  have HC := hid hcase
  clear hcase
  go_enter Tryd.func56, Tryd.ntmps56
  go_wp2_with fail
  go_loopw [4, 5] (fun n i wr => ∃ (pos m : Nat), pos ≤ L ∧ n = .int .u64 (m : Int) ∧ i = .int .i64 (pos : Int) ∧ m < 18446744073709551616 ∧ dgs m (l.drop pos) = dgs 0 l ∧ w = wr) (fun _ i _ => L - (intOf i).toNat)
  case atStart => exact ⟨0, 0, by omega, rfl, rfl, by decide, rfl, rfl⟩
  case round =>
    obtain ⟨pos, m, hps, rfl, rfl, hm, hv, rfl⟩ := hrel
    by_cases hp0 : pos < L
    · have hp : pos < s.size := by rw [← HL.out]; exact hp0
      have hpl : pos < l.length := by rw [← HSZ.out]; exact hp
      have i0 : (0 : Int) ≤ pos := by omega
      have i1 : (pos : Int) < s.size := by omega
      obtain ⟨c, hc⟩ : ∃ c, c = l[pos]'hpl := ⟨_, rfl⟩
      have hsc : s[pos]'hp = c := by rw [HAT.out pos hp hpl, hc]
      have hdr : l.drop pos = c :: l.drop (pos + 1) := by rw [hc]; exact List.drop_eq_getElem_cons hpl
      rw [hdr] at hv
      by_cases hd : c.toNat < 48 ∨ 57 < c.toNat
      · have hE : dgs 0 l = none := by rw [← hv]; unfold dgs; rw [if_pos hd]
        have HE := hid (HNO.out hE)
        obtain ⟨z, hz⟩ : ∃ z : Int, z = ((s[pos]'hp).toNat : Int) := ⟨_, rfl⟩
        have hbad : z < 48 ∨ ¬ z < 48 ∧ (57 : Int) < z := by rw [hz, hsc]; omega
        have hz2 := hz.symm
        clear hE hv hdr hd hsc hc hz hm
        rcases hbad with h | ⟨h, h'⟩
        all_goals
          go_wp2_with fail
          go_ret2
          exact ⟨⟨0, by rw [HE.out]; rfl, fun n h => (by rw [HE.out] at h; cases h), by decide⟩, rfl⟩
      · obtain ⟨d, hdd⟩ : ∃ d, d = c.toNat - 48 := ⟨_, rfl⟩
        have hd10 : d < 10 := by omega
        have hvv : (((s[pos]'hp).toNat : Nat) : Int) = 48 + (d : Int) := by rw [hsc]; omega
        have hst : (if 18446744073709551615 < m * 10 + d then none else dgs (m * 10 + d) (l.drop (pos + 1))) = dgs 0 l := by rw [← hv, hdd]; show _ = (if c.toNat < 48 ∨ 57 < c.toNat then none else _); rw [if_neg hd]
        have HP0 := hid hp0
        have x1 : ¬ (48 + (d : Int)) < 48 := by omega
        have x2 : ¬ (57 : Int) < 48 + (d : Int) := by omega
        have x3 : IntKind.u8.wrap (48 + (d : Int) - 48) = d := by rw [IntKind.wrap_u8]; omega
        have x3b : IntKind.u8.wrap (d : Int) = d := by rw [IntKind.wrap_u8]; omega
        have x3c : (48 + (d : Int) - 48) = d := by omega
        have x4 : IntKind.u64.wrap (d : Int) = d := by rw [IntKind.wrap_u64]; omega
        have q1 : IntKind.u64.wrap (18446744073709551615 - (d : Int)) = 18446744073709551615 - d := by rw [IntKind.wrap_u64]; omega
        by_cases hbig : (1844674407370955161 : Int) < m
        · have hov : 18446744073709551615 < m * 10 + d := by omega
          rw [if_pos hov] at hst
          have HE := hid (HNO.out hst.symm)
          clear hst hov hpl hv hdr hd hdd hsc hc
          go_wp2_with fail
          go_ret2
          exact ⟨⟨0, by rw [HE.out]; rfl, fun n h => (by rw [HE.out] at h; cases h), by decide⟩, rfl⟩
        · have q3 : IntKind.u64.wrap ((m : Int) * 10) = m * 10 := by rw [IntKind.wrap_u64]; omega
          by_cases hov : 18446744073709551615 < m * 10 + d
          · rw [if_pos hov] at hst
            have HE := hid (HNO.out hst.symm)
            have q2 : (18446744073709551615 - (d : Int)) < m * 10 := by omega
            clear hst hov hpl hv hdr hd hdd hsc hc
            go_wp2_with fail
            go_ret2
            exact ⟨⟨0, by rw [HE.out]; rfl, fun n h => (by rw [HE.out] at h; cases h), by decide⟩, rfl⟩
          · rw [if_neg hov] at hst
            have HST := hid hst
            have q2 : ¬ (18446744073709551615 - (d : Int)) < m * 10 := by omega
            have q4 : IntKind.u64.wrap ((m : Int) * 10 + d) = m * 10 + d := by rw [IntKind.wrap_u64]; omega
            have HOV := hid hov
            clear hst hov hpl hv hdr hd hdd hsc hc
            go_wp2_with fail
            go_roundw
            case rel => exact ⟨pos + 1, m * 10 + d, by have := HP0.out; omega, by go_num, by go_num, by have := HOV.out; omega, HST.out, by first | rfl | trivial⟩
            case measure => have := HP0.out; simp [intOf]; omega
    · have hpe : pos = L := by omega
      have i1 : ¬ (pos : Int) < s.size := by rw [hpe, HL.out]; omega
      rw [List.drop_eq_nil_of_le (by rw [← HSZ.out, ← HL.out, hpe]; exact Nat.le_refl _)] at hv
      have hv2 : dgs 0 l = some m := hv.symm
      obtain ⟨f1, f2⟩ := HFIN.out m hv2
      have F1 := hid f1
      have F2 := hid f2
      have HM := hid hm
      clear hv hv2 f1 f2 hm hps hp0 hpe
      rcases HC.out with ⟨hnl, rfl⟩ | ⟨hs0, hnl, h | h | h⟩
      · have hem : s.toList.isEmpty = true := by rw [hnl]; rfl
        go_wp2_with fail
        go_ret2
        exact ⟨⟨m, by rw [F1.out]; rfl, F2.out, HM.out⟩, rfl⟩
      · obtain ⟨h1, rfl⟩ := h
        have hne : ((s[0].toNat : Int) != 48) = true := by rw [bne, h1]; rfl
        have hem : s.toList.isEmpty = false := by cases hq : s.toList with | nil => exact absurd hq hnl | cons _ _ => rfl
        go_wp2_with fail
        go_ret2
        exact ⟨⟨m, by rw [F1.out]; rfl, F2.out, HM.out⟩, rfl⟩
      · obtain ⟨h1, h2, rfl⟩ := h
        have hne : ((s[0].toNat : Int) != 48) = false := by rw [bne, h1]; rfl
        have hem : s.toList.isEmpty = false := by cases hq : s.toList with | nil => exact absurd hq hnl | cons _ _ => rfl
        go_wp2_with fail
        go_ret2
        exact ⟨⟨m, by rw [F1.out]; first | rfl | simp [h2] | simp [beq_iff_eq.1 h2], F2.out, HM.out⟩, rfl⟩
      · obtain ⟨h1, h2, rfl⟩ := h
        have hne : ((s[0].toNat : Int) != 48) = false := by rw [bne, h1]; rfl
        have hem : s.toList.isEmpty = false := by cases hq : s.toList with | nil => exact absurd hq hnl | cons _ _ => rfl
        go_wp2_with fail
        go_ret2
        exact ⟨⟨m, by rw [F1.out]; first | rfl | simp [h2] | simp [beq_iff_eq.1 h2], F2.out, HM.out⟩, rfl⟩
end Go.Proofs.YtljgcffpijjliaaDoor

/- Any text, read. -/
namespace Go.Proofs.YtljgcffpijjliaaDoor
set_option linter.unusedVariables false
set_option linter.unusedSimpArgs false
open Go.RowKit Go.ChangeShapes Go.WideShapes Go.ChangeAt

theorem kd_1 {x : List UInt8} {k : Int} (h1 : 1 ≤ k) (h6 : k ≤ 6) (h : ∀ j : Int, 1 ≤ j → j < k → wdL j ≠ x) (hx : wdL k = x) : kdO x = k := by
  unfold kdO
  have hk : k = 1 ∨ k = 2 ∨ k = 3 ∨ k = 4 ∨ k = 5 ∨ k = 6 := by omega
  have n : ∀ j : Int, 1 ≤ j → j < k → ¬ x = wdL j := fun j a b e => h j a b e.symm
  rcases hk with rfl | rfl | rfl | rfl | rfl | rfl
  · rw [if_pos hx.symm]
  · rw [if_neg (n 1 (by decide) (by decide)), if_pos hx.symm]
  · rw [if_neg (n 1 (by decide) (by decide)), if_neg (n 2 (by decide) (by decide)), if_pos hx.symm]
  · rw [if_neg (n 1 (by decide) (by decide)), if_neg (n 2 (by decide) (by decide)), if_neg (n 3 (by decide) (by decide)), if_pos hx.symm]
  · rw [if_neg (n 1 (by decide) (by decide)), if_neg (n 2 (by decide) (by decide)), if_neg (n 3 (by decide) (by decide)), if_neg (n 4 (by decide) (by decide)), if_pos hx.symm]
  · rw [if_neg (n 1 (by decide) (by decide)), if_neg (n 2 (by decide) (by decide)), if_neg (n 3 (by decide) (by decide)), if_neg (n 4 (by decide) (by decide)), if_neg (n 5 (by decide) (by decide)), if_pos hx.symm]
theorem kd_0 {x : List UInt8} (h : ∀ j : Int, 1 ≤ j → j < 7 → wdL j ≠ x) : kdO x = 0 := by
  have n : ∀ j : Int, 1 ≤ j → j < 7 → ¬ x = wdL j := fun j a b e => h j a b e.symm
  unfold kdO
  rw [if_neg (n 1 (by decide) (by decide)), if_neg (n 2 (by decide) (by decide)), if_neg (n 3 (by decide) (by decide)), if_neg (n 4 (by decide) (by decide)), if_neg (n 5 (by decide) (by decide)), if_neg (n 6 (by decide) (by decide))]
def wdA (ws : List (List UInt8)) (j : Nat) : ByteArray := ⟨(ws.getD (j + 1) []).toArray⟩
theorem wdA_l (ws : List (List UInt8)) (j : Nat) : (wdA ws j).toList = ws.getD (j + 1) [] := by rw [ByteArray.toList_eq]; rfl
theorem okA (ws : List (List UInt8)) (n : Nat) : okAll (wdA ws) n = okW ws n := by unfold okAll okW; simp only [wdA_l]
theorem nuA (ws : List (List UInt8)) (j : Nat) : nuO (wdA ws) j = nuW ws j := by unfold nuO nuW; rw [wdA_l]
/-- A row of words in memory. -/
def wsV (ws : List (List UInt8)) : List Value := ws.map fun x => .string ⟨x.toArray⟩
theorem split_any (s : ByteArray) (hs : s.size ≤ 100000) (m : Int) (w : World) (hm : w.cell? ⟨1, 0, none⟩ = some (.int .i64 m)) : Calls Tryd.prog 49 #[.string s, .string ⟨#[32]⟩, .int .i64 6] w fun r w' => ∃ (S d n : Nat), r = .returned (.slice (some ⟨S, 0, none⟩) (n + 1) d) ∧ n + 1 ≤ d ∧ n ≤ 5 ∧ (Lib.splitK [32] 0 (min 6 (s.toList.length + 1) - 1) s.toList).length = n + 1 ∧ Ce w' S (wsV (Lib.splitK [32] 0 (min 6 (s.toList.length + 1) - 1) s.toList)) ∧ Below w.heap.size w w' := by
  have hsz : s.size = s.toList.length := by rw [ByteArray.toList_eq]; exact (Array.length_toList).symm
  have := Tryd.strings_SplitN s ⟨#[32]⟩ 6 m w (by omega) hm (by decide) (by decide) (by decide)
  have hB : (Lib.splitB ⟨#[32]⟩ 0 (min 6 (s.size + 1) - 1) s).map (·.data.toList) = Lib.splitK [32] 0 (min 6 (s.toList.length + 1) - 1) s.toList := by rw [Lib.splitB_data, ← hsz, ByteArray.toList_eq]
  have hL : (Lib.splitB ⟨#[32]⟩ 0 (min 6 (s.size + 1) - 1) s).length = (Lib.splitK [32] 0 (min 6 (s.toList.length + 1) - 1) s.toList).length := by rw [← hB, List.length_map]
  have hI := bytes_inj hB
  obtain ⟨k, hk⟩ : ∃ k, k = min 6 (s.toList.length + 1) - 1 := ⟨_, rfl⟩
  have hk2 : min 6 (s.size + 1) - 1 = k := by rw [hk, hsz]
  have hk3 : min 6 (s.size + 1) = k + 1 := by omega
  rw [hk3] at this
  rw [hk2] at hL hI
  rw [← hk] at hL hI ⊢
  obtain ⟨ws, hws⟩ : ∃ ws, ws = Lib.splitK [32] 0 k s.toList := ⟨_, rfl⟩
  have hsp := spk_all k s.toList
  have hn1 : 0 < ws.length ∧ ws.length ≤ k + 1 := by
    have := spl_ne s.toList
    rw [hws]
    by_cases h : (spl s.toList).length ≤ k + 1
    · rw [hsp.1 h]; omega
    · rw [(hsp.2 (by omega)).1]; omega
  rw [← hws] at hL hI ⊢
  obtain ⟨n, hn⟩ : ∃ n, ws.length = n + 1 := ⟨ws.length - 1, by omega⟩
  have hkk : k + 1 - 1 = k := by omega
  rw [hkk, hI] at this
  refine this.mono fun r w' h => ?_
  obtain ⟨rfl, rfl⟩ := h
  have hm2 := Ce.made (w := w) (l := (ws.map fun x => (⟨x.toArray⟩ : ByteArray)).map Value.string ++ List.replicate (k + 1 - (ws.map fun x => (⟨x.toArray⟩ : ByteArray)).length) (Value.string ByteArray.empty)) (T := 9) (g := w.heap.size) rfl
  refine ⟨w.heap.size, k + 1, n, by rw [List.length_map, hn], by omega, by omega, hn, ⟨hm2.1, fun j v hj => hm2.2.1 j v ?_, hm2.2.2⟩, (Below.refl _ w).alloc (Nat.le_refl _) _⟩
  have hj2 : j < (wsV ws).length := (List.getElem?_eq_some_iff.1 hj).1
  have hj3 : j < ws.length := by unfold wsV at hj2; simpa using hj2
  rw [List.getElem?_append_left (by simp; omega), List.map_map]
  exact hj
def PArsB (n : Nat) (x0 : List UInt8) (X : ByteArray) (W : List Value) (w : World) (a' : Act) (w' : World) : Prop :=
  ∃ (k : Int) (S d : Nat) (u1 u6 u7 u8 u9 u10 u11 u12 u13 u14 u15 u16 u17 u18 u19 u20 u21 u22 u23 u24 u25 u26 u27 u28 u29 u30 u31 u32 u33 u34 u35 u36 u37 u38 u39 u40 u41 u42 u43 u44 u45 : Value), 1 ≤ k ∧ k ≤ 6 ∧ (∀ j : Int, 1 ≤ j → j < k → wdL j ≠ x0) ∧ n + 1 ≤ d ∧ Ce w' w.heap.size [.int .i64 0, .int .i64 0, .int .i64 0, .int .i64 0, .int .i64 0, .int .u64 0, .int .u64 0] ∧ Ce w' S W ∧ Below w.heap.size w w' ∧
    a' = { tmps := #[.string X, u1, .pointer (some ⟨w.heap.size, 0, none⟩), .bool false, .slice (some ⟨S, 0, none⟩) (n + 1) d, .int .i64 k, u6, u7, u8, u9, u10, u11, u12, u13, u14, u15, u16, u17, u18, u19, u20, u21, u22, u23, u24, u25, u26, u27, u28, u29, u30, u31, u32, u33, u34, u35, u36, u37, u38, u39, u40, u41, u42, u43, u44, u45], defers := [] }
theorem prW_0 {ws : List (List UInt8)} (h : kdO (ws.getD 0 []) = 0) : prW ws = none := by unfold prW; rw [if_pos h]
theorem prW_n {ws : List (List UInt8)} {n : Nat} (hn : ws.length = n + 1) (h : n ≠ nml (kdO (ws.getD 0 []))) : prW ws = none := by unfold prW; split; rfl; rw [if_pos (by omega)]
theorem prW_b {ws : List (List UInt8)} {n : Nat} (hn : ws.length = n + 1) (h : okW ws n = false) : prW ws = none := by
  by_cases hm : n = nml (kdO (ws.getD 0 []))
  · unfold prW; split; rfl; split; rfl; rw [← hm, if_pos h]
  · exact prW_n hn hm
theorem prW_y {ws : List (List UInt8)} {n : Nat} {k : Int} (hn : ws.length = n + 1) (hk : kdO (ws.getD 0 []) = k) (h1 : 1 ≤ k) (hm : n = nml k) (h : okW ws n = true) : prW ws = if chk (enO k (nuW ws)) = 0 then some (enO k (nuW ws)) else none := by
  unfold prW
  rw [hk, if_neg (by omega), if_neg (by omega), ← hm, if_neg (by rw [h]; decide)]
theorem enO_ext {k : Int} {u v : Nat → Nat} (h : ∀ j, u j = v j) : enO k u = enO k v := by rw [show u = v from funext h]
theorem prV_0 : prV none = .tuple #[.agg #[.int .i64 0, .int .i64 0, .int .i64 0, .int .i64 0, .int .i64 0, .int .u64 0, .int .u64 0], .bool false] := rfl
set_option maxRecDepth 100000 in
set_option maxHeartbeats 4000000 in
theorem parseO_any (s : ByteArray) (hsm : s.size ≤ 100000) (m : Int) (w : World) (hm : w.cell? ⟨1, 0, none⟩ = some (.int .i64 m)) : Calls Tryd.prog 32 #[.string s] w fun r w' => r = .returned (prV (prW (Lib.splitK [32] 0 (min 6 (s.toList.length + 1) - 1) s.toList))) ∧ Below w.heap.size w w' := by
  have SPL := hid (fun w' h => split_any s hsm m w' h)
  obtain ⟨ws, hws⟩ : ∃ ws, ws = Lib.splitK [32] 0 (min 6 (s.toList.length + 1) - 1) s.toList := ⟨_, rfl⟩
  simp only [← hws] at SPL ⊢
  obtain ⟨n, hn⟩ : ∃ n, n = ws.length - 1 := ⟨_, rfl⟩
  have SP2 := hid (show ∀ (w1 : World), w1.cell? ⟨1, 0, none⟩ = some (.int .i64 m) → Calls Tryd.prog 49 #[.string s, .string ⟨#[32]⟩, .int .i64 6] w1 fun r w2 => ∃ (S d : Nat), r = .returned (.slice (some ⟨S, 0, none⟩) (n + 1) d) ∧ n + 1 ≤ d ∧ n ≤ 5 ∧ ws.length = n + 1 ∧ Ce w2 S (wsV ws) ∧ Below w1.heap.size w1 w2 from fun w1 h => (SPL.out w1 h).mono (fun r w2 h => by
    obtain ⟨S, d, n', a, b, c, e, f, g⟩ := h
    obtain rfl : n' = n := (by omega)
    exact ⟨S, d, a, b, c, e, f, g⟩))
  obtain ⟨x0, hx0⟩ : ∃ x, x = ws.getD 0 [] := ⟨_, rfl⟩
  have W0 := hid (fun (h : ws.length = n + 1) => (show (wsV ws)[0]? = some (.string ⟨x0.toArray⟩) from by
    unfold wsV; rw [List.getElem?_map, hx0, List.getD_eq_getElem?_getD]
    obtain ⟨y, hy⟩ : ∃ y, ws[0]? = some y := ⟨_, List.getElem?_eq_getElem (by omega)⟩
    rw [hy]; rfl))
  have WS := hid (fun (h : ws.length = n + 1) (j : Nat) (hj : j < n) => (show (wsV ws)[1 + j]? = some (.string (wdA ws j)) from by
    unfold wsV wdA; rw [List.getElem?_map, Nat.add_comm 1 j, List.getD_eq_getElem?_getD]
    obtain ⟨y, hy⟩ : ∃ y, ws[j + 1]? = some y := ⟨_, List.getElem?_eq_getElem (by omega)⟩
    rw [hy]; rfl))
  have K0 := hid (fun (h : ∀ j : Int, 1 ≤ j → j < 7 → wdL j ≠ x0) => (show prW ws = none from prW_0 (by rw [← hx0]; exact kd_0 h)))
  have KN := hid (fun (k : Int) (h1 : 1 ≤ k) (h6 : k ≤ 6) (h : ∀ j : Int, 1 ≤ j → j < k → wdL j ≠ x0) (hx : wdL k = x0) (hl : ws.length = n + 1) => (show (n ≠ nml k → prW ws = none) ∧ (okAll (wdA ws) n = false → prW ws = none) ∧ (n = nml k → okAll (wdA ws) n = true → prW ws = if chk (enO k (nuO (wdA ws))) = 0 then some (enO k (nuO (wdA ws))) else none) from by
    have hk : kdO (ws.getD 0 []) = k := by rw [← hx0]; exact kd_1 h1 h6 h hx
    refine ⟨fun h => prW_n hl (by rw [hk]; exact h), fun h => prW_b hl (by rw [← okA]; exact h), fun h h' => ?_⟩
    rw [enO_ext (nuA ws)]
    exact prW_y hl hk h1 h (by rw [← okA]; exact h')))
  have HMX := hid hm
  clear hm SPL hws hx0 hn hsm
  obtain ⟨WV, hWV⟩ : ∃ WV, WV = wsV ws := ⟨_, rfl⟩
  simp only [← hWV] at SP2 W0 WS
  clear hWV
  obtain ⟨R, hR⟩ : ∃ R, R = prW ws := ⟨_, rfl⟩
  simp only [← hR] at K0 KN
  rw [← hR]
  clear hR
  obtain ⟨WD, hWD⟩ : ∃ WD, WD = wdA ws := ⟨_, rfl⟩
  simp only [← hWD] at WS KN
  clear hWD
  obtain ⟨Ln, hLn⟩ : ∃ L, L = ws.length := ⟨_, rfl⟩
  simp only [← hLn] at SP2 W0 WS KN
  clear hLn
  go_enter Tryd.func32, Tryd.ntmps32
  go_wp2_with fail
  have CR := hid (Ce.made (w := w) (l := [.int .i64 0, .int .i64 0, .int .i64 0, .int .i64 0, .int .i64 0, .int .u64 0, .int .u64 0]) (T := 56) (g := w.heap.size) rfl)
  have HB := hid ((Below.refl w.heap.size w).alloc (Nat.le_refl _) (.cells #[.int .i64 0, .int .i64 0, .int .i64 0, .int .i64 0, .int .i64 0, .int .u64 0, .int .u64 0] 56))
  have M1 := hid ((World.cell?_of_block (a := ⟨1, 0, none⟩) (HB.out.block 1 (World.block_lt_of_cell? _ _ HMX.out))).trans HMX.out)
  simp only [List.toArray] at CR
  generalize w.alloc (.cells #[.int .i64 0, .int .i64 0, .int .i64 0, .int .i64 0, .int .i64 0, .int .u64 0, .int .u64 0] 56) = w1 at *
  refine wp_scope_lead 0 (fun a' w' => (n ≤ 5 ∧ Ln = n + 1) ∧ PArsB n x0 s WV w a' w') (fun a' _ => 7 - (intOf (a'.tmps.getD 5 undef)).toNat) rfl ?_ ?_
  · intro Q' hQ
    have HQ := hid hQ
    clear hQ
    go_wp2_with fail
    refine (SP2.out _ M1.out).mono ?_
    rintro x w2 ⟨S, d, rfl, hd, hn5, hl, hS, hb⟩
    have CS := hid hS
    have CR2 := hid (CR.out.below hb)
    have HB2 := hid (HB.out.trans (hb.mono HB.out.size))
    have HLN := hid hl
    clear hS hb hl CR HB M1
    go_wp2_with fail
    go_step3
    simp only [Exit.then]
    refine (by assumption : ∀ a w, _ → _) _ _ ?_
    exact HQ.out _ _ ⟨⟨hn5, HLN.out⟩, 1, S, d, undef, _, _, _, _, _, _, _, _, _, _, _, _, _, _, _, _, _, _, _, _, _, _, _, _, _, _, _, _, _, _, _, _, _, _, _, _, _, _, _, _, by omega, by omega, fun j a b => by omega, hd, CR2.out, CS.out, HB2.out, rfl⟩
  · rintro a' w3 ⟨⟨hn5, hl⟩, k, S', d', u1, u6, u7, u8, u9, u10, u11, u12, u13, u14, u15, u16, u17, u18, u19, u20, u21, u22, u23, u24, u25, u26, u27, u28, u29, u30, u31, u32, u33, u34, u35, u36, u37, u38, u39, u40, u41, u42, u43, u44, u45, hk1, hk2, hpre, hd', hr, hs, hb, rfl⟩
    have CR3 := hid hr
    have CS3 := hid hs
    have HB3 := hid hb
    have HLN := hid hl
    have HPRE := hid hpre
    clear hr hs hb hl hpre CR HB HMX M1 SP2
    have i1 : (0 : Int) ≤ n := by omega
    have c0 := CS3.out.2.1 0 _ (W0.out HLN.out)
    obtain ⟨D, hD⟩ : ∃ D : ByteArray, D = ⟨x0.toArray⟩ := ⟨_, rfl⟩
    rw [← hD] at c0
    have WK := hid (fun w => word_any k w)
    obtain ⟨Y, hY⟩ : ∃ Y : ByteArray, Y = ⟨(wdL k).toArray⟩ := ⟨_, rfl⟩
    rw [← hY] at WK
    by_cases hw : wdL k = x0
    · have hYD : Y = D := by rw [hY, hD, hw]
      subst hYD
      have HW := hid hw
      have HD := hid hD
      clear hY hD hw
      go_wp2
      go_quiet ((go_at_call 45; exact q0p (WK.out _)))
      clear c0
      obtain ⟨w4, hw4⟩ : ∃ x, x = w3.drewN nq := ⟨_, rfl⟩
      have CR4 := hid (show Ce w4 w.heap.size [.int .i64 0, .int .i64 0, .int .i64 0, .int .i64 0, .int .i64 0, .int .u64 0, .int .u64 0] from by rw [hw4]; exact CR3.out)
      have CS4 := hid (show Ce w4 S' WV from by rw [hw4]; exact CS3.out)
      have HB4 := hid (show Below w.heap.size w w4 from by rw [hw4]; exact below_drewN HB3.out _)
      rw [← hw4]
      clear hw4 CR3 CS3 HB3
      obtain ⟨k0, kb, ky⟩ := KN.out k hk1 hk2 HPRE.out HW.out HLN.out
      have KA := hid k0
      have KB := hid kb
      have KY := hid ky
      clear k0 kb ky
      obtain ⟨X1, hcut, hsl⟩ := cut_from elem_s size_s (some ⟨S', 0, none⟩) (n + 1) d' 1 (by omega) hd' 1 (by rfl)
      have SL4 := hid (show Sl w4 X1 n (fun j => .string (WD j)) from by
        have h := hsl w4 (fun j => if j = 0 then .string Y else .string (WD (j - 1))) (fun _ => ⟨S', 0, rfl, CS4.out.1, fun j hj => by
          rw [Nat.zero_add]
          show w4.cell? ⟨S', j, none⟩ = some (if j = 0 then .string Y else .string (WD (j - 1)))
          by_cases hj0 : j = 0
          · subst hj0; rw [if_pos rfl, CS4.out.2.1 0 _ (W0.out HLN.out)]; rw [HD.out]
          · rw [if_neg hj0, show j = 1 + (j - 1) by omega, CS4.out.2.1 _ _ (WS.out HLN.out (j - 1) (by omega)), show 1 + (j - 1) - 1 = j - 1 by omega]⟩)
        rw [show (n + 1 - 1) * 1 = n by omega] at h
        exact h.as fun j hj => by rw [if_neg (by omega), show 1 * 1 + j - 1 = j by omega])
      have e11 : n + 1 - 1 = n := by omega
      rw [e11] at hcut
      clear hsl e11
      go_wp2_with fail
      refine (pallO_any WD n (d' - 1) X1 (by omega) (by omega) _ SL4.out).mono ?_
      rintro x w5 ⟨hor, hb⟩
      have CR5 := hid (CR4.out.below hb)
      have HB5 := hid (HB4.out.trans (hb.mono HB4.out.size))
      have L4 := hid HB4.out.size
      clear hb CR4 CS4 HB4 SL4 hcut
      rcases hor with ⟨hok, X, d2, rfl, ho⟩ | ⟨hok, rfl⟩
      · have HO := hid ho
        clear ho
        have HOK := hid hok
        clear hok
        by_cases hnm : n = nml k
        · have KYY := hid (KY.out hnm HOK.out)
          have hm14 := nml_le k
          obtain ⟨G, rfl, hd2, hG, hce, hfr⟩ := Ow.ceG HO.out (by omega)
          have ENT := hid (fun (w : World) (hb : G < w.heap.size) (hc : ∀ j, j < n → w.cell? ⟨G, j, none⟩ = some (nuV WD j)) (hf : ∀ j, w.frozen? ⟨G, j, none⟩ = false) => (show Calls Tryd.prog 51 #[.int .i64 k, .slice (some ⟨G, 0, none⟩) n d2] w fun e w' => e = .returned (.tuple #[enV (enO k (nuO WD)), .bool true]) ∧ Below w.heap.size w w' from by subst hnm; exact enO_any k (nuO WD) G d2 hd2 w hb hc hf))
          obtain ⟨E, hE⟩ : ∃ E, E = enO k (nuO WD) := ⟨_, rfl⟩
          have CK := hid (fun w => check_any (enO k (nuO WD)) w)
          rw [← hE] at ENT CK KYY
          clear hE KA KB KY hm14
          obtain ⟨ek, es, ea, eq, em, ey, ez⟩ := E
          unfold enV at ENT CK
          simp only at ENT CK
          have HG := hid hG
          have HCE := hid hce
          have HFR := hid hfr
          clear hG hce hfr HO hnm hd2
          go_wp2_with fail
          refine (ENT.out _ HG.out HCE.out HFR.out).mono ?_
          rintro x w6 ⟨rfl, hb⟩
          have CR6 := hid (CR5.out.below hb)
          have HB6 := hid (HB5.out.trans (hb.mono HB5.out.size))
          clear hb CR5 HB5 HG HCE HFR ENT
          go_upto_region 11 with (fail)
          have CE7 := hid (Ce.made (w := w6) (l := [.int .i64 ek, .int .i64 es, .int .i64 ea, .int .i64 eq, .int .i64 em, .int .u64 ey, .int .u64 ez]) (T := 56) (g := w6.heap.size) rfl)
          have CR7 := hid (CR6.out.alloc (.cells #[.int .i64 ek, .int .i64 es, .int .i64 ea, .int .i64 eq, .int .i64 em, .int .u64 ey, .int .u64 ez] 56))
          have HB7 := hid (HB6.out.alloc HB6.out.size (.cells #[.int .i64 ek, .int .i64 es, .int .i64 ea, .int .i64 eq, .int .i64 em, .int .u64 ey, .int .u64 ez] 56))
          simp only [List.toArray] at CE7
          generalize w6.alloc (.cells #[.int .i64 ek, .int .i64 es, .int .i64 ea, .int .i64 eq, .int .i64 em, .int .u64 ey, .int .u64 ez] 56) = w7 at *
          generalize w6.heap.size = B7 at *
          obtain ⟨cc, hcc⟩ : ∃ c, c = chk ⟨ek, es, ea, eq, em, ⟨ey, ez⟩⟩ := ⟨_, rfl⟩
          rw [← hcc] at CK KYY
          clear hcc
          have e0 := CE7.out.2.1 0 _ rfl
          have e1 := CE7.out.2.1 1 _ rfl
          have e2 := CE7.out.2.1 2 _ rfl
          have e3 := CE7.out.2.1 3 _ rfl
          have e4 := CE7.out.2.1 4 _ rfl
          have e5 := CE7.out.2.1 5 _ rfl
          have e6 := CE7.out.2.1 6 _ rfl
          have ef := CE7.out.2.2
          go_wp2_with fail
          clear e0 e1 e2 e3 e4 e5 e6 ef
          refine (CK.out _).mono ?_
          rintro x w8 ⟨rfl, hb⟩
          have CE8 := hid (CE7.out.below hb)
          have CR8 := hid (CR7.out.below hb)
          have HB8 := hid (HB7.out.trans (hb.mono HB7.out.size))
          clear hb CE7 CR7 HB7 CR6 HB6
          by_cases hc0 : cc = 0
          · have KR := hid (show R = some ⟨ek, es, ea, eq, em, ⟨ey, ez⟩⟩ from by rw [KYY.out, if_pos hc0])
            subst hc0
            have e0 := CE8.out.2.1 0 _ rfl
            have e1 := CE8.out.2.1 1 _ rfl
            have e2 := CE8.out.2.1 2 _ rfl
            have e3 := CE8.out.2.1 3 _ rfl
            have e4 := CE8.out.2.1 4 _ rfl
            have e5 := CE8.out.2.1 5 _ rfl
            have e6 := CE8.out.2.1 6 _ rfl
            have ef := CE8.out.2.2
            have r0 := CR8.out.2.1 0 _ rfl
            have r1 := CR8.out.2.1 1 _ rfl
            have r2 := CR8.out.2.1 2 _ rfl
            have r3 := CR8.out.2.1 3 _ rfl
            have r4 := CR8.out.2.1 4 _ rfl
            have r5 := CR8.out.2.1 5 _ rfl
            have r6 := CR8.out.2.1 6 _ rfl
            have rf := CR8.out.2.2
            go_wp2_with fail
            clear e0 e1 e2 e3 e4 e5 e6 ef r0 r1 r2 r3 r4 r5 r6 rf
            have CF := hid (Ce.s7 CR8.out (.int .i64 ek) (.int .i64 es) (.int .i64 ea) (.int .i64 eq) (.int .i64 em) (.int .u64 ey) (.int .u64 ez))
            have BF := hid (below_s7 HB8.out (Nat.le_refl _) (.int .i64 ek) (.int .i64 es) (.int .i64 ea) (.int .i64 eq) (.int .i64 em) (.int .u64 ey) (.int .u64 ez))
            unfold S7 at CF BF
            try simp only [Exit.jump]
            refine at_world (fun w' => Ce w' w.heap.size [.int .i64 ek, .int .i64 es, .int .i64 ea, .int .i64 eq, .int .i64 em, .int .u64 ey, .int .u64 ez] ∧ Below w.heap.size w w') ⟨CF.out, BF.out⟩ (fun wf hwf => ?_)
            obtain ⟨hc2, hbf⟩ := hwf
            have x0 := hc2.2.1 0 _ rfl
            have x1 := hc2.2.1 1 _ rfl
            have x2 := hc2.2.1 2 _ rfl
            have x3 := hc2.2.1 3 _ rfl
            have x4 := hc2.2.1 4 _ rfl
            have x5 := hc2.2.1 5 _ rfl
            have x6 := hc2.2.1 6 _ rfl
            refine bodyPost_ret (v := .tuple #[.agg #[.int .i64 ek, .int .i64 es, .int .i64 ea, .int .i64 eq, .int .i64 em, .int .u64 ey, .int .u64 ez], .bool true]) (by simp [results, Tryd.results32, go_sem, x0, x1, x2, x3, x4, x5, x6]) rfl ?_
            exact ⟨by rw [KR.out]; rfl, hbf⟩
          · have KR := hid (show R = none from by rw [KYY.out, if_neg hc0])
            have hcb : (cc == 0) = false := by simpa using hc0
            have hcn : (cc != 0) = true := by rw [bne, hcb]; rfl
            clear hc0
            have r0 := CR8.out.2.1 0 _ rfl
            have r1 := CR8.out.2.1 1 _ rfl
            have r2 := CR8.out.2.1 2 _ rfl
            have r3 := CR8.out.2.1 3 _ rfl
            have r4 := CR8.out.2.1 4 _ rfl
            have r5 := CR8.out.2.1 5 _ rfl
            have r6 := CR8.out.2.1 6 _ rfl
            have rf := CR8.out.2.2
            go_wp2_with fail
            clear r0 r1 r2 r3 r4 r5 r6 rf
            have CF := hid (Ce.s7 CR8.out (.int .i64 0) (.int .i64 0) (.int .i64 0) (.int .i64 0) (.int .i64 0) (.int .u64 0) (.int .u64 0))
            have BF := hid (below_s7 HB8.out (Nat.le_refl _) (.int .i64 0) (.int .i64 0) (.int .i64 0) (.int .i64 0) (.int .i64 0) (.int .u64 0) (.int .u64 0))
            unfold S7 at CF BF
            try simp only [Exit.jump]
            refine at_world (fun w' => Ce w' w.heap.size [.int .i64 0, .int .i64 0, .int .i64 0, .int .i64 0, .int .i64 0, .int .u64 0, .int .u64 0] ∧ Below w.heap.size w w') ⟨CF.out, BF.out⟩ (fun wf hwf => ?_)
            obtain ⟨hc2, hbf⟩ := hwf
            have x0 := hc2.2.1 0 _ rfl
            have x1 := hc2.2.1 1 _ rfl
            have x2 := hc2.2.1 2 _ rfl
            have x3 := hc2.2.1 3 _ rfl
            have x4 := hc2.2.1 4 _ rfl
            have x5 := hc2.2.1 5 _ rfl
            have x6 := hc2.2.1 6 _ rfl
            refine bodyPost_ret (v := .tuple #[.agg #[.int .i64 0, .int .i64 0, .int .i64 0, .int .i64 0, .int .i64 0, .int .u64 0, .int .u64 0], .bool false]) (by simp [results, Tryd.results32, go_sem, x0, x1, x2, x3, x4, x5, x6]) rfl ?_
            exact ⟨by rw [KR.out]; rfl, hbf⟩
        · have KR := hid (KA.out hnm)
          have EL := hid (fun (w : World) => entry_len k n d2 X (by omega) hnm w)
          clear KA KB KY hnm HO
          go_wp2_with fail
          refine (EL.out _).mono ?_
          rintro x w6 ⟨rfl, hb⟩
          have CR6 := hid (CR5.out.below hb)
          have HB6 := hid (HB5.out.trans (hb.mono HB5.out.size))
          clear hb CR5 HB5 EL
          go_upto_region 11 with (fail)
          have CR8 := hid (CR6.out.alloc (.cells #[.int .i64 0, .int .i64 0, .int .i64 0, .int .i64 0, .int .i64 0, .int .u64 0, .int .u64 0] 56))
          have HB8 := hid (HB6.out.alloc HB6.out.size (.cells #[.int .i64 0, .int .i64 0, .int .i64 0, .int .i64 0, .int .i64 0, .int .u64 0, .int .u64 0] 56))
          clear CR6 HB6
          generalize w6.alloc (.cells #[.int .i64 0, .int .i64 0, .int .i64 0, .int .i64 0, .int .i64 0, .int .u64 0, .int .u64 0] 56) = w7 at *
          have r0 := CR8.out.2.1 0 _ rfl
          have r1 := CR8.out.2.1 1 _ rfl
          have r2 := CR8.out.2.1 2 _ rfl
          have r3 := CR8.out.2.1 3 _ rfl
          have r4 := CR8.out.2.1 4 _ rfl
          have r5 := CR8.out.2.1 5 _ rfl
          have r6 := CR8.out.2.1 6 _ rfl
          have rf := CR8.out.2.2
          go_wp2_with fail
          clear r0 r1 r2 r3 r4 r5 r6 rf
          have CF := hid (Ce.s7 CR8.out (.int .i64 0) (.int .i64 0) (.int .i64 0) (.int .i64 0) (.int .i64 0) (.int .u64 0) (.int .u64 0))
          have BF := hid (below_s7 HB8.out (Nat.le_refl _) (.int .i64 0) (.int .i64 0) (.int .i64 0) (.int .i64 0) (.int .i64 0) (.int .u64 0) (.int .u64 0))
          unfold S7 at CF BF
          try simp only [Exit.jump]
          refine at_world (fun w' => Ce w' w.heap.size [.int .i64 0, .int .i64 0, .int .i64 0, .int .i64 0, .int .i64 0, .int .u64 0, .int .u64 0] ∧ Below w.heap.size w w') ⟨CF.out, BF.out⟩ (fun wf hwf => ?_)
          obtain ⟨hc2, hbf⟩ := hwf
          have x0 := hc2.2.1 0 _ rfl
          have x1 := hc2.2.1 1 _ rfl
          have x2 := hc2.2.1 2 _ rfl
          have x3 := hc2.2.1 3 _ rfl
          have x4 := hc2.2.1 4 _ rfl
          have x5 := hc2.2.1 5 _ rfl
          have x6 := hc2.2.1 6 _ rfl
          refine bodyPost_ret (v := .tuple #[.agg #[.int .i64 0, .int .i64 0, .int .i64 0, .int .i64 0, .int .i64 0, .int .u64 0, .int .u64 0], .bool false]) (by simp [results, Tryd.results32, go_sem, x0, x1, x2, x3, x4, x5, x6]) rfl ?_
          exact ⟨by rw [KR.out]; rfl, hbf⟩
      · have KR := hid (KB.out hok)
        clear KA KB KY hok
        have CR8 := CR5
        have HB8 := HB5
        clear CR5 HB5
        have r0 := CR8.out.2.1 0 _ rfl
        have r1 := CR8.out.2.1 1 _ rfl
        have r2 := CR8.out.2.1 2 _ rfl
        have r3 := CR8.out.2.1 3 _ rfl
        have r4 := CR8.out.2.1 4 _ rfl
        have r5 := CR8.out.2.1 5 _ rfl
        have r6 := CR8.out.2.1 6 _ rfl
        have rf := CR8.out.2.2
        go_wp2_with fail
        clear r0 r1 r2 r3 r4 r5 r6 rf
        have CF := hid (Ce.s7 CR8.out (.int .i64 0) (.int .i64 0) (.int .i64 0) (.int .i64 0) (.int .i64 0) (.int .u64 0) (.int .u64 0))
        have BF := hid (below_s7 HB8.out (Nat.le_refl _) (.int .i64 0) (.int .i64 0) (.int .i64 0) (.int .i64 0) (.int .i64 0) (.int .u64 0) (.int .u64 0))
        unfold S7 at CF BF
        try simp only [Exit.jump]
        refine at_world (fun w' => Ce w' w.heap.size [.int .i64 0, .int .i64 0, .int .i64 0, .int .i64 0, .int .i64 0, .int .u64 0, .int .u64 0] ∧ Below w.heap.size w w') ⟨CF.out, BF.out⟩ (fun wf hwf => ?_)
        obtain ⟨hc2, hbf⟩ := hwf
        have x0 := hc2.2.1 0 _ rfl
        have x1 := hc2.2.1 1 _ rfl
        have x2 := hc2.2.1 2 _ rfl
        have x3 := hc2.2.1 3 _ rfl
        have x4 := hc2.2.1 4 _ rfl
        have x5 := hc2.2.1 5 _ rfl
        have x6 := hc2.2.1 6 _ rfl
        refine bodyPost_ret (v := .tuple #[.agg #[.int .i64 0, .int .i64 0, .int .i64 0, .int .i64 0, .int .i64 0, .int .u64 0, .int .u64 0], .bool false]) (by simp [results, Tryd.results32, go_sem, x0, x1, x2, x3, x4, x5, x6]) rfl ?_
        exact ⟨by rw [KR.out]; rfl, hbf⟩
    · have hbn : (Y.toList == D.toList) = false := by rw [beq_eq_false_iff_ne, hY, hD, ByteArray.toList_eq, ByteArray.toList_eq]; exact hw
      have hpre2 : ∀ j : Int, 1 ≤ j → j < k + 1 → wdL j ≠ x0 := fun j a b => by
        by_cases h : j = k
        · rw [h]; exact hw
        · exact HPRE.out j a (by omega)
      have HP2 := hid hpre2
      clear hY hD hw hpre2
      by_cases h6 : k = 6
      · subst h6
        have KR := hid (K0.out HP2.out)
        have CR8 := CR3
        have HB8 := HB3
        clear CR3 HB3
        go_wp2
        go_quiet ((go_at_call 45; exact q0p (WK.out _)))
        clear c0
        obtain ⟨w4, hw4⟩ : ∃ x, x = w3.drewN nq := ⟨_, rfl⟩
        have CR9 := hid (show Ce w4 w.heap.size [.int .i64 0, .int .i64 0, .int .i64 0, .int .i64 0, .int .i64 0, .int .u64 0, .int .u64 0] from by rw [hw4]; exact CR8.out)
        have HB9 := hid (show Below w.heap.size w w4 from by rw [hw4]; exact below_drewN HB8.out _)
        rw [← hw4]
        clear hw4 CR8 HB8 CS3
        have r0 := CR9.out.2.1 0 _ rfl
        have r1 := CR9.out.2.1 1 _ rfl
        have r2 := CR9.out.2.1 2 _ rfl
        have r3 := CR9.out.2.1 3 _ rfl
        have r4 := CR9.out.2.1 4 _ rfl
        have r5 := CR9.out.2.1 5 _ rfl
        have r6 := CR9.out.2.1 6 _ rfl
        have rf := CR9.out.2.2
        go_wp2_with fail
        clear r0 r1 r2 r3 r4 r5 r6 rf
        have CF := hid (Ce.s7 CR9.out (.int .i64 0) (.int .i64 0) (.int .i64 0) (.int .i64 0) (.int .i64 0) (.int .u64 0) (.int .u64 0))
        have BF := hid (below_s7 HB9.out (Nat.le_refl _) (.int .i64 0) (.int .i64 0) (.int .i64 0) (.int .i64 0) (.int .i64 0) (.int .u64 0) (.int .u64 0))
        unfold S7 at CF BF
        try simp only [Exit.jump]
        refine at_world (fun w' => Ce w' w.heap.size [.int .i64 0, .int .i64 0, .int .i64 0, .int .i64 0, .int .i64 0, .int .u64 0, .int .u64 0] ∧ Below w.heap.size w w') ⟨CF.out, BF.out⟩ (fun wf hwf => ?_)
        obtain ⟨hc2, hbf⟩ := hwf
        have x0 := hc2.2.1 0 _ rfl
        have x1 := hc2.2.1 1 _ rfl
        have x2 := hc2.2.1 2 _ rfl
        have x3 := hc2.2.1 3 _ rfl
        have x4 := hc2.2.1 4 _ rfl
        have x5 := hc2.2.1 5 _ rfl
        have x6 := hc2.2.1 6 _ rfl
        refine bodyPost_ret (v := .tuple #[.agg #[.int .i64 0, .int .i64 0, .int .i64 0, .int .i64 0, .int .i64 0, .int .u64 0, .int .u64 0], .bool false]) (by simp [results, Tryd.results32, go_sem, x0, x1, x2, x3, x4, x5, x6]) rfl ?_
        exact ⟨by rw [KR.out]; rfl, hbf⟩
      · have b6 : (k == 6) = false := by simp; omega
        have wk1 : IntKind.i64.wrap (k + 1) = k + 1 := IntWalk.i64_in _ (by omega)
        go_wp2
        go_quiet ((go_at_call 45; exact q0p (WK.out _)))
        go_wp2
        go_step3
        refine ⟨rfl, ⟨⟨hn5, HLN.out⟩, k + 1, S', d', _, _, _, _, _, _, _, _, _, _, _, _, _, _, _, _, _, _, _, _, _, _, _, _, _, _, _, _, _, _, _, _, _, _, _, _, _, _, _, _, _, by omega, by omega, HP2.out, hd', CR3.out, CS3.out, below_drewN HB3.out _, rfl⟩, ?_⟩
        simp [intOf]; omega
end Go.Proofs.YtljgcffpijjliaaDoor

/- The reference's Parse, of any text. -/
namespace Go.Proofs.YtljgcffpijjliaaDoor
set_option linter.unusedVariables false
set_option linter.unusedSimpArgs false
open Go.RowKit Go.ChangeShapes Go.WideShapes Go.ChangeAt

def kdT (x : List UInt8) (k : Int) : Int := if kdO x < k then kdO x else 0
theorem kd_bd (x : List UInt8) : 0 ≤ kdO x ∧ kdO x ≤ 6 := by unfold kdO; split; decide; split; decide; split; decide; split; decide; split; decide; split <;> decide
theorem kd_inv {x : List UInt8} {k : Int} (h1 : 1 ≤ k) (h : kdO x = k) : wdL k = x := by
  subst h
  unfold kdO at h1 ⊢
  split
  · rename_i h; exact h.symm
  split
  · rename_i h; exact h.symm
  split
  · rename_i h; exact h.symm
  split
  · rename_i h; exact h.symm
  split
  · rename_i h; exact h.symm
  split
  · rename_i h; exact h.symm
  · rename_i a b c d e f; rw [if_neg a, if_neg b, if_neg c, if_neg d, if_neg e, if_neg f] at h1; exact absurd h1 (by decide)
theorem kdT_1 (x : List UInt8) : kdT x 1 = 0 := by have := kd_bd x; unfold kdT; split <;> omega
theorem kdT_7 (x : List UInt8) : kdT x 7 = kdO x := by have := kd_bd x; unfold kdT; rw [if_pos (by omega)]
theorem kdT_y {x : List UInt8} {k : Int} (h1 : 1 ≤ k) (h6 : k ≤ 6) (h : wdL k = x) : kdT x (k + 1) = k := by
  have : kdO x = k := kd_1 h1 h6 (fun j a b e => wd_ne a b h6 (e.trans h.symm)) h
  unfold kdT
  rw [this, if_pos (by omega)]
theorem kdT_n {x : List UInt8} {k : Int} (h1 : 1 ≤ k) (h : wdL k ≠ x) : kdT x (k + 1) = kdT x k := by
  have : kdO x ≠ k := fun e => h (kd_inv h1 e)
  unfold kdT
  by_cases hk : kdO x < k
  · rw [if_pos hk, if_pos (by omega)]
  · rw [if_neg hk, if_neg (by omega)]
/-- The numbers that were read so far. -/
def nuI (u : Nat → Nat) (j q : Nat) : Int := if q < j then ((u q : Nat) : Int) else 0
def NA (w : World) (b : Nat) (u : Nat → Nat) (j : Nat) : Prop := b < w.heap.size ∧ (∀ q, q < 4 → w.cell? ⟨b, q, none⟩ = some (.int .u64 (nuI u j q))) ∧ ∀ q, w.frozen? ⟨b, q, none⟩ = false
theorem NA.below {w w' : World} {b : Nat} {u : Nat → Nat} {j : Nat} (h : NA w b u j) (hb : Below w.heap.size w w') : NA w' b u j :=
  ⟨Nat.lt_of_lt_of_le h.1 hb.size, fun q hq => (hb.cell (p := ⟨b, q, none⟩) h.1).trans (h.2.1 q hq), fun q => (World.frozen?_of_block (a := ⟨b, q, none⟩) (hb.block b h.1)).trans (h.2.2 q)⟩
theorem NA.zero {w : World} {T : TypeId} {u : Nat → Nat} {g : Nat} (hg : w.heap.size = g) : NA (w.alloc (.cells #[.int .u64 0, .int .u64 0, .int .u64 0, .int .u64 0] T)) g u 0 := by
  have h := Ce.made (w := w) (l := [.int .u64 0, .int .u64 0, .int .u64 0, .int .u64 0]) (T := T) (g := g) hg
  refine ⟨h.1, fun q hq => ?_, h.2.2⟩
  unfold nuI
  rw [if_neg (by omega)]
  exact h.2.1 q _ (by match q, hq with | 0, _ => rfl | 1, _ => rfl | 2, _ => rfl | 3, _ => rfl)
theorem NA.put {w : World} {b : Nat} {u : Nat → Nat} {j : Nat} (h : NA w b u j) (hj : j < 4) : NA (w.setCell ⟨b, j, none⟩ (.int .u64 ((u j : Nat) : Int))) b u (j + 1) := by
  refine ⟨by simpa using h.1, fun q hq => ?_, fun q => by rw [World.frozen?_setCell]; exact h.2.2 q⟩
  by_cases e : q = j
  · subst e
    unfold nuI
    rw [if_pos (by omega)]
    exact World.cell?_setCell_same _ _ _ (h.2.1 q hq)
  · rw [World.cell?_setCell_other _ _ _ _ (fun x => e (by injection x with _ x; exact x.symm)), h.2.1 q hq]
    unfold nuI
    by_cases hqj : q < j
    · rw [if_pos hqj, if_pos (by omega)]
    · rw [if_neg hqj, if_neg (by omega)]
theorem NA.other {w : World} {b c i : Nat} {v : Value} {u : Nat → Nat} {j : Nat} (h : NA w b u j) (hne : c ≠ b) : NA (w.setCell ⟨c, i, none⟩ v) b u j :=
  ⟨by simpa using h.1, fun q hq => by rw [World.cell?_setCell_other _ _ _ _ (fun e => hne (by injection e))]; exact h.2.1 q hq, fun q => by rw [World.frozen?_setCell]; exact h.2.2 q⟩
theorem chk_rng {e : En} (h : chk e = 0) : (0 ≤ e.s ∧ e.s ≤ 63) ∧ (e.k = 1 → (0 ≤ e.a ∧ e.a ≤ 4294967295) ∧ (0 ≤ e.p ∧ e.p ≤ 65535) ∧ (0 ≤ e.w ∧ e.w ≤ 8)) := by
  rcases chk_shape h with ⟨s, a, q, m, rfl, h1, h2, h3, h4⟩ | ⟨ya, yb, rfl⟩ | ⟨k, s, rfl, h1, h6, h2, h3⟩
  · exact ⟨h1, fun _ => ⟨h2, h3, h4⟩⟩
  · exact ⟨⟨by show (0 : Int) ≤ 0; decide, by show (0 : Int) ≤ 63; decide⟩, fun h => absurd h (by show ¬ (6 : Int) = 1; decide)⟩
  · exact ⟨⟨h2, h3⟩, fun h => absurd h h1⟩
theorem iw_small {n : Nat} (hn : n < 18446744073709551616) (h : 0 ≤ iw n) (h2 : iw n ≤ 4294967295) : n < 1099511627776 := by
  unfold iw IntKind.wrap at *
  simp [IntKind.bits, IntKind.signed] at h h2
  omega
theorem prW_big {ws : List (List UInt8)} {n j : Nat} {k : Int} (hn : ws.length = n + 1) (hk : kdO (ws.getD 0 []) = k) (h1 : 1 ≤ k) (h6 : k ≠ 6) (hm : n = nml k) (hj : j < n) (hb : 1099511627776 ≤ nuW ws j) (hlt : nuW ws j < 18446744073709551616) : prW ws = none := by
  by_cases hok : okW ws n = true
  · rw [prW_y hn hk h1 hm hok, if_neg]
    intro hc
    have hr := chk_rng hc
    unfold enO at hr
    by_cases e1 : k = 1
    · rw [if_pos e1] at hr
      obtain ⟨a, b⟩ := hr
      obtain ⟨b1, b2, b3⟩ := b rfl
      dsimp only at a b1 b2 b3
      have hn4 : n = 4 := by rw [hm, e1]; rfl
      have : j = 0 ∨ j = 1 ∨ j = 2 ∨ j = 3 := by omega
      rcases this with rfl | rfl | rfl | rfl
      · have := iw_small hlt a.1 (by omega); omega
      · have := iw_small hlt b1.1 (by omega); omega
      · have := iw_small hlt b2.1 (by omega); omega
      · have := iw_small hlt b3.1 (by omega); omega
    · rw [if_neg e1, if_neg h6] at hr
      obtain ⟨a, _⟩ := hr
      dsimp only at a
      have hn1 : n = 1 := by rw [hm]; unfold nml; rw [if_neg e1, if_neg h6]
      obtain rfl : j = 0 := by omega
      have := iw_small hlt a.1 (by omega)
      omega
  · exact prW_b hn (by simpa using hok)
theorem spl_each : ∀ (l : List UInt8) (j : Nat), ((spl l).getD j []).length ≤ l.length
  | [], 0 => Nat.le_refl _
  | [], j + 1 => Nat.zero_le _
  | c :: t, j => by
    have ih := spl_each t
    unfold spl
    split
    · cases j with
      | zero => exact Nat.zero_le _
      | succ j => have := ih j; simp only [List.getD_cons_succ, List.length_cons]; omega
    · split
      · cases j with
        | zero => simp
        | succ j => simp
      · rename_i x r h
        cases j with
        | zero => have := ih 0; rw [h] at this; simp only [List.getD_cons_zero, List.length_cons] at this ⊢; omega
        | succ j => have := ih (j + 1); rw [h] at this; simp only [List.getD_cons_succ, List.length_cons] at this ⊢; omega
theorem en_form {K : Int} {u : Nat → Nat} {j : Nat} (hm : j = nml K) : ∃ es ea eq em ey ez : Int, enO K u = ⟨K, es, ea, eq, em, ⟨ey, ez⟩⟩ ∧ ((K = 6 ∧ es = 0 ∧ ea = 0 ∧ eq = 0 ∧ em = 0 ∧ nuI u j 0 = ey ∧ nuI u j 1 = ez) ∨ (K ≠ 6 ∧ IntKind.i64.wrap (nuI u j 0) = es ∧ IntKind.i64.wrap (nuI u j 1) = ea ∧ IntKind.i64.wrap (nuI u j 2) = eq ∧ IntKind.i64.wrap (nuI u j 3) = em ∧ ey = 0 ∧ ez = 0)) := by
  unfold nml at hm
  unfold enO nuI iw
  have z : IntKind.i64.wrap 0 = 0 := IntWalk.i64_in _ (by omega)
  by_cases h1 : K = 1
  · rw [if_pos h1] at hm ⊢
    subst h1; subst hm
    exact ⟨_, _, _, _, _, _, rfl, .inr ⟨by decide, rfl, rfl, rfl, rfl, rfl, rfl⟩⟩
  · rw [if_neg h1] at hm ⊢
    by_cases h6 : K = 6
    · rw [if_pos h6] at hm ⊢
      subst h6; subst hm
      exact ⟨_, _, _, _, _, _, rfl, .inl ⟨rfl, rfl, rfl, rfl, rfl, rfl, rfl⟩⟩
    · rw [if_neg h6] at hm ⊢
      subst hm
      exact ⟨_, _, _, _, _, _, rfl, .inr ⟨h6, rfl, z, z, z, rfl, rfl⟩⟩
set_option maxRecDepth 100000 in
set_option maxHeartbeats 8000000 in
theorem rparseO_any (s : ByteArray) (hsm : s.size ≤ 100000) (w : World) : Calls Tryd.prog 34 #[.string s] w fun r w' => r = .returned (prV (prW (spl s.toList))) ∧ Below w.heap.size w w' := by
  have SPL := hid (fun w => rsplit_any s hsm w)
  have hsz : s.size = s.toList.length := by rw [ByteArray.toList_eq]; exact (Array.length_toList).symm
  obtain ⟨ws, hws⟩ : ∃ ws, ws = spl s.toList := ⟨_, rfl⟩
  have hN0 := spl_ne s.toList
  have hNL := spl_le s.toList
  have HFV := hid (show ∀ j, splV s.toList j = .string ⟨(ws.getD j []).toArray⟩ from fun j => by rw [hws]; rfl)
  have HWL := hid (show ∀ j, (wdA ws j).size ≤ 1000000 from fun j => by
    have h1 : (wdA ws j).size = (ws.getD (j + 1) []).length := rfl
    rw [h1, hws]
    have h2 := spl_each s.toList (j + 1)
    omega)
  obtain ⟨FV, hFV⟩ : ∃ F, F = splV s.toList := ⟨_, rfl⟩
  rw [← hFV] at SPL HFV
  rw [← hws] at SPL hN0 hNL ⊢
  clear hws hFV
  obtain ⟨N, hN⟩ : ∃ N, N = ws.length := ⟨_, rfl⟩
  rw [← hN] at SPL hN0 hNL
  have hN6 : N ≤ 100001 := by omega
  obtain ⟨n, hn⟩ : ∃ n, n = N - 1 := ⟨_, rfl⟩
  have hNn : N = n + 1 := by omega
  have hNI : IntKind.i64.wrap ((N : Int) - 1) = (n : Int) := by rw [hNn]; rw [IntWalk.i64_in _ (by omega)]; omega
  have hl : ws.length = n + 1 := by omega
  obtain ⟨K, hK⟩ : ∃ K, K = kdO (ws.getD 0 []) := ⟨_, rfl⟩
  have hKb := kd_bd (ws.getD 0 [])
  rw [← hK] at hKb
  have HK := hid hK
  obtain ⟨R, hR⟩ : ∃ R, R = prW ws := ⟨_, rfl⟩
  have K0 := hid (fun h : K = 0 => (show R = none from by rw [hR]; exact prW_0 (hK ▸ h)))
  have KN := hid (fun h : n ≠ nml K => (show R = none from by rw [hR]; exact prW_n hl (by rw [← hK]; exact h)))
  have KB := hid (fun (j : Nat) (hj : j < n) (h : (numO (wdA ws j).toList).isSome = false) => (show R = none from by rw [hR]; exact prW_b hl (by rw [← okA]; exact okAll_no hj h)))
  have KG := hid (fun (h1 : 1 ≤ K) (h6 : K ≠ 6) (hm : n = nml K) (j m : Nat) (hj : j < n) (hq : numO (wdA ws j).toList = some m) (hb : 1099511627776 ≤ m) => (show R = none from by
    have h2 : nuW ws j = m := by unfold nuW; rw [← wdA_l, hq]; rfl
    rw [hR]; exact prW_big hl hK.symm h1 h6 hm hj (by omega) (by rw [h2]; exact numO_lt hq)))
  have KY := hid (fun (h1 : 1 ≤ K) (hm : n = nml K) (h : okAll (wdA ws) n = true) => (show R = if chk (enO K (nuO (wdA ws))) = 0 then some (enO K (nuO (wdA ws))) else none from by
    rw [hR, enO_ext (nuA ws)]; exact prW_y hl hK.symm h1 hm (by rw [← okA]; exact h)))
  have x0e : ∃ x0, x0 = ws.getD 0 [] := ⟨_, rfl⟩
  obtain ⟨x0, hx0⟩ := x0e
  have HF0 := hid (show FV 0 = .string ⟨x0.toArray⟩ from by rw [HFV.out, hx0])
  have HFS := hid (show ∀ j, FV (j + 1) = .string (wdA ws j) from fun j => HFV.out (j + 1))
  have HT7 := hid (show kdT x0 7 = K from by rw [kdT_7, hx0, hK])
  rw [← hR]
  have HNN := hid hNn
  have HNI := hid hNI
  obtain ⟨WD, hWD⟩ : ∃ WD, WD = wdA ws := ⟨_, rfl⟩
  simp only [← hWD] at KB KG KY HFS HWL
  clear hR hK hl hNn hNI hn hN hNL hsz hsm hx0 HFV HK hWD
  have ci : ∀ (w : World) (k : Int), (Ce w (w.heap.size) []) → True := fun _ _ _ => trivial
  clear ci
  go_enter Tryd.func34, Tryd.ntmps34
  go_wp2_with fail
  have CR1 := hid (Ce.made (w := w) (l := [.int .i64 0, .int .i64 0, .int .i64 0, .int .i64 0, .int .i64 0, .int .u64 0, .int .u64 0]) (T := 56) (g := w.heap.size) rfl)
  have HB1 := hid ((Below.refl w.heap.size w).alloc (Nat.le_refl _) (.cells #[.int .i64 0, .int .i64 0, .int .i64 0, .int .i64 0, .int .i64 0, .int .u64 0, .int .u64 0] 56))
  have L1 := hid (show w.heap.size < (w.alloc (.cells #[.int .i64 0, .int .i64 0, .int .i64 0, .int .i64 0, .int .i64 0, .int .u64 0, .int .u64 0] 56)).heap.size from by simp)
  simp only [List.toArray] at CR1
  generalize w.alloc (.cells #[.int .i64 0, .int .i64 0, .int .i64 0, .int .i64 0, .int .i64 0, .int .u64 0, .int .u64 0] 56) = w1 at *
  refine (SPL.out _).mono ?_
  rintro x w2 ⟨X, d, rfl, ho, hb⟩
  obtain ⟨G, rfl, hG1, hG2, hcc, -⟩ := Ow.block_ ho hN0
  have hNd : N ≤ d := by obtain ⟨A', c', e, h, _⟩ := ho.form_; injection e with _ _ e; omega
  have SL2 := hid (show Sl w2 (some ⟨G, 0, none⟩) N FV from fun _ => ⟨G, 0, rfl, hG2, fun j hj => by rw [Nat.zero_add]; exact hcc j (by omega)⟩)
  have CR2 := hid (CR1.out.below hb)
  have HB2 := hid (HB1.out.trans (hb.mono HB1.out.size))
  have hRG : w.heap.size < G := Nat.lt_of_lt_of_le L1.out hG1
  clear hb ho hcc SPL CR1 HB1 L1 hG1
  go_upto_region 3 with (fail)
  have CE3 := hid (Ce.made (w := w2) (l := [.int .i64 0, .int .i64 0, .int .i64 0, .int .i64 0, .int .i64 0, .int .u64 0, .int .u64 0]) (T := 56) (g := w2.heap.size) rfl)
  have CR3 := hid (CR2.out.alloc (.cells #[.int .i64 0, .int .i64 0, .int .i64 0, .int .i64 0, .int .i64 0, .int .u64 0, .int .u64 0] 56))
  have HB3 := hid (HB2.out.alloc HB2.out.size (.cells #[.int .i64 0, .int .i64 0, .int .i64 0, .int .i64 0, .int .i64 0, .int .u64 0, .int .u64 0] 56))
  have SL3 := hid (Sl.alloc SL2.out (.cells #[.int .i64 0, .int .i64 0, .int .i64 0, .int .i64 0, .int .i64 0, .int .u64 0, .int .u64 0] 56))
  have hRE : w.heap.size < w2.heap.size := by omega
  simp only [List.toArray] at CE3
  clear CR2 HB2 SL2
  generalize w2.alloc (.cells #[.int .i64 0, .int .i64 0, .int .i64 0, .int .i64 0, .int .i64 0, .int .u64 0, .int .u64 0] 56) = w3 at *
  generalize w2.heap.size = E at *
  go_wp2_with fail
  go_loopw [6] (fun i wr => ∃ k : Nat, 1 ≤ k ∧ k ≤ 7 ∧ i = .int .i64 (k : Int) ∧ Ce wr E [.int .i64 (kdT x0 (k : Int)), .int .i64 0, .int .i64 0, .int .i64 0, .int .i64 0, .int .u64 0, .int .u64 0] ∧ Ce wr w.heap.size [.int .i64 0, .int .i64 0, .int .i64 0, .int .i64 0, .int .i64 0, .int .u64 0, .int .u64 0] ∧ Sl wr (some ⟨G, 0, none⟩) N FV ∧ Below w.heap.size w wr) (fun i _ => 7 - (intOf i).toNat)
  case atStart => exact ⟨1, by omega, by omega, rfl, by rw [show ((1 : Nat) : Int) = 1 from rfl, kdT_1]; exact CE3.out, CR3.out, SL3.out, HB3.out⟩
  case round =>
    clear CE3 CR3 SL3 HB3
    obtain ⟨k, hk1, hk7, rfl, hce, hcr, hsl, hb⟩ := hrel
    have CE4 := hid hce
    have CR4 := hid hcr
    have SL4 := hid hsl
    have HB4 := hid hb
    clear hce hcr hsl hb
    by_cases hk : k ≤ 6
    · have i6 : (k : Int) ≤ 6 := by omega
      have c0 : ∀ w, Sl w (some ⟨G, 0, none⟩) N FV → w.cell? ⟨G, 0, none⟩ = some (.string ⟨x0.toArray⟩) := fun w h => by have := Sl.at_ h (j := 0) hN0; rw [Nat.zero_add] at this; rw [this, HF0.out]
      have c0 := c0 wr SL4.out
      have hNi : (0 : Int) < N := by omega
      have WK := hid (fun w => rword_any (k : Int) w)
      have KTY := hid (fun h => kdT_y (x := x0) (k := (k : Int)) (by omega) (by omega) h)
      have KTN := hid (fun h => kdT_n (x := x0) (k := (k : Int)) (by omega) h)
      obtain ⟨D, hD⟩ : ∃ D : ByteArray, D = ⟨x0.toArray⟩ := ⟨_, rfl⟩
      rw [← hD] at c0
      obtain ⟨Y, hY⟩ : ∃ Y : ByteArray, Y = ⟨(wdL (k : Int)).toArray⟩ := ⟨_, rfl⟩
      rw [← hY] at WK
      by_cases hw : wdL (k : Int) = x0
      · have hYD : Y = D := by rw [hY, hD, hw]
        subst hYD
        have KT := hid (KTY.out hw)
        clear hY hD hw KTY KTN
        go_wp2
        go_quiet ((go_at_call 52; exact q0p (WK.out _)))
        clear c0
        obtain ⟨w4, hw4⟩ : ∃ x, x = wr.drewN nq := ⟨_, rfl⟩
        have CE5 := hid (show Ce w4 E [.int .i64 (kdT x0 (k : Int)), .int .i64 0, .int .i64 0, .int .i64 0, .int .i64 0, .int .u64 0, .int .u64 0] from by rw [hw4]; exact CE4.out)
        have CR5 := hid (show Ce w4 w.heap.size [.int .i64 0, .int .i64 0, .int .i64 0, .int .i64 0, .int .i64 0, .int .u64 0, .int .u64 0] from by rw [hw4]; exact CR4.out)
        have SL5 := hid (show Sl w4 (some ⟨G, 0, none⟩) N FV from by rw [hw4]; exact SL4.out)
        have HB5 := hid (show Below w.heap.size w w4 from by rw [hw4]; exact below_drewN HB4.out _)
        rw [← hw4]
        clear hw4 CE4 CR4 SL4 HB4
        have e0 := CE5.out.2.1 0 _ rfl
        have ef := CE5.out.2.2 0
        have el := CE5.out.1
        go_wp2_with fail
        go_roundw
        case rel => exact ⟨k + 1, by omega, by omega, by go_num, by rw [show ((k + 1 : Nat) : Int) = (k : Int) + 1 by omega, KT.out]; exact CE5.out.set 0 (.int .i64 (k : Int)) (by simp), CR5.out.other (by omega), SL5.out.setCell (B := E) _ (fun ad e => by injection e with e; subst e; exact hG2) (Nat.le_refl _), HB5.out.setCell (p := ⟨E, 0, none⟩) (by show w.heap.size ≤ E; omega) _⟩
        case measure => simp [intOf]; omega
      · have hbn : (Y.toList == D.toList) = false := by rw [beq_eq_false_iff_ne, hY, hD, ByteArray.toList_eq, ByteArray.toList_eq]; exact hw
        have KT := hid (KTN.out hw)
        clear hY hD hw KTY KTN
        go_wp2
        go_quiet ((go_at_call 52; exact q0p (WK.out _)))
        clear c0
        obtain ⟨w4, hw4⟩ : ∃ x, x = wr.drewN nq := ⟨_, rfl⟩
        have CE5 := hid (show Ce w4 E [.int .i64 (kdT x0 (k : Int)), .int .i64 0, .int .i64 0, .int .i64 0, .int .i64 0, .int .u64 0, .int .u64 0] from by rw [hw4]; exact CE4.out)
        have CR5 := hid (show Ce w4 w.heap.size [.int .i64 0, .int .i64 0, .int .i64 0, .int .i64 0, .int .i64 0, .int .u64 0, .int .u64 0] from by rw [hw4]; exact CR4.out)
        have SL5 := hid (show Sl w4 (some ⟨G, 0, none⟩) N FV from by rw [hw4]; exact SL4.out)
        have HB5 := hid (show Below w.heap.size w w4 from by rw [hw4]; exact below_drewN HB4.out _)
        rw [← hw4]
        clear hw4 CE4 CR4 SL4 HB4
        go_wp2_with fail
        go_roundw
        case rel => exact ⟨k + 1, by omega, by omega, by go_num, by rw [show ((k + 1 : Nat) : Int) = (k : Int) + 1 by omega, KT.out]; exact CE5.out, CR5.out, SL5.out, HB5.out⟩
        case measure => simp [intOf]; omega
    · obtain rfl : k = 7 := by omega
      have CE5 := hid (show Ce wr E [.int .i64 K, .int .i64 0, .int .i64 0, .int .i64 0, .int .i64 0, .int .u64 0, .int .u64 0] from by have h := CE4.out; rw [show ((7 : Nat) : Int) = 7 from rfl, HT7.out] at h; exact h)
      clear CE4 hk hk1 hk7 HF0 HT7
      have e0 := CE5.out.2.1 0 _ rfl
      by_cases hK0 : K = 0
      · subst hK0
        have KR := hid (K0.out rfl)
        clear K0 KN KB KG KY
        have CR8 := CR4
        have HB8 := HB4
        clear CR4 HB4
        have r0 := CR8.out.2.1 0 _ rfl
        have r1 := CR8.out.2.1 1 _ rfl
        have r2 := CR8.out.2.1 2 _ rfl
        have r3 := CR8.out.2.1 3 _ rfl
        have r4 := CR8.out.2.1 4 _ rfl
        have r5 := CR8.out.2.1 5 _ rfl
        have r6 := CR8.out.2.1 6 _ rfl
        have rf := CR8.out.2.2
        go_wp2_with fail
        clear r0 r1 r2 r3 r4 r5 r6 rf
        have CF := hid (Ce.s7 CR8.out (.int .i64 0) (.int .i64 0) (.int .i64 0) (.int .i64 0) (.int .i64 0) (.int .u64 0) (.int .u64 0))
        have BF := hid (below_s7 HB8.out (Nat.le_refl _) (.int .i64 0) (.int .i64 0) (.int .i64 0) (.int .i64 0) (.int .i64 0) (.int .u64 0) (.int .u64 0))
        unfold S7 at CF BF
        try simp only [Exit.jump]
        refine at_world (fun w' => Ce w' w.heap.size [.int .i64 0, .int .i64 0, .int .i64 0, .int .i64 0, .int .i64 0, .int .u64 0, .int .u64 0] ∧ Below w.heap.size w w') ⟨CF.out, BF.out⟩ (fun wf hwf => ?_)
        obtain ⟨hc2, hbf⟩ := hwf
        have x0 := hc2.2.1 0 _ rfl
        have x1 := hc2.2.1 1 _ rfl
        have x2 := hc2.2.1 2 _ rfl
        have x3 := hc2.2.1 3 _ rfl
        have x4 := hc2.2.1 4 _ rfl
        have x5 := hc2.2.1 5 _ rfl
        have x6 := hc2.2.1 6 _ rfl
        refine bodyPost_ret (v := .tuple #[.agg #[.int .i64 0, .int .i64 0, .int .i64 0, .int .i64 0, .int .i64 0, .int .u64 0, .int .u64 0], .bool false]) (by simp [results, Tryd.results34, go_sem, x0, x1, x2, x3, x4, x5, x6]) rfl ?_
        exact ⟨by rw [KR.out]; rfl, hbf⟩
      · have bK0 : (K == 0) = false := by simpa using hK0
        have hK1 : 1 ≤ K := by omega
        have NU := hid (fun (w : World) => (show Calls Tryd.prog 53 #[.agg #[.int .i64 K, .int .i64 0, .int .i64 0, .int .i64 0, .int .i64 0, .int .u64 0, .int .u64 0]] w fun r w' => ∃ b : Nat, r = .returned (.slice (some ⟨b, 0, none⟩) (nml K) (nml K)) ∧ Below w.heap.size w w' from by rw [← nml_len K]; exact (rnums_any ⟨K, 0, 0, 0, 0, zKy⟩ (nml_U K) w).mono (fun r w' h => by obtain ⟨b, e, _, _, hb⟩ := h; exact ⟨b, e, hb⟩)))
        obtain ⟨mK, hmK⟩ : ∃ m, m = nml K := ⟨_, rfl⟩
        have hm14 := nml_le K
        rw [← hmK] at NU hm14
        have e1 := CE5.out.2.1 1 _ rfl
        have e2 := CE5.out.2.1 2 _ rfl
        have e3 := CE5.out.2.1 3 _ rfl
        have e4 := CE5.out.2.1 4 _ rfl
        have e5 := CE5.out.2.1 5 _ rfl
        have e6 := CE5.out.2.1 6 _ rfl
        have hni := HNI.out
        by_cases hnm : n = mK
        · have bn : ((mK : Int) != (n : Int)) = false := by rw [hnm]; simp
          have HNM := hid (hnm.trans hmK)
          have HN4 := hid (show n ≤ 4 from by omega)
          have HMN := hid hnm
          clear hnm hmK
          go_wp2_with fail
          refine (NU.out _).mono ?_
          rintro x w6 ⟨b6, rfl, hb⟩
          have CE6 := hid (CE5.out.below hb)
          have CR6 := hid (CR4.out.below hb)
          have SL6 := hid (SL4.out.below hb (Nat.le_refl _))
          have HB6 := hid (HB4.out.trans (hb.mono HB4.out.size))
          clear hb CE5 CR4 SL4 HB4 e0 e1 e2 e3 e4 e5 e6 NU
          go_upto_region 11 with (fail)
          clear hni bn
          have NA7 := hid (NA.zero (w := w6) (T := 87) (u := nuO WD) (g := w6.heap.size) rfl)
          have CE7 := hid (CE6.out.alloc (.cells #[.int .u64 0, .int .u64 0, .int .u64 0, .int .u64 0] 87))
          have CR7 := hid (CR6.out.alloc (.cells #[.int .u64 0, .int .u64 0, .int .u64 0, .int .u64 0] 87))
          have SL7 := hid (Sl.alloc SL6.out (.cells #[.int .u64 0, .int .u64 0, .int .u64 0, .int .u64 0] 87))
          have HB7 := hid (HB6.out.alloc HB6.out.size (.cells #[.int .u64 0, .int .u64 0, .int .u64 0, .int .u64 0] 87))
          have hEB : E < w6.heap.size := CE6.out.1
          clear CE6 CR6 SL6 HB6
          generalize w6.alloc (.cells #[.int .u64 0, .int .u64 0, .int .u64 0, .int .u64 0] 87) = w7 at *
          generalize w6.heap.size = B at *
          go_wp2_with fail
          go_loopw [8] (fun i wr => ∃ j q : Nat, i = .int .i64 (q : Int) ∧ q = j + 1 ∧ j ≤ n ∧ okAll WD j = true ∧ NA wr B (nuO WD) j ∧ Ce wr E [.int .i64 K, .int .i64 0, .int .i64 0, .int .i64 0, .int .i64 0, .int .u64 0, .int .u64 0] ∧ Ce wr w.heap.size [.int .i64 0, .int .i64 0, .int .i64 0, .int .i64 0, .int .i64 0, .int .u64 0, .int .u64 0] ∧ Sl wr (some ⟨G, 0, none⟩) N FV ∧ Below w.heap.size w wr) (fun i _ => n + 1 - (intOf i).toNat)
          case atStart => exact ⟨0, 1, rfl, rfl, by omega, rfl, NA7.out, CE7.out, CR7.out, SL7.out, HB7.out⟩
          case round =>
            clear NA7 CE7 CR7 SL7 HB7
            obtain ⟨j, q, rfl, hqj, hjn, hok, hna, hce, hcr, hsl, hb⟩ := hrel
            have NA8 := hid hna
            have CE8 := hid hce
            have CR8 := hid hcr
            have SL8 := hid hsl
            have HB8 := hid hb
            have HOK := hid hok
            have HQJ := hid hqj
            clear hna hce hcr hsl hb hok
            have hNn := HNN.out
            have hn4 := HN4.out
            by_cases hj : j < n
            · have i0 : (0 : Int) ≤ q := by omega
              have i1 : (q : Int) < N := by omega
              have j0 : (0 : Int) ≤ j := by omega
              have j4 : (j : Int) < 4 := by omega
              have j4n : j < 4 := by omega
              have wq : IntKind.i64.wrap ((q : Int) - 1) = (j : Int) := by rw [hqj, IntWalk.i64_in _ (by omega)]; omega
              have xc : wr.cell? ⟨G, q, none⟩ = some (.string (WD j)) := by have h := SL8.out.at_ (j := q) (by omega); rw [Nat.zero_add] at h; rw [h, hqj, HFS.out]
              have RN := hid (fun w => rnumO_any (WD j) (HWL.out j) w)
              have KBj := hid (KB.out j hj)
              have KGj := hid (fun h6 m => KG.out hK1 h6 HNM.out j m hj)
              have HO1 := hid (okAll_s WD j)
              have HNU := hid (show ∀ m, numO (WD j).toList = some m → nuO WD j = m from fun m h => by unfold nuO; rw [h]; rfl)
              have HJ := hid hj
              obtain ⟨x, hx⟩ : ∃ x, x = WD j := ⟨_, rfl⟩
              rw [← hx] at xc RN KBj KGj HO1 HNU
              clear hx hj hqj hNn
              go_wp2_with fail
              clear xc
              refine (RN.out _).mono ?_
              rintro e w9 ⟨⟨m, rfl, hmm, hm64⟩, rfl⟩
              have HMM := hid hmm
              clear hmm RN
              obtain ⟨bb, hbb⟩ : ∃ b, b = (numO x.toList).isSome := ⟨_, rfl⟩
              have HBB := hid hbb
              rw [← hbb] at KBj HO1 ⊢
              clear hbb
              have e0 := CE8.out.2.1 0 _ rfl
              cases bb
              · have KR := hid (KBj.out rfl)
                have r0 := CR8.out.2.1 0 _ rfl
                have r1 := CR8.out.2.1 1 _ rfl
                have r2 := CR8.out.2.1 2 _ rfl
                have r3 := CR8.out.2.1 3 _ rfl
                have r4 := CR8.out.2.1 4 _ rfl
                have r5 := CR8.out.2.1 5 _ rfl
                have r6 := CR8.out.2.1 6 _ rfl
                have rf := CR8.out.2.2
                go_wp2_with fail
                clear r0 r1 r2 r3 r4 r5 r6 rf
                have CF := hid (Ce.s7 CR8.out (.int .i64 0) (.int .i64 0) (.int .i64 0) (.int .i64 0) (.int .i64 0) (.int .u64 0) (.int .u64 0))
                have BF := hid (below_s7 HB8.out (Nat.le_refl _) (.int .i64 0) (.int .i64 0) (.int .i64 0) (.int .i64 0) (.int .i64 0) (.int .u64 0) (.int .u64 0))
                unfold S7 at CF BF
                try simp only [Exit.jump]
                refine at_world (fun w' => Ce w' w.heap.size [.int .i64 0, .int .i64 0, .int .i64 0, .int .i64 0, .int .i64 0, .int .u64 0, .int .u64 0] ∧ Below w.heap.size w w') ⟨CF.out, BF.out⟩ (fun wf hwf => ?_)
                obtain ⟨hc2, hbf⟩ := hwf
                have x0 := hc2.2.1 0 _ rfl
                have x1 := hc2.2.1 1 _ rfl
                have x2 := hc2.2.1 2 _ rfl
                have x3 := hc2.2.1 3 _ rfl
                have x4 := hc2.2.1 4 _ rfl
                have x5 := hc2.2.1 5 _ rfl
                have x6 := hc2.2.1 6 _ rfl
                refine bodyPost_ret (v := .tuple #[.agg #[.int .i64 0, .int .i64 0, .int .i64 0, .int .i64 0, .int .i64 0, .int .u64 0, .int .u64 0], .bool false]) (by simp [results, Tryd.results34, go_sem, x0, x1, x2, x3, x4, x5, x6]) rfl ?_
                exact ⟨by rw [KR.out]; rfl, hbf⟩
              · have hsm : numO x.toList = some m := by
                  have h := HBB.out
                  cases hq : numO x.toList with
                  | none => rw [hq] at h; cases h
                  | some v => rw [HMM.out v hq]
                have HSM := hid hsm
                clear hsm
                by_cases hbig : K ≠ 6 ∧ 1099511627776 ≤ m
                · have KR := hid (KGj.out hbig.1 m HSM.out hbig.2)
                  have b6 : (K != 6) = true := by simpa using hbig.1
                  have b6' : (K == 6) = false := by simpa using hbig.1
                  have bm : (1099511627776 : Int) ≤ m := by have := hbig.2; omega
                  clear hbig
                  have r0 := CR8.out.2.1 0 _ rfl
                  have r1 := CR8.out.2.1 1 _ rfl
                  have r2 := CR8.out.2.1 2 _ rfl
                  have r3 := CR8.out.2.1 3 _ rfl
                  have r4 := CR8.out.2.1 4 _ rfl
                  have r5 := CR8.out.2.1 5 _ rfl
                  have r6 := CR8.out.2.1 6 _ rfl
                  have rf := CR8.out.2.2
                  go_wp2_with fail
                  clear r0 r1 r2 r3 r4 r5 r6 rf
                  have CF := hid (Ce.s7 CR8.out (.int .i64 0) (.int .i64 0) (.int .i64 0) (.int .i64 0) (.int .i64 0) (.int .u64 0) (.int .u64 0))
                  have BF := hid (below_s7 HB8.out (Nat.le_refl _) (.int .i64 0) (.int .i64 0) (.int .i64 0) (.int .i64 0) (.int .i64 0) (.int .u64 0) (.int .u64 0))
                  unfold S7 at CF BF
                  try simp only [Exit.jump]
                  refine at_world (fun w' => Ce w' w.heap.size [.int .i64 0, .int .i64 0, .int .i64 0, .int .i64 0, .int .i64 0, .int .u64 0, .int .u64 0] ∧ Below w.heap.size w w') ⟨CF.out, BF.out⟩ (fun wf hwf => ?_)
                  obtain ⟨hc2, hbf⟩ := hwf
                  have x0 := hc2.2.1 0 _ rfl
                  have x1 := hc2.2.1 1 _ rfl
                  have x2 := hc2.2.1 2 _ rfl
                  have x3 := hc2.2.1 3 _ rfl
                  have x4 := hc2.2.1 4 _ rfl
                  have x5 := hc2.2.1 5 _ rfl
                  have x6 := hc2.2.1 6 _ rfl
                  refine bodyPost_ret (v := .tuple #[.agg #[.int .i64 0, .int .i64 0, .int .i64 0, .int .i64 0, .int .i64 0, .int .u64 0, .int .u64 0], .bool false]) (by simp [results, Tryd.results34, go_sem, x0, x1, x2, x3, x4, x5, x6]) rfl ?_
                  exact ⟨by rw [KR.out]; rfl, hbf⟩
                · have xn := NA8.out.2.1 j j4n
                  have xf := NA8.out.2.2 j
                  have xl := NA8.out.1
                  have HNE := hid (HNU.out m HSM.out)
                  have hb6 : (K != 6) = false ∧ (K == 6) = true ∨ (K != 6) = true ∧ (K == 6) = false ∧ ¬ (1099511627776 : Int) ≤ m := by
                    by_cases h6 : K = 6
                    · exact .inl ⟨by rw [h6]; rfl, by rw [h6]; rfl⟩
                    · exact .inr ⟨by simpa using h6, by simpa using h6, fun h => hbig ⟨h6, by omega⟩⟩
                  clear hbig
                  rcases hb6 with ⟨b6, b6'⟩ | ⟨b6, b6', bm⟩
                  all_goals
                    try have bm2 : (m : Int) < 1099511627776 := by omega
                    try have bm3 : decide ((1099511627776 : Int) ≤ m) = false := by simpa using bm2
                    go_wp2_with fail
                    go_roundw
                    case rel => exact ⟨j + 1, q + 1, by go_num, by have := HQJ.out; omega, by have := HJ.out; omega, by rw [HO1.out, HOK.out]; rfl, by have h := NA8.out.put j4n; rw [HNE.out] at h; exact h, CE8.out.other (by omega), CR8.out.other (by omega), SL8.out.setCell (B := E) _ (fun ad e => by injection e with e; subst e; exact hG2) (by show E ≤ B; omega), HB8.out.setCell (p := ⟨B, j, none⟩) (by show w.heap.size ≤ B; omega) _⟩
                    case measure => have := HQJ.out; have := HJ.out; simp [intOf]; omega
            · have hje : j = n := by omega
              subst hje
              have i1 : ¬ (q : Int) < N := by omega
              clear hqj hNn hn4
              have KYY := hid (KY.out hK1 HNM.out HOK.out)
              have y0 := hid (NA8.out.2.1 0 (by decide))
              have y1 := hid (NA8.out.2.1 1 (by decide))
              have y2 := hid (NA8.out.2.1 2 (by decide))
              have y3 := hid (NA8.out.2.1 3 (by decide))
              have HEN := hid (show ∃ es ea eq em ey ez : Int, enO K (nuO WD) = ⟨K, es, ea, eq, em, ⟨ey, ez⟩⟩ ∧ ((K = 6 ∧ es = 0 ∧ ea = 0 ∧ eq = 0 ∧ em = 0 ∧ nuI (nuO WD) j 0 = ey ∧ nuI (nuO WD) j 1 = ez) ∨ (K ≠ 6 ∧ IntKind.i64.wrap (nuI (nuO WD) j 0) = es ∧ IntKind.i64.wrap (nuI (nuO WD) j 1) = ea ∧ IntKind.i64.wrap (nuI (nuO WD) j 2) = eq ∧ IntKind.i64.wrap (nuI (nuO WD) j 3) = em ∧ ey = 0 ∧ ez = 0)) from en_form HNM.out)
              obtain ⟨es, ea, eq, em, ey, ez, hE, hF⟩ := HEN.out
              have HF := hid hF
              rw [hE] at KYY
              clear HEN hE hF hjn HQJ KY KG KB KN K0
              have e0 := CE8.out.2.1 0 _ rfl
              go_upto_if 70 with (fail)
              obtain ⟨b70, hb70⟩ : ∃ b, b = (K == 6) := ⟨_, rfl⟩
              try rw [← hb70]
              have HB70 := hid hb70
              clear hb70
              go_cut [] from 71 to 93 (fun wx => Ce wx E [.int .i64 K, .int .i64 es, .int .i64 ea, .int .i64 eq, .int .i64 em, .int .u64 ey, .int .u64 ez] ∧ Ce wx w.heap.size [.int .i64 0, .int .i64 0, .int .i64 0, .int .i64 0, .int .i64 0, .int .u64 0, .int .u64 0] ∧ Below w.heap.size w wx)
              case first =>
                rcases HF.out with ⟨rfl, rfl, rfl, rfl, rfl, h0, h1⟩ | ⟨h6, h0, h1, h2, h3, rfl, rfl⟩
                · have hb : b70 = true := by rw [HB70.out]; rfl
                  subst hb
                  clear HB70
                  have z0 := y0.out
                  have z1 := y1.out
                  rw [h0] at z0
                  rw [h1] at z1
                  have ST := hid (Ce.storeA2 CE8.out rfl rfl ey ez)
                  clear y0 y1 y2 y3 h0 h1 HF
                  go_wp2_with ((with_reducible refine wl_id ?_); refine wl_store rfl rfl rfl rfl ST.out ?_)
                  go_meet
                  exact ⟨Ce.setA2 CE8.out _ _, (CR8.out.other (c := E) (j := 5) (v := .int .u64 ey) (by omega)).other (c := E) (j := 6) (v := .int .u64 ez) (by omega), (HB8.out.setCell (p := ⟨E, 5, none⟩) (by show w.heap.size ≤ E; omega) (.int .u64 ey)).setCell (p := ⟨E, 6, none⟩) (by show w.heap.size ≤ E; omega) (.int .u64 ez)⟩
                · have hb : b70 = false := by rw [HB70.out]; simpa using h6
                  subst hb
                  clear HB70
                  have HBE := hid (show E ≠ B from by omega)
                  have HRE := hid (show E ≠ w.heap.size from by omega)
                  have HLE := hid (show w.heap.size ≤ E from by omega)
                  clear y0 y1 y2 y3 HF
                  go_upto_region 20 with (fail)
                  refine wp_region_held_drew (S := fun w' => NA w' B (nuO WD) j) (by kernel_rfl) ?_ (fun hHeld => ?_)
                  · exact NA8.out
                  refine tk 0 (v := ?_) rfl (by kernel_rfl) (by kernel_rfl) (by kernel_rfl) (fun _ _ _ h => h) rfl ?_ hHeld ?_; rotate_left; (focus (intro w hSw; (try dsimp only at hSw); have z0 := hSw.2.1 0 (by decide); have z1 := hSw.2.1 1 (by decide); have z2 := hSw.2.1 2 (by decide); have z3 := hSw.2.1 3 (by decide);  go_simp; (try with_reducible rfl))); (try simp only [Act.put, List.setIfInBounds_toArray, List.set_cons_zero, List.set_cons_succ])
                  refine tk 1 (v := ?_) rfl (by kernel_rfl) (by kernel_rfl) (by kernel_rfl) (fun _ _ _ h => h) rfl ?_ hHeld ?_; rotate_left; (focus (intro w hSw; (try dsimp only at hSw); have z0 := hSw.2.1 0 (by decide); have z1 := hSw.2.1 1 (by decide); have z2 := hSw.2.1 2 (by decide); have z3 := hSw.2.1 3 (by decide);  go_simp; (try with_reducible rfl))); (try simp only [Act.put, List.setIfInBounds_toArray, List.set_cons_zero, List.set_cons_succ])
                  refine tk 2 (v := ?_) rfl (by kernel_rfl) (by kernel_rfl) (by kernel_rfl) (fun _ _ _ h => h) rfl ?_ hHeld ?_; rotate_left; (focus (intro w hSw; (try dsimp only at hSw); have z0 := hSw.2.1 0 (by decide); have z1 := hSw.2.1 1 (by decide); have z2 := hSw.2.1 2 (by decide); have z3 := hSw.2.1 3 (by decide);  go_simp; (try with_reducible rfl))); (try simp only [Act.put, List.setIfInBounds_toArray, List.set_cons_zero, List.set_cons_succ])
                  refine tk 3 (v := ?_) rfl (by kernel_rfl) (by kernel_rfl) (by kernel_rfl) (fun _ _ _ h => h) rfl ?_ hHeld ?_; rotate_left; (focus (intro w hSw; (try dsimp only at hSw); have z0 := hSw.2.1 0 (by decide); have z1 := hSw.2.1 1 (by decide); have z2 := hSw.2.1 2 (by decide); have z3 := hSw.2.1 3 (by decide);  go_simp; (try with_reducible rfl))); (try simp only [Act.put, List.setIfInBounds_toArray, List.set_cons_zero, List.set_cons_succ])
                  refine tk 4 (v := ?_) rfl (by kernel_rfl) (by kernel_rfl) (by kernel_rfl) (fun _ _ _ h => h) rfl ?_ hHeld ?_; rotate_left; (focus (intro w hSw; (try dsimp only at hSw); have z0 := hSw.2.1 0 (by decide); have z1 := hSw.2.1 1 (by decide); have z2 := hSw.2.1 2 (by decide); have z3 := hSw.2.1 3 (by decide);  go_simp; (try with_reducible rfl))); (try simp only [Act.put, List.setIfInBounds_toArray, List.set_cons_zero, List.set_cons_succ])
                  refine tk 5 (v := ?_) rfl (by kernel_rfl) (by kernel_rfl) (by kernel_rfl) (fun _ _ _ h => h) rfl ?_ hHeld ?_; rotate_left; (focus (intro w hSw; (try dsimp only at hSw); have z0 := hSw.2.1 0 (by decide); have z1 := hSw.2.1 1 (by decide); have z2 := hSw.2.1 2 (by decide); have z3 := hSw.2.1 3 (by decide);  go_simp; (try with_reducible rfl))); (try simp only [Act.put, List.setIfInBounds_toArray, List.set_cons_zero, List.set_cons_succ])
                  refine tk 6 (v := ?_) rfl (by kernel_rfl) (by kernel_rfl) (by kernel_rfl) (fun _ _ _ h => h) rfl ?_ hHeld ?_; rotate_left; (focus (intro w hSw; (try dsimp only at hSw); have z0 := hSw.2.1 0 (by decide); have z1 := hSw.2.1 1 (by decide); have z2 := hSw.2.1 2 (by decide); have z3 := hSw.2.1 3 (by decide);  go_simp; (try with_reducible rfl))); (try simp only [Act.put, List.setIfInBounds_toArray, List.set_cons_zero, List.set_cons_succ])
                  refine tk 7 (v := ?_) rfl (by kernel_rfl) (by kernel_rfl) (by kernel_rfl) (fun _ _ _ h => h) rfl ?_ hHeld ?_; rotate_left; (focus (intro w hSw; (try dsimp only at hSw); have z0 := hSw.2.1 0 (by decide); have z1 := hSw.2.1 1 (by decide); have z2 := hSw.2.1 2 (by decide); have z3 := hSw.2.1 3 (by decide);  go_simp; (try with_reducible rfl))); (try simp only [Act.put, List.setIfInBounds_toArray, List.set_cons_zero, List.set_cons_succ])
                  refine tk 8 (v := ?_) rfl (by kernel_rfl) (by kernel_rfl) (by kernel_rfl) (fun _ _ _ h => h) rfl ?_ hHeld ?_; rotate_left; (focus (intro w hSw; (try dsimp only at hSw); have z0 := hSw.2.1 0 (by decide); have z1 := hSw.2.1 1 (by decide); have z2 := hSw.2.1 2 (by decide); have z3 := hSw.2.1 3 (by decide);  go_simp; (try with_reducible rfl))); (try simp only [Act.put, List.setIfInBounds_toArray, List.set_cons_zero, List.set_cons_succ])
                  refine tk 9 (v := ?_) rfl (by kernel_rfl) (by kernel_rfl) (by kernel_rfl) (fun _ _ _ h => h) rfl ?_ hHeld ?_; rotate_left; (focus (intro w hSw; (try dsimp only at hSw); have z0 := hSw.2.1 0 (by decide); have z1 := hSw.2.1 1 (by decide); have z2 := hSw.2.1 2 (by decide); have z3 := hSw.2.1 3 (by decide);  go_simp; (try with_reducible rfl))); (try simp only [Act.put, List.setIfInBounds_toArray, List.set_cons_zero, List.set_cons_succ])
                  refine tk 10 (v := ?_) rfl (by kernel_rfl) (by kernel_rfl) (by kernel_rfl) (fun _ _ _ h => h) rfl ?_ hHeld ?_; rotate_left; (focus (intro w hSw; (try dsimp only at hSw); have z0 := hSw.2.1 0 (by decide); have z1 := hSw.2.1 1 (by decide); have z2 := hSw.2.1 2 (by decide); have z3 := hSw.2.1 3 (by decide);  go_simp; (try with_reducible rfl))); (try simp only [Act.put, List.setIfInBounds_toArray, List.set_cons_zero, List.set_cons_succ])
                  refine tk 11 (v := ?_) rfl (by kernel_rfl) (by kernel_rfl) (by kernel_rfl) (fun _ _ _ h => h) rfl ?_ hHeld ?_; rotate_left; (focus (intro w hSw; (try dsimp only at hSw); have z0 := hSw.2.1 0 (by decide); have z1 := hSw.2.1 1 (by decide); have z2 := hSw.2.1 2 (by decide); have z3 := hSw.2.1 3 (by decide);  go_simp; (try with_reducible rfl))); (try simp only [Act.put, List.setIfInBounds_toArray, List.set_cons_zero, List.set_cons_succ])
                  refine tk 12 (v := ?_) rfl (by kernel_rfl) (by kernel_rfl) (by kernel_rfl) (fun _ _ _ h => h) rfl ?_ hHeld ?_; rotate_left; (focus (intro w hSw; (try dsimp only at hSw); have z0 := hSw.2.1 0 (by decide); have z1 := hSw.2.1 1 (by decide); have z2 := hSw.2.1 2 (by decide); have z3 := hSw.2.1 3 (by decide);  go_simp; (try with_reducible rfl))); (try simp only [Act.put, List.setIfInBounds_toArray, List.set_cons_zero, List.set_cons_succ])
                  have CE9 := hid (show Ce wr.drew E [.int .i64 K, .int .i64 0, .int .i64 0, .int .i64 0, .int .i64 0, .int .u64 0, .int .u64 0] from CE8.out)
                  have CR9 := hid (show Ce wr.drew w.heap.size _ from CR8.out)
                  have HB9 := hid (show Below w.heap.size w wr.drew from by have := below_drewN HB8.out 1; exact this)
                  clear CE8 CR8 HB8
                  generalize wr.drew = w10 at *
                  refine only 13 rfl (by kernel_rfl) rfl (fun K2 hK => ?_)
                  refine ov_store rfl rfl rfl (Ce.store1 CE9.out 1 rfl es) ?_
                  refine hK.out _ _ (NA.other hHeld HBE.out) (fun hH0 => ?_)
                  clear hK
                  try simp only [Act.put, List.setIfInBounds_toArray, List.set_cons_zero, List.set_cons_succ]
                  have CE10 := hid (Ce.set CE9.out 1 (.int .i64 es) (by simp))
                  simp only [List.set_cons_succ, List.set_cons_zero] at CE10
                  have CR10 := hid (Ce.other CR9.out (c := E) (j := 1) (v := .int .i64 es) HRE.out)
                  have HB10 := hid (HB9.out.setCell (p := ⟨E, 1, none⟩) HLE.out (.int .i64 es))
                  clear CE9 CR9 HB9
                  refine tk 14 (v := ?_) rfl (by kernel_rfl) (by kernel_rfl) (by kernel_rfl) (fun _ _ _ h => h) rfl ?_ hH0 ?_; rotate_left; (focus (intro w hSw; (try dsimp only at hSw);  go_simp; (try with_reducible rfl))); (try simp only [Act.put, List.setIfInBounds_toArray, List.set_cons_zero, List.set_cons_succ])
                  refine only 15 rfl (by kernel_rfl) rfl (fun K2 hK => ?_)
                  refine ov_store rfl rfl rfl (Ce.store1 CE10.out 2 rfl ea) ?_
                  refine hK.out _ _ (NA.other hH0 HBE.out) (fun hH1 => ?_)
                  clear hK
                  try simp only [Act.put, List.setIfInBounds_toArray, List.set_cons_zero, List.set_cons_succ]
                  have CE11 := hid (Ce.set CE10.out 2 (.int .i64 ea) (by simp))
                  simp only [List.set_cons_succ, List.set_cons_zero] at CE11
                  have CR11 := hid (Ce.other CR10.out (c := E) (j := 2) (v := .int .i64 ea) HRE.out)
                  have HB11 := hid (HB10.out.setCell (p := ⟨E, 2, none⟩) HLE.out (.int .i64 ea))
                  clear CE10 CR10 HB10
                  refine tk 16 (v := ?_) rfl (by kernel_rfl) (by kernel_rfl) (by kernel_rfl) (fun _ _ _ h => h) rfl ?_ hH1 ?_; rotate_left; (focus (intro w hSw; (try dsimp only at hSw);  go_simp; (try with_reducible rfl))); (try simp only [Act.put, List.setIfInBounds_toArray, List.set_cons_zero, List.set_cons_succ])
                  refine only 17 rfl (by kernel_rfl) rfl (fun K2 hK => ?_)
                  refine ov_store rfl rfl rfl (Ce.store1 CE11.out 3 rfl eq) ?_
                  refine hK.out _ _ (NA.other hH1 HBE.out) (fun hH2 => ?_)
                  clear hK
                  try simp only [Act.put, List.setIfInBounds_toArray, List.set_cons_zero, List.set_cons_succ]
                  have CE12 := hid (Ce.set CE11.out 3 (.int .i64 eq) (by simp))
                  simp only [List.set_cons_succ, List.set_cons_zero] at CE12
                  have CR12 := hid (Ce.other CR11.out (c := E) (j := 3) (v := .int .i64 eq) HRE.out)
                  have HB12 := hid (HB11.out.setCell (p := ⟨E, 3, none⟩) HLE.out (.int .i64 eq))
                  clear CE11 CR11 HB11
                  refine tk 18 (v := ?_) rfl (by kernel_rfl) (by kernel_rfl) (by kernel_rfl) (fun _ _ _ h => h) rfl ?_ hH2 ?_; rotate_left; (focus (intro w hSw; (try dsimp only at hSw);  go_simp; (try with_reducible rfl))); (try simp only [Act.put, List.setIfInBounds_toArray, List.set_cons_zero, List.set_cons_succ])
                  refine only 19 rfl (by kernel_rfl) rfl (fun K2 hK => ?_)
                  refine ov_store rfl rfl rfl (Ce.store1 CE12.out 4 rfl em) ?_
                  refine hK.out _ _ (NA.other hH2 HBE.out) (fun hH3 => ?_)
                  clear hK
                  try simp only [Act.put, List.setIfInBounds_toArray, List.set_cons_zero, List.set_cons_succ]
                  have CE13 := hid (Ce.set CE12.out 4 (.int .i64 em) (by simp))
                  simp only [List.set_cons_succ, List.set_cons_zero] at CE13
                  have CR13 := hid (Ce.other CR12.out (c := E) (j := 4) (v := .int .i64 em) HRE.out)
                  have HB13 := hid (HB12.out.setCell (p := ⟨E, 4, none⟩) HLE.out (.int .i64 em))
                  clear CE12 CR12 HB12
                  refine wpAnyH_done (by kernel_rfl) ?_ _
                  go_wp2_with fail
                  go_meet
                  exact ⟨CE13.out, CR13.out, HB13.out⟩
              case rest =>
                obtain ⟨hce, hcr, hb⟩ := hcut
                have CE9 := hid hce
                have CR9 := hid hcr
                have HB9 := hid hb
                clear hce hcr hb CE8 CR8 SL8 HB8 NA8 y0 y1 y2 y3 HF e0
                have CK := hid (fun (w : World) => (show Calls Tryd.prog 30 #[.agg #[.int .i64 K, .int .i64 es, .int .i64 ea, .int .i64 eq, .int .i64 em, .int .u64 ey, .int .u64 ez]] w fun e w' => e = .returned (.int .i64 (chk ⟨K, es, ea, eq, em, ⟨ey, ez⟩⟩)) ∧ Below w.heap.size w w' from rcheck_any ⟨K, es, ea, eq, em, ⟨ey, ez⟩⟩ w))
                obtain ⟨cc, hcc⟩ : ∃ c, c = chk ⟨K, es, ea, eq, em, ⟨ey, ez⟩⟩ := ⟨_, rfl⟩
                rw [← hcc] at CK KYY
                clear hcc
                have e0 := CE9.out.2.1 0 _ rfl
                have e1 := CE9.out.2.1 1 _ rfl
                have e2 := CE9.out.2.1 2 _ rfl
                have e3 := CE9.out.2.1 3 _ rfl
                have e4 := CE9.out.2.1 4 _ rfl
                have e5 := CE9.out.2.1 5 _ rfl
                have e6 := CE9.out.2.1 6 _ rfl
                have ef := CE9.out.2.2
                go_wp2_with fail
                clear e0 e1 e2 e3 e4 e5 e6 ef
                refine (CK.out _).mono ?_
                rintro x w10 ⟨rfl, hb⟩
                have CE10 := hid (CE9.out.below hb)
                have CR10 := hid (CR9.out.below hb)
                have HB10 := hid (HB9.out.trans (hb.mono HB9.out.size))
                clear hb CE9 CR9 HB9 CK
                by_cases hc0 : cc = 0
                · have KR := hid (show R = some ⟨K, es, ea, eq, em, ⟨ey, ez⟩⟩ from by rw [KYY.out, if_pos hc0])
                  subst hc0
                  have e0 := CE10.out.2.1 0 _ rfl
                  have e1 := CE10.out.2.1 1 _ rfl
                  have e2 := CE10.out.2.1 2 _ rfl
                  have e3 := CE10.out.2.1 3 _ rfl
                  have e4 := CE10.out.2.1 4 _ rfl
                  have e5 := CE10.out.2.1 5 _ rfl
                  have e6 := CE10.out.2.1 6 _ rfl
                  have ef := CE10.out.2.2
                  have r0 := CR10.out.2.1 0 _ rfl
                  have r1 := CR10.out.2.1 1 _ rfl
                  have r2 := CR10.out.2.1 2 _ rfl
                  have r3 := CR10.out.2.1 3 _ rfl
                  have r4 := CR10.out.2.1 4 _ rfl
                  have r5 := CR10.out.2.1 5 _ rfl
                  have r6 := CR10.out.2.1 6 _ rfl
                  have rf := CR10.out.2.2
                  go_wp2_with fail
                  clear e0 e1 e2 e3 e4 e5 e6 ef r0 r1 r2 r3 r4 r5 r6 rf
                  have CF := hid (Ce.s7 CR10.out (.int .i64 K) (.int .i64 es) (.int .i64 ea) (.int .i64 eq) (.int .i64 em) (.int .u64 ey) (.int .u64 ez))
                  have BF := hid (below_s7 HB10.out (Nat.le_refl _) (.int .i64 K) (.int .i64 es) (.int .i64 ea) (.int .i64 eq) (.int .i64 em) (.int .u64 ey) (.int .u64 ez))
                  unfold S7 at CF BF
                  try simp only [Exit.jump]
                  refine at_world (fun w' => Ce w' w.heap.size [.int .i64 K, .int .i64 es, .int .i64 ea, .int .i64 eq, .int .i64 em, .int .u64 ey, .int .u64 ez] ∧ Below w.heap.size w w') ⟨CF.out, BF.out⟩ (fun wf hwf => ?_)
                  obtain ⟨hc2, hbf⟩ := hwf
                  have x0 := hc2.2.1 0 _ rfl
                  have x1 := hc2.2.1 1 _ rfl
                  have x2 := hc2.2.1 2 _ rfl
                  have x3 := hc2.2.1 3 _ rfl
                  have x4 := hc2.2.1 4 _ rfl
                  have x5 := hc2.2.1 5 _ rfl
                  have x6 := hc2.2.1 6 _ rfl
                  refine bodyPost_ret (v := .tuple #[.agg #[.int .i64 K, .int .i64 es, .int .i64 ea, .int .i64 eq, .int .i64 em, .int .u64 ey, .int .u64 ez], .bool true]) (by simp [results, Tryd.results34, go_sem, x0, x1, x2, x3, x4, x5, x6]) rfl ?_
                  exact ⟨by rw [KR.out]; rfl, hbf⟩
                · have KR := hid (show R = none from by rw [KYY.out, if_neg hc0])
                  have hcb : (cc == 0) = false := by simpa using hc0
                  have hcn : (cc != 0) = true := by rw [bne, hcb]; rfl
                  clear hc0
                  have r0 := CR10.out.2.1 0 _ rfl
                  have r1 := CR10.out.2.1 1 _ rfl
                  have r2 := CR10.out.2.1 2 _ rfl
                  have r3 := CR10.out.2.1 3 _ rfl
                  have r4 := CR10.out.2.1 4 _ rfl
                  have r5 := CR10.out.2.1 5 _ rfl
                  have r6 := CR10.out.2.1 6 _ rfl
                  have rf := CR10.out.2.2
                  go_wp2_with fail
                  clear r0 r1 r2 r3 r4 r5 r6 rf
                  have CF := hid (Ce.s7 CR10.out (.int .i64 0) (.int .i64 0) (.int .i64 0) (.int .i64 0) (.int .i64 0) (.int .u64 0) (.int .u64 0))
                  have BF := hid (below_s7 HB10.out (Nat.le_refl _) (.int .i64 0) (.int .i64 0) (.int .i64 0) (.int .i64 0) (.int .i64 0) (.int .u64 0) (.int .u64 0))
                  unfold S7 at CF BF
                  try simp only [Exit.jump]
                  refine at_world (fun w' => Ce w' w.heap.size [.int .i64 0, .int .i64 0, .int .i64 0, .int .i64 0, .int .i64 0, .int .u64 0, .int .u64 0] ∧ Below w.heap.size w w') ⟨CF.out, BF.out⟩ (fun wf hwf => ?_)
                  obtain ⟨hc2, hbf⟩ := hwf
                  have x0 := hc2.2.1 0 _ rfl
                  have x1 := hc2.2.1 1 _ rfl
                  have x2 := hc2.2.1 2 _ rfl
                  have x3 := hc2.2.1 3 _ rfl
                  have x4 := hc2.2.1 4 _ rfl
                  have x5 := hc2.2.1 5 _ rfl
                  have x6 := hc2.2.1 6 _ rfl
                  refine bodyPost_ret (v := .tuple #[.agg #[.int .i64 0, .int .i64 0, .int .i64 0, .int .i64 0, .int .i64 0, .int .u64 0, .int .u64 0], .bool false]) (by simp [results, Tryd.results34, go_sem, x0, x1, x2, x3, x4, x5, x6]) rfl ?_
                  exact ⟨by rw [KR.out]; rfl, hbf⟩
        · have bn : ((mK : Int) != (n : Int)) = true := by simp; omega
          have KR := hid (KN.out (fun h => hnm (h.trans hmK.symm)))
          clear K0 KN KB KG KY hnm hmK
          go_wp2_with fail
          refine (NU.out _).mono ?_
          rintro x w6 ⟨b6, rfl, hb⟩
          have CR8 := hid (CR4.out.below hb)
          have HB8 := hid (HB4.out.trans (hb.mono HB4.out.size))
          clear hb CE5 CR4 SL4 HB4 e0 e1 e2 e3 e4 e5 e6 NU
          have r0 := CR8.out.2.1 0 _ rfl
          have r1 := CR8.out.2.1 1 _ rfl
          have r2 := CR8.out.2.1 2 _ rfl
          have r3 := CR8.out.2.1 3 _ rfl
          have r4 := CR8.out.2.1 4 _ rfl
          have r5 := CR8.out.2.1 5 _ rfl
          have r6 := CR8.out.2.1 6 _ rfl
          have rf := CR8.out.2.2
          go_wp2_with fail
          clear r0 r1 r2 r3 r4 r5 r6 rf
          have CF := hid (Ce.s7 CR8.out (.int .i64 0) (.int .i64 0) (.int .i64 0) (.int .i64 0) (.int .i64 0) (.int .u64 0) (.int .u64 0))
          have BF := hid (below_s7 HB8.out (Nat.le_refl _) (.int .i64 0) (.int .i64 0) (.int .i64 0) (.int .i64 0) (.int .i64 0) (.int .u64 0) (.int .u64 0))
          unfold S7 at CF BF
          try simp only [Exit.jump]
          refine at_world (fun w' => Ce w' w.heap.size [.int .i64 0, .int .i64 0, .int .i64 0, .int .i64 0, .int .i64 0, .int .u64 0, .int .u64 0] ∧ Below w.heap.size w w') ⟨CF.out, BF.out⟩ (fun wf hwf => ?_)
          obtain ⟨hc2, hbf⟩ := hwf
          have x0 := hc2.2.1 0 _ rfl
          have x1 := hc2.2.1 1 _ rfl
          have x2 := hc2.2.1 2 _ rfl
          have x3 := hc2.2.1 3 _ rfl
          have x4 := hc2.2.1 4 _ rfl
          have x5 := hc2.2.1 5 _ rfl
          have x6 := hc2.2.1 6 _ rfl
          refine bodyPost_ret (v := .tuple #[.agg #[.int .i64 0, .int .i64 0, .int .i64 0, .int .i64 0, .int .i64 0, .int .u64 0, .int .u64 0], .bool false]) (by simp [results, Tryd.results34, go_sem, x0, x1, x2, x3, x4, x5, x6]) rfl ?_
          exact ⟨by rw [KR.out]; rfl, hbf⟩
end Go.Proofs.YtljgcffpijjliaaDoor

namespace Go.Proofs.YtljgcffpijjliaaDoor.orderReads
set_option linter.unusedVariables false
set_option linter.unusedSimpArgs false
open Go.RowKit Go.ChangeShapes Go.WideShapes Go.ChangeAt

theorem wrap_U (x : Int) : U64 (IntKind.u64.wrap x) := by unfold U64; rw [IntKind.wrap_u64]; omega
theorem key_U (n : Int) : U64 (kyN n).a ∧ U64 (kyN n).b := by
  refine ⟨wrap_U _, ?_⟩
  unfold U64
  show 0 ≤ (_ : Int) % 18446744073709551616 ∧ (_ : Int) % 18446744073709551616 < 18446744073709551616
  omega
theorem en_u64 (n : Int) : U64 (enN n).y.a ∧ U64 (enN n).y.b := by
  have z : U64 zKy.a ∧ U64 zKy.b := ⟨⟨by decide, by decide⟩, ⟨by decide, by decide⟩⟩
  unfold enN enK
  split <;> first | exact z | exact key_U _
theorem nm_u64 {e : En} (h : chk e = 0) (hy : U64 e.y.a ∧ U64 e.y.b) : ∀ x ∈ nmL e, U64 x := by
  obtain ⟨k1, k6, s0, s63, h6⟩ := chk_ok h
  intro x hx
  unfold nmL at hx
  by_cases h1 : e.k = 1
  · rw [if_pos h1] at hx
    obtain ⟨_, hr⟩ := chk_rng h
    obtain ⟨ha, hp, hw⟩ := hr h1
    unfold U64
    simp at hx
    rcases hx with rfl | rfl | rfl | rfl <;> omega
  · rw [if_neg h1] at hx
    by_cases hk : e.k = 6
    · rw [if_pos hk] at hx
      simp at hx
      rcases hx with rfl | rfl
      · exact hy.1
      · exact hy.2
    · rw [if_neg hk] at hx
      simp at hx
      subst hx
      exact ⟨s0, by omega⟩
theorem txt_pos (e : En) : 1 ≤ (txtL e).length := by
  unfold txtL wrds
  rw [Lib.join_cons, List.length_append]
  have : 1 ≤ (wdL e.k).length := by unfold wdL; split; decide; split; decide; split; decide; split; decide; split <;> decide
  omega
/-- A text's bytes, in a row of their own. -/
theorem to_bytes (w : World) (s : ByteArray) : ∃ (c : Nat) (w' : World), (convert 9 63 (.string s)).run Tryd.prog w = .ok (.slice (some ⟨w.heap.size, 0, none⟩) s.size c) w' ∧ Below w.heap.size w w' ∧ w.heap.size < w'.heap.size ∧ (∃ f : Nat → Int, (∀ j, 0 ≤ f j ∧ f j ≤ 255) ∧ ∀ j, j < s.size → w'.cell? ⟨w.heap.size, j, none⟩ = some (.int .u8 (f j))) ∧ (∀ j, j < s.size → w'.frozen? ⟨w.heap.size, j, none⟩ = false) ∧ s.size ≤ c := by
  refine ⟨_, _, run_bytes_of_string w 9 63 5 s Tryd.underlying9 Tryd.underlying63 Tryd.underlying5, ((Below.refl w.heap.size w).drew).alloc (Nat.le_refl _) _, by simp, ⟨fun j => if h : j < s.size then ((s[j]'h).toNat : Int) else 0, fun j => ?_, fun j hj => ?_⟩, fun j hj => ?_, grownCap_ge w s.size 0 _⟩
  · dsimp only
    split
    · rename_i h; have := (s[j]'h).toNat_lt; omega
    · omega
  · have h := heap_alloc_new w.drew (.cells (bytesRow s (grownCap w s.size 0 5)) 5 ((bytesRow s (grownCap w s.size 0 5)).size, (bytesRow s (grownCap w s.size 0 5)).size + 1))
    show World.cell? _ ⟨w.drew.heap.size, j, none⟩ = _
    rw [cell_of_row _ w.drew.heap.size j _ _ _ h, bytesRow_at s _ j hj]
    show _ = some (Value.int .u8 (if h : j < s.size then ((s[j]'h).toNat : Int) else 0))
    rw [dif_pos hj]
    rfl
  · have h := heap_alloc_new w.drew (.cells (bytesRow s (grownCap w s.size 0 5)) 5 ((bytesRow s (grownCap w s.size 0 5)).size, (bytesRow s (grownCap w s.size 0 5)).size + 1))
    show World.frozen? _ ⟨w.drew.heap.size, j, none⟩ = _
    unfold World.frozen?
    rw [h]
    have h2 : s.size ≤ (bytesRow s (grownCap w s.size 0 5)).size := by unfold bytesRow; simp
    simp
    omega
theorem from_bytes (w : World) (g n c : Nat) (f : Nat → Int) (hf : ∀ j, 0 ≤ f j ∧ f j ≤ 255) (hc : ∀ j, j < n → w.cell? ⟨g, j, none⟩ = some (.int .u8 (f j))) : ∃ s : ByteArray, s.size = n ∧ (convert 63 9 (.slice (some ⟨g, 0, none⟩) n c)).run Tryd.prog w = .ok (.string s) w := by
  obtain ⟨l, hl⟩ : ∃ l : List UInt8, l = (List.range n).map (fun j => UInt8.ofNat (f j).toNat) := ⟨_, rfl⟩
  have hn : l.length = n := by rw [hl]; simp
  have h := run_convert_bytes_back (P := Tryd.prog) w 63 9 5 ⟨g, 0, none⟩ c l Tryd.underlying63 Tryd.underlying5 Tryd.underlying9 (fun j hj => by
    have e : (⟨g, 0, none⟩ : Addr).add j = ⟨g, j, none⟩ := by rw [Lib.add_plain, Nat.zero_add]
    rw [e, hc j (by omega)]
    have hb := hf j
    have : l[j] = UInt8.ofNat (f j).toNat := by simp [hl]
    rw [this, UInt8.toNat_ofNat']
    congr 2
    omega)
  rw [hn] at h
  exact ⟨⟨l.toArray⟩, by show l.toArray.size = n; simp [hn], h⟩
def rowR (T1 T2 raw : ByteArray) : List ByteArray := [T1, T2, raw, T1 ++ raw, T1 ++ ⟨#[32, 49]⟩, T1 ++ ⟨#[32]⟩, ⟨#[111, 112, 101, 110]⟩, ⟨#[111, 112, 101, 110, 32]⟩, ⟨#[111, 112, 101, 110, 32, 54, 52]⟩, ⟨#[111, 112, 101, 110, 32, 48, 51]⟩, ⟨#[98, 105, 110, 100, 32, 49, 32, 50, 32, 51]⟩, ⟨#[98, 105, 110, 100, 32, 49, 32, 52, 50, 57, 52, 57, 54, 55, 50, 57, 54, 32, 51, 32, 52]⟩, ⟨#[98, 105, 110, 100, 32, 49, 32, 50, 32, 54, 53, 53, 51, 54, 32, 52]⟩, ⟨#[98, 105, 110, 100, 32, 49, 32, 50, 32, 51, 32, 57]⟩, ⟨#[114, 111, 116, 97, 116, 101, 32, 49, 56, 52, 52, 54, 55, 52, 52, 48, 55, 51, 55, 48, 57, 53, 53, 49, 54, 49, 53, 32, 48]⟩, ⟨#[114, 111, 116, 97, 116, 101, 32, 49, 56, 52, 52, 54, 55, 52, 52, 48, 55, 51, 55, 48, 57, 53, 53, 49, 54, 49, 54, 32, 48]⟩, ⟨#[114, 111, 116, 97, 116, 101, 32, 49]⟩, ⟨#[]⟩, ⟨#[102, 114, 101, 101, 32, 57, 57, 57, 57, 57, 57, 57, 57, 57, 57, 57, 57, 57, 57, 57, 57, 57, 57, 57, 57, 57, 57, 57]⟩, ⟨#[111, 112, 101, 110, 32, 45, 49]⟩]
theorem row_sz {T1 T2 raw : ByteArray} (h1 : T1.size ≤ 1000) (h2 : T2.size ≤ 1000) (h3 : raw.size ≤ 60) (j : Nat) : ((rowR T1 T2 raw).getD j ⟨#[]⟩).size ≤ 100000 := by
  have key : ∀ x ∈ rowR T1 T2 raw, x.size ≤ 100000 := by
    intro x hx
    unfold rowR at hx
    simp only [List.mem_cons, List.not_mem_nil, or_false] at hx
    rcases hx with h | h | h | h | h | h | h | h | h | h | h | h | h | h | h | h | h | h | h | h <;> subst h <;> first | omega | (rw [ByteArray.size_append]; first | omega | (show T1.size + 2 ≤ _; omega) | (show T1.size + 1 ≤ _; omega)) | decide
  rw [List.getD_eq_getElem?_getD]
  cases hj : (rowR T1 T2 raw)[j]? with
  | none => decide
  | some x => exact key x (List.mem_of_getElem? hj)
/-- Both tell the same. -/
theorem reads_same (S : ByteArray) (hS : S.size ≤ 100000) (ml : Int) : ∃ (k s a q m y z : Int) (b : Bool), (∀ w : World, w.cell? ⟨1, 0, none⟩ = some (.int .i64 ml) → Calls Tryd.prog 32 #[.string S] w fun r w' => r = .returned (.tuple #[.agg #[.int .i64 k, .int .i64 s, .int .i64 a, .int .i64 q, .int .i64 m, .int .u64 y, .int .u64 z], .bool b]) ∧ Below w.heap.size w w') ∧
    ∀ w : World, Calls Tryd.prog 34 #[.string S] w fun r w' => r = .returned (.tuple #[.agg #[.int .i64 k, .int .i64 s, .int .i64 a, .int .i64 q, .int .i64 m, .int .u64 y, .int .u64 z], .bool b]) ∧ Below w.heap.size w w' := by
  obtain ⟨e, he⟩ : ∃ e : En, e = (prW (spl S.toList)).getD ⟨0, 0, 0, 0, 0, zKy⟩ := ⟨_, rfl⟩
  have hv : prV (prW (spl S.toList)) = .tuple #[enV e, .bool (prW (spl S.toList)).isSome] := by rw [he]; rfl
  refine ⟨e.k, e.s, e.a, e.p, e.w, e.y.a, e.y.b, (prW (spl S.toList)).isSome, fun w h => ?_, fun w => ?_⟩
  · have := parseO_any S hS ml w h
    rw [prW_spk, hv] at this
    exact this
  · have := rparseO_any S hS w
    rw [hv] at this
    exact this
attribute [local irreducible] PA
set_option maxRecDepth 100000 in
set_option maxHeartbeats 8000000 in
theorem walk (W : World) (hsh : W.ShapedOpen Tryd.prog) (a0 : Int) (r_a0 : -9223372036854775808 ≤ a0 ∧ a0 ≤ 9223372036854775807) (b0 : Int) (r_b0 : 0 ≤ b0 ∧ b0 ≤ 18446744073709551615) (d0 : Int) (r_d0 : -9223372036854775808 ≤ d0 ∧ d0 ≤ 9223372036854775807) (e0 : Int) (r_e0 : 0 ≤ e0 ∧ e0 ≤ 255) (raw : ByteArray) (rraw : raw.size ≤ 140737488351232) :
    Calls Tryd.prog 7 #[.int .i64 a0, .int .u64 b0, .int .i64 d0, .int .u8 e0, .string raw] W fun e w' => e = .returned (.bool true) ∧ Below W.heap.size W w' := by
  have hz : ∀ w : World, (zeroValue 33).run Tryd.prog w = .ok (.agg (PA zPl)) w := fun w => zero_pl w
  have hz1 := pa_size zPl
  have hz2 := pa_ne zPl
  obtain ⟨ml, hml⟩ := Tryd.laysM147.s1_3 W hsh
  have HML := hid hml
  clear hml hsh
  have EN := hid (fun w => entry_any a0 w)
  have U0 := hid (en_u64 a0)
  obtain ⟨E0, hE0⟩ : ∃ E0, E0 = enN a0 := ⟨_, rfl⟩
  rw [← hE0] at EN U0
  clear hE0
  obtain ⟨k0_, s0_, a0_, q0_, m0_, ⟨y0_, z0_⟩⟩ := E0
  unfold enV at EN
  simp only at EN
  have RC := hid (fun w => rcheck_any ⟨k0_, s0_, a0_, q0_, m0_, ⟨y0_, z0_⟩⟩ w)
  unfold enV at RC
  simp only at RC
  have NU := hid (fun h => nm_u64 (e := ⟨k0_, s0_, a0_, q0_, m0_, ⟨y0_, z0_⟩⟩) h U0.out)
  obtain ⟨cc, hcc⟩ : ∃ c, c = chk ⟨k0_, s0_, a0_, q0_, m0_, ⟨y0_, z0_⟩⟩ := ⟨_, rfl⟩
  rw [← hcc] at RC NU
  have HB0 := hid (show U64 b0 from ⟨r_b0.1, Int.lt_of_le_of_lt r_b0.2 (by decide)⟩)
  clear U0 hcc r_a0 r_b0
  by_cases hraw : (60 : Int) < raw.size
  · go_enter Tryd.func7, Tryd.ntmps7
    go_wp2_with fail
    refine (known10_any ml _ HML.out).mono ?_
    rintro x w1 ⟨rfl, hB⟩
    have HB1 := hid hB
    clear hB
    go_wp2_with fail
    go_ret
    exact ⟨rfl, HB1.out⟩
  · have hrw : raw.size ≤ 60 := by omega
    go_enter Tryd.func7, Tryd.ntmps7
    go_wp2_with fail
    refine (known10_any ml _ HML.out).mono ?_
    rintro x w1 ⟨rfl, hB⟩
    have HB1 := hid hB
    clear hB
    go_wp2_with fail
    refine (EN.out _).mono ?_
    rintro x w2 ⟨rfl, hB⟩
    have HB2 := hid (HB1.out.trans (hB.mono HB1.out.size))
    clear hB HB1 EN
    go_upto_region 6 with (fail)
    have CE := hid (Ce.made (w := w2) (l := [.int .i64 k0_, .int .i64 s0_, .int .i64 a0_, .int .i64 q0_, .int .i64 m0_, .int .u64 y0_, .int .u64 z0_]) (T := 56) (g := w2.heap.size) rfl)
    have HB := hid (HB2.out.alloc HB2.out.size (.cells #[.int .i64 k0_, .int .i64 s0_, .int .i64 a0_, .int .i64 q0_, .int .i64 m0_, .int .u64 y0_, .int .u64 z0_] 56))
    have hA := HB2.out.size
    simp only [List.toArray] at CE
    generalize w2.alloc (.cells #[.int .i64 k0_, .int .i64 s0_, .int .i64 a0_, .int .i64 q0_, .int .i64 m0_, .int .u64 y0_, .int .u64 z0_] 56) = w3 at *
    generalize w2.heap.size = A at *
    clear HB2
    have e0 := CE.out.2.1 0 _ rfl
    have e1 := CE.out.2.1 1 _ rfl
    have e2 := CE.out.2.1 2 _ rfl
    have e3 := CE.out.2.1 3 _ rfl
    have e4 := CE.out.2.1 4 _ rfl
    have e5 := CE.out.2.1 5 _ rfl
    have e6 := CE.out.2.1 6 _ rfl
    go_wp2_with fail
    refine (RC.out _).mono ?_
    rintro x w4 ⟨rfl, hb⟩
    have CE4 := hid (CE.out.below hb)
    have HB4 := hid (HB.out.trans (hb.mono HB.out.size))
    clear hb CE HB RC
    clear e0 e1 e2 e3 e4 e5 e6
    go_upto_if 29 with (fail)
    obtain ⟨bb, hbb⟩ : ∃ b, b = (cc != 0) := ⟨_, rfl⟩
    try rw [← hbb]
    have HBB := hid hbb
    clear hbb
    go_cut [] from 30 to 33 (fun wx => ∃ e : En, (∀ x ∈ nmL e, U64 x) ∧ Ce wx A [.int .i64 e.k, .int .i64 e.s, .int .i64 e.a, .int .i64 e.p, .int .i64 e.w, .int .u64 e.y.a, .int .u64 e.y.b] ∧ Below W.heap.size W wx)
    case first =>
      cases bb
      · have hc : cc = 0 := by have := HBB.out; simpa using this.symm
        go_wp2_with fail
        go_meet
        exact ⟨⟨k0_, s0_, a0_, q0_, m0_, ⟨y0_, z0_⟩⟩, NU.out hc, CE4.out, HB4.out⟩
      · have e0 := CE4.out.2.1 0 _ rfl
        have e1 := CE4.out.2.1 1 _ rfl
        have e2 := CE4.out.2.1 2 _ rfl
        have e3 := CE4.out.2.1 3 _ rfl
        have e4 := CE4.out.2.1 4 _ rfl
        have e5 := CE4.out.2.1 5 _ rfl
        have e6 := CE4.out.2.1 6 _ rfl
        have ef := CE4.out.2.2
        go_wp2_with fail
        go_meet
        exact ⟨⟨6, 0, 0, 0, 0, ⟨b0, 0⟩⟩, fun x hx => by (have hx2 : x = b0 ∨ x = 0 := by simpa [nmL] using hx); rcases hx2 with rfl | rfl; exact HB0.out; exact ⟨by decide, by decide⟩, Ce.s7 CE4.out (.int .i64 6) (.int .i64 0) (.int .i64 0) (.int .i64 0) (.int .i64 0) (.int .u64 b0) (.int .u64 0), below_s7 HB4.out hA (.int .i64 6) (.int .i64 0) (.int .i64 0) (.int .i64 0) (.int .i64 0) (.int .u64 b0) (.int .u64 0)⟩
    case rest =>
      obtain ⟨e, hu, hce, hb⟩ := hcut
      have CE5 := hid hce
      have HB5 := hid hb
      have hx1 := txt_pos e
      have hx2 := txt_len hu
      have RT := hid (fun w => rtext_any e hu w)
      obtain ⟨T1, hT1⟩ : ∃ T : ByteArray, T = ⟨(txtL e).toArray⟩ := ⟨_, rfl⟩
      rw [← hT1] at RT
      have ht1 : 1 ≤ T1.size := by rw [hT1]; exact hx1
      have ht2 : T1.size ≤ 1000 := by rw [hT1]; exact hx2
      clear hce hb CE4 HB4 hx1 hx2 hT1 hu NU HBB HB0
      obtain ⟨k, s, a, q, m, ⟨y, z⟩⟩ := e
      unfold enV at RT
      simp only at RT CE5
      have e0 := CE5.out.2.1 0 _ rfl
      have e1 := CE5.out.2.1 1 _ rfl
      have e2 := CE5.out.2.1 2 _ rfl
      have e3 := CE5.out.2.1 3 _ rfl
      have e4 := CE5.out.2.1 4 _ rfl
      have e5 := CE5.out.2.1 5 _ rfl
      have e6 := CE5.out.2.1 6 _ rfl
      go_wp2_with fail
      refine (RT.out _).mono ?_
      rintro x w6 ⟨rfl, hb⟩
      have HB6 := hid (HB5.out.trans (hb.mono HB5.out.size))
      clear hb CE5 HB5 RT
      clear e0 e1 e2 e3 e4 e5 e6
      obtain ⟨c7, w7, hcv, hb7, hl7, ⟨f7, hf7, hc7⟩, hz7, hcc⟩ := to_bytes w6 T1
      have HB7 := hid (HB6.out.trans (hb7.mono HB6.out.size))
      have hG := HB6.out.size
      obtain ⟨n, hn⟩ : ∃ n, n = T1.size := ⟨_, rfl⟩
      rw [← hn] at hcv hc7 hz7 hcc ht1 ht2
      have HNS := hid hn
      clear hb7 hn
      obtain ⟨kk, hkk⟩ : ∃ x, x = wi d0 n := ⟨_, rfl⟩
      have hkb := wi_bd d0 n (by omega)
      rw [← hkk] at hkb
      have WI := hid (fun w => re_i64 (within_any d0 n w (by omega) (by omega)) hkk.symm)
      clear hkk
      obtain ⟨kn, rfl⟩ : ∃ j : Nat, kk = (j : Int) := ⟨kk.toNat, by omega⟩
      have k0 := hkb.1
      have k1 := hkb.2
      have k2 : kn < n := by omega
      clear hkb
      go_upto_region 10 with (fail)
      generalize w6.heap.size = G at *
      clear hcv
      have y0 := hc7 kn k2
      have y1 := hz7 kn k2
      go_wp2_with fail
      refine (WI.out _).mono ?_
      rintro x w' ⟨rfl, rfl⟩
      go_upto_region 11 with (fail)
      clear y0 y1 WI
      have hf8 : ∀ j, 0 ≤ (if j = kn then (f7 kn + e0) % 256 else f7 j) ∧ (if j = kn then (f7 kn + e0) % 256 else f7 j) ≤ 255 := fun j => by split; omega; exact hf7 j
      have hc8 : ∀ j, j < n → (w7.setCell ⟨G, kn, none⟩ (.int .u8 ((f7 kn + e0) % 256))).cell? ⟨G, j, none⟩ = some (.int .u8 (if j = kn then (f7 kn + e0) % 256 else f7 j)) := fun j hj => by
        by_cases h : j = kn
        · subst h; rw [if_pos rfl]; exact World.cell?_setCell_same _ _ _ (hc7 j hj)
        · rw [if_neg h, World.cell?_setCell_other _ _ _ _ (fun x => h (by injection x with _ x; exact x.symm))]; exact hc7 j hj
      have HB8 := hid (HB7.out.setCell (p := ⟨G, kn, none⟩) hG (.int .u8 ((f7 kn + e0) % 256)))
      generalize w7.setCell ⟨G, kn, none⟩ (.int .u8 ((f7 kn + e0) % 256)) = w8 at *
      obtain ⟨T2, hT2, hcv⟩ := from_bytes w8 G n c7 _ hf8 hc8
      have hs1 : T1.size ≤ 1000 := by rw [← HNS.out]; exact ht2
      have hs2 : T2.size ≤ 1000 := by omega
      have HSZ := hid (row_sz (raw := raw) hs1 hs2 hrw)
      have SA1 := run_string_add (P := Tryd.prog) w8 T1 raw (by omega) (by omega)
      have SA2 := run_string_add (P := Tryd.prog) w8 T1 ⟨#[32, 49]⟩ (by omega) (by decide)
      have SA3 := run_string_add (P := Tryd.prog) w8 T1 ⟨#[32]⟩ (by omega) (by decide)
      clear hf8 hc8 hc7 hz7 hf7 hT2 HB7 hl7 hcc
      go_upto_region 12 with (fail)
      clear hcv SA1 SA2 SA3
      have CR := hid (Ce.made (w := w8) (l := [.string T1, .string T2, .string raw, .string (T1 ++ raw), .string (T1 ++ ⟨#[32, 49]⟩), .string (T1 ++ ⟨#[32]⟩), .string ⟨#[111, 112, 101, 110]⟩, .string ⟨#[111, 112, 101, 110, 32]⟩, .string ⟨#[111, 112, 101, 110, 32, 54, 52]⟩, .string ⟨#[111, 112, 101, 110, 32, 48, 51]⟩, .string ⟨#[98, 105, 110, 100, 32, 49, 32, 50, 32, 51]⟩, .string ⟨#[98, 105, 110, 100, 32, 49, 32, 52, 50, 57, 52, 57, 54, 55, 50, 57, 54, 32, 51, 32, 52]⟩, .string ⟨#[98, 105, 110, 100, 32, 49, 32, 50, 32, 54, 53, 53, 51, 54, 32, 52]⟩, .string ⟨#[98, 105, 110, 100, 32, 49, 32, 50, 32, 51, 32, 57]⟩, .string ⟨#[114, 111, 116, 97, 116, 101, 32, 49, 56, 52, 52, 54, 55, 52, 52, 48, 55, 51, 55, 48, 57, 53, 53, 49, 54, 49, 53, 32, 48]⟩, .string ⟨#[114, 111, 116, 97, 116, 101, 32, 49, 56, 52, 52, 54, 55, 52, 52, 48, 55, 51, 55, 48, 57, 53, 53, 49, 54, 49, 54, 32, 48]⟩, .string ⟨#[114, 111, 116, 97, 116, 101, 32, 49]⟩, .string ⟨#[]⟩, .string ⟨#[102, 114, 101, 101, 32, 57, 57, 57, 57, 57, 57, 57, 57, 57, 57, 57, 57, 57, 57, 57, 57, 57, 57, 57, 57, 57, 57, 57]⟩, .string ⟨#[111, 112, 101, 110, 32, 45, 49]⟩]) (T := 9) (g := w8.heap.size) rfl)
      have HB9 := hid (HB8.out.alloc HB8.out.size (.cells #[.string T1, .string T2, .string raw, .string (T1 ++ raw), .string (T1 ++ ⟨#[32, 49]⟩), .string (T1 ++ ⟨#[32]⟩), .string ⟨#[111, 112, 101, 110]⟩, .string ⟨#[111, 112, 101, 110, 32]⟩, .string ⟨#[111, 112, 101, 110, 32, 54, 52]⟩, .string ⟨#[111, 112, 101, 110, 32, 48, 51]⟩, .string ⟨#[98, 105, 110, 100, 32, 49, 32, 50, 32, 51]⟩, .string ⟨#[98, 105, 110, 100, 32, 49, 32, 52, 50, 57, 52, 57, 54, 55, 50, 57, 54, 32, 51, 32, 52]⟩, .string ⟨#[98, 105, 110, 100, 32, 49, 32, 50, 32, 54, 53, 53, 51, 54, 32, 52]⟩, .string ⟨#[98, 105, 110, 100, 32, 49, 32, 50, 32, 51, 32, 57]⟩, .string ⟨#[114, 111, 116, 97, 116, 101, 32, 49, 56, 52, 52, 54, 55, 52, 52, 48, 55, 51, 55, 48, 57, 53, 53, 49, 54, 49, 53, 32, 48]⟩, .string ⟨#[114, 111, 116, 97, 116, 101, 32, 49, 56, 52, 52, 54, 55, 52, 52, 48, 55, 51, 55, 48, 57, 53, 53, 49, 54, 49, 54, 32, 48]⟩, .string ⟨#[114, 111, 116, 97, 116, 101, 32, 49]⟩, .string ⟨#[]⟩, .string ⟨#[102, 114, 101, 101, 32, 57, 57, 57, 57, 57, 57, 57, 57, 57, 57, 57, 57, 57, 57, 57, 57, 57, 57, 57, 57, 57, 57, 57]⟩, .string ⟨#[111, 112, 101, 110, 32, 45, 49]⟩] 9))
      simp only [List.toArray] at CR
      generalize w8.alloc (.cells #[.string T1, .string T2, .string raw, .string (T1 ++ raw), .string (T1 ++ ⟨#[32, 49]⟩), .string (T1 ++ ⟨#[32]⟩), .string ⟨#[111, 112, 101, 110]⟩, .string ⟨#[111, 112, 101, 110, 32]⟩, .string ⟨#[111, 112, 101, 110, 32, 54, 52]⟩, .string ⟨#[111, 112, 101, 110, 32, 48, 51]⟩, .string ⟨#[98, 105, 110, 100, 32, 49, 32, 50, 32, 51]⟩, .string ⟨#[98, 105, 110, 100, 32, 49, 32, 52, 50, 57, 52, 57, 54, 55, 50, 57, 54, 32, 51, 32, 52]⟩, .string ⟨#[98, 105, 110, 100, 32, 49, 32, 50, 32, 54, 53, 53, 51, 54, 32, 52]⟩, .string ⟨#[98, 105, 110, 100, 32, 49, 32, 50, 32, 51, 32, 57]⟩, .string ⟨#[114, 111, 116, 97, 116, 101, 32, 49, 56, 52, 52, 54, 55, 52, 52, 48, 55, 51, 55, 48, 57, 53, 53, 49, 54, 49, 53, 32, 48]⟩, .string ⟨#[114, 111, 116, 97, 116, 101, 32, 49, 56, 52, 52, 54, 55, 52, 52, 48, 55, 51, 55, 48, 57, 53, 53, 49, 54, 49, 54, 32, 48]⟩, .string ⟨#[114, 111, 116, 97, 116, 101, 32, 49]⟩, .string ⟨#[]⟩, .string ⟨#[102, 114, 101, 101, 32, 57, 57, 57, 57, 57, 57, 57, 57, 57, 57, 57, 57, 57, 57, 57, 57, 57, 57, 57, 57, 57, 57, 57]⟩, .string ⟨#[111, 112, 101, 110, 32, 45, 49]⟩] 9) = w9 at *
      generalize w8.heap.size = Rw at *
      clear HB8
      have HCR := hid (show ∀ j, j < 20 → ([.string T1, .string T2, .string raw, .string (T1 ++ raw), .string (T1 ++ ⟨#[32, 49]⟩), .string (T1 ++ ⟨#[32]⟩), .string ⟨#[111, 112, 101, 110]⟩, .string ⟨#[111, 112, 101, 110, 32]⟩, .string ⟨#[111, 112, 101, 110, 32, 54, 52]⟩, .string ⟨#[111, 112, 101, 110, 32, 48, 51]⟩, .string ⟨#[98, 105, 110, 100, 32, 49, 32, 50, 32, 51]⟩, .string ⟨#[98, 105, 110, 100, 32, 49, 32, 52, 50, 57, 52, 57, 54, 55, 50, 57, 54, 32, 51, 32, 52]⟩, .string ⟨#[98, 105, 110, 100, 32, 49, 32, 50, 32, 54, 53, 53, 51, 54, 32, 52]⟩, .string ⟨#[98, 105, 110, 100, 32, 49, 32, 50, 32, 51, 32, 57]⟩, .string ⟨#[114, 111, 116, 97, 116, 101, 32, 49, 56, 52, 52, 54, 55, 52, 52, 48, 55, 51, 55, 48, 57, 53, 53, 49, 54, 49, 53, 32, 48]⟩, .string ⟨#[114, 111, 116, 97, 116, 101, 32, 49, 56, 52, 52, 54, 55, 52, 52, 48, 55, 51, 55, 48, 57, 53, 53, 49, 54, 49, 54, 32, 48]⟩, .string ⟨#[114, 111, 116, 97, 116, 101, 32, 49]⟩, .string ⟨#[]⟩, .string ⟨#[102, 114, 101, 101, 32, 57, 57, 57, 57, 57, 57, 57, 57, 57, 57, 57, 57, 57, 57, 57, 57, 57, 57, 57, 57, 57, 57, 57]⟩, .string ⟨#[111, 112, 101, 110, 32, 45, 49]⟩] : List Value)[j]? = some (.string ((rowR T1 T2 raw).getD j ⟨#[]⟩)) from fun j hj => by match j, hj with | 0, _ => rfl | 1, _ => rfl | 2, _ => rfl | 3, _ => rfl | 4, _ => rfl | 5, _ => rfl | 6, _ => rfl | 7, _ => rfl | 8, _ => rfl | 9, _ => rfl | 10, _ => rfl | 11, _ => rfl | 12, _ => rfl | 13, _ => rfl | 14, _ => rfl | 15, _ => rfl | 16, _ => rfl | 17, _ => rfl | 18, _ => rfl | 19, _ => rfl | j + 20, h => omega)
      obtain ⟨CLs, hCL⟩ : ∃ l, l = ([.string T1, .string T2, .string raw, .string (T1 ++ raw), .string (T1 ++ ⟨#[32, 49]⟩), .string (T1 ++ ⟨#[32]⟩), .string ⟨#[111, 112, 101, 110]⟩, .string ⟨#[111, 112, 101, 110, 32]⟩, .string ⟨#[111, 112, 101, 110, 32, 54, 52]⟩, .string ⟨#[111, 112, 101, 110, 32, 48, 51]⟩, .string ⟨#[98, 105, 110, 100, 32, 49, 32, 50, 32, 51]⟩, .string ⟨#[98, 105, 110, 100, 32, 49, 32, 52, 50, 57, 52, 57, 54, 55, 50, 57, 54, 32, 51, 32, 52]⟩, .string ⟨#[98, 105, 110, 100, 32, 49, 32, 50, 32, 54, 53, 53, 51, 54, 32, 52]⟩, .string ⟨#[98, 105, 110, 100, 32, 49, 32, 50, 32, 51, 32, 57]⟩, .string ⟨#[114, 111, 116, 97, 116, 101, 32, 49, 56, 52, 52, 54, 55, 52, 52, 48, 55, 51, 55, 48, 57, 53, 53, 49, 54, 49, 53, 32, 48]⟩, .string ⟨#[114, 111, 116, 97, 116, 101, 32, 49, 56, 52, 52, 54, 55, 52, 52, 48, 55, 51, 55, 48, 57, 53, 53, 49, 54, 49, 54, 32, 48]⟩, .string ⟨#[114, 111, 116, 97, 116, 101, 32, 49]⟩, .string ⟨#[]⟩, .string ⟨#[102, 114, 101, 101, 32, 57, 57, 57, 57, 57, 57, 57, 57, 57, 57, 57, 57, 57, 57, 57, 57, 57, 57, 57, 57, 57, 57, 57]⟩, .string ⟨#[111, 112, 101, 110, 32, 45, 49]⟩] : List Value) := ⟨_, rfl⟩
      rw [← hCL] at CR
      simp only [← hCL] at HCR
      clear hCL
      obtain ⟨RW, hRW⟩ : ∃ l, l = rowR T1 T2 raw := ⟨_, rfl⟩
      rw [← hRW] at HSZ
      simp only [← hRW] at HCR
      clear hRW
      go_wp2_with fail
      go_loopw [15] (fun i wr => ∃ j : Nat, j ≤ 20 ∧ i = .int .i64 (j : Int) ∧ Ce wr Rw CLs ∧ Below W.heap.size W wr) (fun i _ => 20 - (intOf i).toNat)
      case atStart => exact ⟨0, by omega, rfl, CR.out, HB9.out⟩
      case round =>
        clear CR HB9
        obtain ⟨j, hj, rfl, hce, hb⟩ := hrel
        have CR := hid hce
        have HB := hid hb
        clear hce hb
        by_cases hlt : j < 20
        · have i0 : (0 : Int) ≤ j := by omega
          have i1 : (j : Int) < 20 := by omega
          obtain ⟨S, hS⟩ : ∃ S, S = RW.getD j ⟨#[]⟩ := ⟨_, rfl⟩
          have hsz := HSZ.out j
          have hcj := HCR.out j hlt
          rw [← hS] at hsz hcj
          clear hS
          obtain ⟨k, s, a, q, m, y, z, b, hp, hr⟩ := reads_same S hsz ml
          have PO := hid hp
          have PR := hid hr
          have HCJ := hid hcj
          clear hp hr hsz hcj
          have xc := CR.out.2.1 j _ HCJ.out
          have M1 := hid ((HB.out.cell (p := ⟨1, 0, none⟩) (World.block_lt_of_cell? _ _ HML.out)).trans HML.out)
          go_wp2_with fail
          clear xc
          refine (PO.out _ M1.out).mono ?_
          rintro x w3 ⟨rfl, hb⟩
          have CR3 := hid (CR.out.below hb)
          have HB3 := hid (HB.out.trans (hb.mono HB.out.size))
          clear hb CR HB M1 PO
          go_upto_region 16 with (fail)
          have CX := hid (Ce.made (w := w3) (l := [.int .i64 k, .int .i64 s, .int .i64 a, .int .i64 q, .int .i64 m, .int .u64 y, .int .u64 z]) (T := 56) (g := w3.heap.size) rfl)
          have CR4 := hid (CR3.out.alloc (.cells #[.int .i64 k, .int .i64 s, .int .i64 a, .int .i64 q, .int .i64 m, .int .u64 y, .int .u64 z] 56))
          have HB4 := hid (HB3.out.alloc HB3.out.size (.cells #[.int .i64 k, .int .i64 s, .int .i64 a, .int .i64 q, .int .i64 m, .int .u64 y, .int .u64 z] 56))
          simp only [List.toArray] at CX
          generalize w3.alloc (.cells #[.int .i64 k, .int .i64 s, .int .i64 a, .int .i64 q, .int .i64 m, .int .u64 y, .int .u64 z] 56) = w4 at *
          generalize w3.heap.size = X at *
          clear CR3 HB3
          have xc := CR4.out.2.1 j _ HCJ.out
          go_wp2_with fail
          clear xc
          refine (PR.out _).mono ?_
          rintro x w5 ⟨rfl, hb⟩
          have CR5 := hid (CR4.out.below hb)
          have CX5 := hid (CX.out.below hb)
          have HB5 := hid (HB4.out.trans (hb.mono HB4.out.size))
          clear hb CR4 CX HB4 PR
          go_upto_region 17 with (fail)
          have CY := hid (Ce.made (w := w5) (l := [.int .i64 k, .int .i64 s, .int .i64 a, .int .i64 q, .int .i64 m, .int .u64 y, .int .u64 z]) (T := 56) (g := w5.heap.size) rfl)
          have CX6 := hid (CX5.out.alloc (.cells #[.int .i64 k, .int .i64 s, .int .i64 a, .int .i64 q, .int .i64 m, .int .u64 y, .int .u64 z] 56))
          have CR6 := hid (CR5.out.alloc (.cells #[.int .i64 k, .int .i64 s, .int .i64 a, .int .i64 q, .int .i64 m, .int .u64 y, .int .u64 z] 56))
          have HB6 := hid (HB5.out.alloc HB5.out.size (.cells #[.int .i64 k, .int .i64 s, .int .i64 a, .int .i64 q, .int .i64 m, .int .u64 y, .int .u64 z] 56))
          simp only [List.toArray] at CY
          generalize w5.alloc (.cells #[.int .i64 k, .int .i64 s, .int .i64 a, .int .i64 q, .int .i64 m, .int .u64 y, .int .u64 z] 56) = w6 at *
          generalize w5.heap.size = Y at *
          clear CR5 CX5 HB5
          have e0 := CX6.out.2.1 0 _ rfl
          have e1 := CX6.out.2.1 1 _ rfl
          have e2 := CX6.out.2.1 2 _ rfl
          have e3 := CX6.out.2.1 3 _ rfl
          have e4 := CX6.out.2.1 4 _ rfl
          have e5 := CX6.out.2.1 5 _ rfl
          have e6 := CX6.out.2.1 6 _ rfl
          have x0 := CY.out.2.1 0 _ rfl
          have x1 := CY.out.2.1 1 _ rfl
          have x2 := CY.out.2.1 2 _ rfl
          have x3 := CY.out.2.1 3 _ rfl
          have x4 := CY.out.2.1 4 _ rfl
          have x5 := CY.out.2.1 5 _ rfl
          have x6 := CY.out.2.1 6 _ rfl
          have bb : (b != b) = false := by simp
          go_wp2_with fail
          clear e0 e1 e2 e3 e4 e5 e6 x0 x1 x2 x3 x4 x5 x6
          go_roundw
          case rel => exact ⟨j + 1, by omega, by go_num, CR6.out, HB6.out⟩
          case measure => simp [intOf]; omega
        · have i1 : ¬ (j : Int) < 20 := by omega
          go_wp2_with fail
          go_ret
          exact ⟨rfl, HB.out⟩

set_option maxRecDepth 100000 in
theorem lifted (os : Os) (started : os.Started) (H : Type) (enc : TypeId × Value → H) :
    ReturnsInHanded {} Tryd.checked os 7 .any (fun w args => (Rows.orderReadsSpec.pre enc Tryd.prog Tryd.f7 [] false w args ∧ laidMetH Tryd.prog Rows.orderReadsRow.laid w) ∧ sizedMet enc Tryd.prog Tryd.f7 (OpenSpec.ofChange Rows.orderReadsSpec) false w args) (Rows.orderReadsSpec.post enc Tryd.prog Tryd.f7 false true false false) :=
  law_door (s := Rows.orderReadsSpec) (laid := Rows.orderReadsRow.laid) started (by kernel_rfl) Tryd.func7
    (ChangeSpec.witness_shaped (enc := enc) (C := Tryd.checked) (os := os) (X := fun w _ => laidMetH Tryd.prog Rows.orderReadsRow.laid w) false (World.laidAll Tryd.prog os Rows.orderReadsRow.laid) #[.int .i64 0, .int .u64 0, .int .i64 0, .int .u8 0, .string ⟨#[]⟩] 8 (World.laidAll_os _ _ _)
      (World.shaped_of_ZipB (by kernel_rfl) (by kernel_rfl)) (by kernel_rfl) (by kernel_rfl) (by kernel_rfl)
      (by rw [MakeChecks.laidMetH_plain _ _ _ (by kernel_rfl)]; exact laidMet_laidAll _ (by kernel_rfl) (by kernel_rfl)))
    rfl (by rw [Tryd.params7]; decide +kernel) rfl Tryd.underlying4
    (fun ds h => by
      rw [Tryd.params7] at h
      match ds, h with
      | [_, _, _, _, _], _ => rfl)
    (fun W base args ds ps hsh hval hA hsz => by
      rw [Tryd.params7] at hA hval hsz
      obtain ⟨v0, vs0, d0, ds0, p0, q0, hargs, rfl, rfl, h0, r0⟩ := trodAll_cons hA
      obtain ⟨v1, vs1, d1, ds1, p1, q1, rfl, rfl, rfl, h1, r1⟩ := trodAll_cons r0
      obtain ⟨v2, vs2, d2, ds2, p2, q2, rfl, rfl, rfl, h2, r2⟩ := trodAll_cons r1
      obtain ⟨v3, vs3, d3, ds3, p3, q3, rfl, rfl, rfl, h3, r3⟩ := trodAll_cons r2
      obtain ⟨v4, vs4, d4, ds4, p4, q4, rfl, rfl, rfl, h4, r4⟩ := trodAll_cons r3
      obtain ⟨rfl, rfl, rfl⟩ := trodAll_nil r4
      obtain rfl : args = #[v0, v1, v2, v3, v4] := by cases args; simp_all
      obtain ⟨a0, rfl, rfl, rfl, w0⟩ := open_int Tryd.underlying3 (hval 0 3 v0 rfl rfl) h0
      obtain ⟨a1, rfl, rfl, rfl, w1⟩ := open_int Tryd.underlying27 (hval 1 27 v1 rfl rfl) h1
      obtain ⟨a2, rfl, rfl, rfl, w2⟩ := open_int Tryd.underlying3 (hval 2 3 v2 rfl rfl) h2
      obtain ⟨a3, rfl, rfl, rfl, w3⟩ := open_int Tryd.underlying5 (hval 3 5 v3 rfl rfl) h3
      obtain ⟨a4, rfl, hd4, hp4, w4⟩ := Go.ChangeMaps.open_string Tryd.underlying9 (hval 4 9 v4 rfl rfl) h4
      have re4 : a4.size ≤ 140737488351232 := by have := sized_string hsz (j := 4) (t := 9) rfl (by rw [hd4]; rfl); simpa [reachBytes] using this
      exact walk W hsh a0 (bounds_i64 w0) a1 (bounds_u64 w1) a2 (bounds_i64 w2) a3 (bounds_u8 w3) a4 re4)

theorem holds : Rows.OrderReadsSaid :=
  OpenClaim.holds_of_wide 7 Tryd.f7 rfl rfl rfl rfl rfl rfl rfl ⟨rfl, rfl, rfl, rfl, rfl⟩ rfl rfl rfl rfl rfl (by kernel_rfl) Tryd.func7 (by kernel_rfl)
    (of_decide_eq_true (by kernel_rfl)) (by unfold Func.isWrapper; first | (rw [if_pos (by decide +kernel)]; kernel_rfl) | (rw [if_neg (by decide +kernel)]; exact ⟨rfl, rfl⟩))
    (fun os started H enc _ => lifted os started H enc)
theorem proved : Rows.OrderReadsCardSaid :=
  Claim7.holds_tied_plain_at .later [] Rows.orderReadsCard.laidKinds true Rows.orderReadsCard.stood.harness false holds (fun _ h => by cases h) (by kernel_rfl) (fun _ h => by cases h) orderReads_row_tie rfl ⟨rfl, rfl⟩ (by kernel_rfl) rfl
    (fun f fn hf hfn => by
      obtain rfl : f = 7 := Option.some.inj ((show Tryd.prog.funcNamed Rows.orderReadsRow.func = some 7 by kernel_rfl).symm.trans hf) |>.symm
      obtain rfl : fn = Tryd.f7 := (Option.some.inj (Tryd.func7.symm.trans hfn)).symm
      exact ⟨by kernel_rfl, fun j t ht => by
        rw [Tryd.params7] at ht
        have hm : t ∈ [3, 27, 3, 5, 9] := by simpa using Array.mem_of_getElem? ht
        have hall : ([3, 27, 3, 5, 9].all fun u => !Tryd.prog.wantsStandIn u) = true := by kernel_rfl
        exact (show Tryd.prog.wantsStandIn t = false by simpa using List.all_eq_true.1 hall t hm)⟩)
    (by kernel_rfl)
end Go.Proofs.YtljgcffpijjliaaDoor.orderReads
