/- roundhouselaw10.OrderBack answers true for any number, any two keys' numbers; no condition. -/
import Derived.Test.YtljgcffpijjliaaDoorOrdKn
import Derived.Test.YtljgcffpijjliaaDoorShelf2
import Derived.Lib.AppendIntMem
import Derived.Lib.ItoaMem
import Derived.BigQuiet
import Derived.Deep.RegionHeld3
import Derived.Deep.Cut
import Derived.Lib.OthersKept
import Derived.Laws.RangeAny
import Derived.Laws.RangeString
import Derived.Lib.Split
import Derived.Test.YtljgcffpijjliaaDoorOrdPa
import Derived.Test.YtljgcffpijjliaaDoorDoor
import Derived.Lib.LaidTab
import Derived.LaidSub
import Derived.Laws.Concat
import Derived.Test.YtljgcffpijjliaaDoorPolEnt
import Derived.Test.YtljgcffpijjliaaDoorOrdKnown10
/- A number's numeral. -/
namespace Go.Proofs.YtljgcffpijjliaaDoor
set_option linter.unusedVariables false
set_option linter.unusedSimpArgs false
open Go.RowKit Go.ChangeShapes Go.WideShapes Go.ChangeAt

set_option maxRecDepth 100000 in
set_option maxHeartbeats 6400000 in
theorem fui_any (u : Nat) (hu64 : u < 18446744073709551616) (w : World) (htab : Lib.TabIs Tryd.prog w "internal/strconv.uint64pow10" .u64 Lib.pow10Tab) : Calls Tryd.prog 63 #[.int .u64 u, .int .i64 10] w fun e w' => e = .returned (.string ⟨(Lib.decDigits u).toArray⟩) ∧ Below w.heap.size w w' := by
  by_cases hs : u < 100
  · have i0 : (u : Int) < 100 := by omega
    have w0 : IntKind.i64.wrap (u : Int) = u := IntWalk.i64_in _ (by omega)
    have SM := hid (fun w => Tryd.internal_strconv_small u hs w)
    go_enter Tryd.func63, Tryd.ntmps63
    go_wp2_with fail
    refine (SM.out _).mono ?_
    rintro e w' ⟨rfl, rfl⟩
    go_wp2_with fail
    go_ret
    exact ⟨rfl, Below.refl _ _⟩
  · have i0 : ¬ (u : Int) < 100 := by omega
    have i0n : ¬ u < 100 := by omega
    have hu1 : 1 ≤ u := by omega
    have hnd20 : Lib.nDigits u ≤ 20 := by have := Lib.numDigits_eq u hu1 hu64; split at this <;> omega
    have hal : Tryd.prog.arrayLen 108 = 24 := by kernel_rfl
    have hsl : ∀ W, (Instr.sliceAt 108 (.pointer (some ⟨w.heap.size, 0, none⟩)) none (some (.int .i64 (Lib.nDigits u : Int))) none).run Tryd.prog W = .ok (.slice (some ⟨w.heap.size, 0, none⟩) (Lib.nDigits u) 24) W := fun W => by
      rw [run_sliceAt_array_h W 108 ⟨w.heap.size, 0, none⟩ (by kernel_rfl) .i64 (Lib.nDigits u : Int) (by omega) (by rw [hal]; omega)]
      go_simp
    have hH0 := Lib.holds_zero0 w 108 (Lib.nDigits u) (by omega)
    have hfmt := Tryd.internal_strconv_formatBase10 w.heap.size 0 24 u (Array.replicate (Lib.nDigits u) 0) (w.alloc (.cells Lib.zeros24 108)) hH0 (by rw [Array.size_replicate]; exact Lib.lt_pow_nDigits u) hu64 (by rw [Array.size_replicate]; omega)
    rw [Array.size_replicate] at hfmt
    have HH0 := hid hH0
    have ND := hid (Tryd.internal_strconv_numDigits u hu1 hu64 _ (Lib.tabIs_alloc htab (.cells Lib.zeros24 108)))
    have HF := hid hfmt
    clear hH0 hal htab hfmt
    go_enter Tryd.func63, Tryd.ntmps63
    go_wp2_with fail
    refine ND.out.mono ?_
    rintro e w' ⟨rfl, rfl⟩
    go_wp2_with fail
    refine HF.out.mono ?_
    rintro e w' ⟨rfl, k, v', dk, rfl, hF⟩
    have hcv : (convert 63 9 (.slice (some ⟨w.heap.size, 0, none⟩) (Lib.nDigits u) 24)).run Tryd.prog ((Sort.putRow (fun (b : UInt8) => Value.int .u8 (b.toNat : Int)) (w.alloc (.cells Lib.zeros24 108)) w.heap.size 0 dk).drewN k) = .ok (.string ⟨(Lib.decDigits u).toArray⟩) ((Sort.putRow (fun (b : UInt8) => Value.int .u8 (b.toNat : Int)) (w.alloc (.cells Lib.zeros24 108)) w.heap.size 0 dk).drewN k) := by
      have h := run_convert_bytes_back (P := Tryd.prog) ((Sort.putRow (fun (b : UInt8) => Value.int .u8 (b.toNat : Int)) (w.alloc (.cells Lib.zeros24 108)) w.heap.size 0 dk).drewN k) 63 9 5 ⟨w.heap.size, 0, none⟩ 24 (Lib.decDigits u) Tryd.underlying63 Tryd.underlying5 Tryd.underlying9 (fun j hj => by
        rw [Lib.row_is_numeral hF j hj, Lib.add_plain, World.cell?_drewN]
        exact Sort.cell?_putRow (fun (b : UInt8) => Value.int .u8 (b.toNat : Int)) _ w.heap.size 0 _ dk HH0.out (by rw [hF.size, Array.size_replicate]) j (by rw [hF.size]; rw [Lib.decDigits_length] at hj; exact hj))
      rw [Lib.decDigits_length] at h
      exact h
    go_wp2_with fail
    go_ret
    obtain ⟨os, eo⟩ := Lib.fin_at w (.cells Lib.zeros24 108) dk k 0
    refine ⟨rfl, ?_⟩
    rw [eo]
    exact Lib.below_grow _ _ (Nat.le_refl _) _ _
set_option maxRecDepth 100000 in
set_option maxHeartbeats 6400000 in
theorem fu_any (u : Nat) (hu64 : u < 18446744073709551616) (w : World) (htab : Lib.TabIs Tryd.prog w "internal/strconv.uint64pow10" .u64 Lib.pow10Tab) : Calls Tryd.prog 47 #[.int .u64 u, .int .i64 10] w fun e w' => e = .returned (.string ⟨(Lib.decDigits u).toArray⟩) ∧ Below w.heap.size w w' := by
  have FU := hid (fui_any u hu64 w htab)
  clear htab
  go_enter Tryd.func47, Tryd.ntmps47
  go_wp2_with fail
  refine FU.out.mono ?_
  rintro e w' ⟨rfl, hb⟩
  have HB := hid hb
  clear hb
  go_wp2_with fail
  go_ret
  exact ⟨rfl, HB.out⟩
end Go.Proofs.YtljgcffpijjliaaDoor

/- A kind's word, an entry's numbers. -/
namespace Go.Proofs.YtljgcffpijjliaaDoor
set_option linter.unusedVariables false
set_option linter.unusedSimpArgs false
open Go.RowKit Go.ChangeShapes Go.WideShapes Go.ChangeAt

def wdL (k : Int) : List UInt8 := if k = 1 then [98, 105, 110, 100] else if k = 2 then [111, 112, 101, 110] else if k = 3 then [100, 114, 97, 105, 110] else if k = 4 then [115, 104, 117, 116] else if k = 5 then [102, 114, 101, 101] else [114, 111, 116, 97, 116, 101]
def nmL (e : En) : List Int := if e.k = 1 then [e.s, e.a, e.p, e.w] else if e.k = 6 then [e.y.a, e.y.b] else [e.s]
def U64 (x : Int) : Prop := 0 ≤ x ∧ x < 18446744073709551616
theorem wr_u {x : Int} (h : U64 x) : IntKind.u64.wrap x = x := by unfold U64 at h; rw [IntKind.wrap_u64]; omega
set_option maxRecDepth 100000 in
set_option maxHeartbeats 4000000 in
theorem word_any (k : Int) (w : World) : Calls Tryd.prog 45 #[.int .i64 k] w fun e w' => e = .returned (.string ⟨(wdL k).toArray⟩) ∧ w = w' := by
  by_cases h1 : k = 1
  · subst h1
    go_enter Tryd.func45, Tryd.ntmps45
    go_wp2
    go_ret
    exact ⟨rfl, rfl⟩
  · have b1 : (k == 1) = false := by simpa using h1
    by_cases h2 : k = 2
    · subst h2
      go_enter Tryd.func45, Tryd.ntmps45
      go_wp2
      go_ret
      exact ⟨rfl, rfl⟩
    · have b2 : (k == 2) = false := by simpa using h2
      by_cases h3 : k = 3
      · subst h3
        go_enter Tryd.func45, Tryd.ntmps45
        go_wp2
        go_ret
        exact ⟨rfl, rfl⟩
      · have b3 : (k == 3) = false := by simpa using h3
        by_cases h4 : k = 4
        · subst h4
          go_enter Tryd.func45, Tryd.ntmps45
          go_wp2
          go_ret
          exact ⟨rfl, rfl⟩
        · have b4 : (k == 4) = false := by simpa using h4
          by_cases h5 : k = 5
          · subst h5
            go_enter Tryd.func45, Tryd.ntmps45
            go_wp2
            go_ret
            exact ⟨rfl, rfl⟩
          · have b5 : (k == 5) = false := by simpa using h5
            have HW := hid (show wdL k = [114, 111, 116, 97, 116, 101] from by unfold wdL; rw [if_neg h1, if_neg h2, if_neg h3, if_neg h4, if_neg h5])
            rw [HW.out]
            clear h1 h2 h3 h4 h5
            go_enter Tryd.func45, Tryd.ntmps45
            go_wp2
            go_ret
            exact ⟨rfl, rfl⟩
set_option maxRecDepth 100000 in
set_option maxHeartbeats 4000000 in
theorem nums_any (e : En) (h : ∀ x ∈ nmL e, U64 x) (w : World) : Calls Tryd.prog 46 #[enV e] w fun r w' => ∃ b : Nat, r = .returned (.slice (some ⟨b, 0, none⟩) (nmL e).length (nmL e).length) ∧ w.heap.size ≤ b ∧ Ce w' b ((nmL e).map fun x => Value.int .u64 x) ∧ Below w.heap.size w w' := by
  obtain ⟨k, s, a, q, m, ya, yb⟩ := e
  unfold enV
  by_cases h1 : k = 1
  · subst h1
    have HN := hid (show nmL ⟨1, s, a, q, m, ⟨ya, yb⟩⟩ = [s, a, q, m] from rfl)
    have w1_ := wr_u (h s (by rw [HN.out]; simp))
    have w2_ := wr_u (h a (by rw [HN.out]; simp))
    have w3_ := wr_u (h q (by rw [HN.out]; simp))
    have w4_ := wr_u (h m (by rw [HN.out]; simp))
    clear h
    rw [show (nmL ⟨1, s, a, q, m, ⟨ya, yb⟩⟩).length = 4 from rfl]
    go_enter Tryd.func46, Tryd.ntmps46
    have HB := hid ((Below.refl w.heap.size w).alloc (Nat.le_refl _) (.cells #[.int .i64 1, .int .i64 s, .int .i64 a, .int .i64 q, .int .i64 m, .int .u64 ya, .int .u64 yb] 56))
    go_wp2_with fail
    go_ret
    refine ⟨_, rfl, ?_, ?_, HB.out.alloc HB.out.size _⟩
    · simp
    · rw [HN.out]; exact Ce.made (l := [.int .u64 s, .int .u64 a, .int .u64 q, .int .u64 m]) (by simp)
  · have b1 : (k == 1) = false := by simpa using h1
    by_cases h6 : k = 6
    · subst h6
      have HN := hid (show nmL ⟨6, s, a, q, m, ⟨ya, yb⟩⟩ = [ya, yb] from rfl)
      clear h
      rw [show (nmL ⟨6, s, a, q, m, ⟨ya, yb⟩⟩).length = 2 from rfl]
      go_enter Tryd.func46, Tryd.ntmps46
      have HB := hid ((Below.refl w.heap.size w).alloc (Nat.le_refl _) (.cells #[.int .i64 6, .int .i64 s, .int .i64 a, .int .i64 q, .int .i64 m, .int .u64 ya, .int .u64 yb] 56))
      go_wp2_with fail
      go_ret
      refine ⟨_, rfl, ?_, ?_, HB.out.alloc HB.out.size _⟩
      · simp
      · rw [HN.out]; exact Ce.made (l := [.int .u64 ya, .int .u64 yb]) (by simp)
    · have b6 : (k == 6) = false := by simpa using h6
      have HN := hid (show nmL ⟨k, s, a, q, m, ⟨ya, yb⟩⟩ = [s] from by unfold nmL; rw [if_neg h1, if_neg h6])
      have w1_ := wr_u (h s (by rw [HN.out]; simp))
      clear h h1 h6
      rw [show (nmL ⟨k, s, a, q, m, ⟨ya, yb⟩⟩).length = 1 from by rw [HN.out]; rfl]
      go_enter Tryd.func46, Tryd.ntmps46
      have HB := hid ((Below.refl w.heap.size w).alloc (Nat.le_refl _) (.cells #[.int .i64 k, .int .i64 s, .int .i64 a, .int .i64 q, .int .i64 m, .int .u64 ya, .int .u64 yb] 56))
      go_wp2_with fail
      go_ret
      refine ⟨_, rfl, ?_, ?_, HB.out.alloc HB.out.size _⟩
      · simp
      · rw [HN.out]; exact Ce.made (l := [.int .u64 s]) (by simp)
end Go.Proofs.YtljgcffpijjliaaDoor

/- An entry's text, written. -/
namespace Go.Proofs.YtljgcffpijjliaaDoor
set_option linter.unusedVariables false
set_option linter.unusedSimpArgs false
open Go.RowKit Go.ChangeShapes Go.WideShapes Go.ChangeAt

def wrds (e : En) : List (List UInt8) := wdL e.k :: (nmL e).map fun x => Lib.decDigits x.toNat
theorem Ce.grown {w w' : World} {b : Nat} {l : List Value} {row : Option Nat} (h : Ce w b l) (hg : w.grownBy w' row) (hne : row ≠ some b) : Ce w' b l :=
  have hb := hg.block b h.1 (fun e => hne e.symm)
  ⟨Nat.lt_of_lt_of_le h.1 hg.size, fun j v hj => (World.cell?_of_block (a := ⟨b, j, none⟩) hb).trans (h.2.1 j v hj), fun j => (World.frozen?_of_block (a := ⟨b, j, none⟩) hb).trans (h.2.2 j)⟩
def txtL (e : En) : List UInt8 := Lib.join (wrds e) [32]
def wrdF (e : En) (j : Nat) : Value := .string ⟨((wrds e).getD j []).toArray⟩
section
variable {w : World} {ops : Array Oper} {rest : List Oper} {o : Oper} {a : Act} {Q : Exit → Act → World → Prop}
theorem wp_app_sl (hgd : o.guard = none) (s x : Operand) (ho : o.op = .call { callee := .builtin .append, args := #[s, x], argTypes := #[64, 64] })
    (base : Nat) (v : Value) (m : Nat) (f : Nat → Value) (hf : (f m).oneCell' = true) (hs : a.eval s = v) (hown : Ow w base 9 1 v m f)
    (g c : Nat) (hx : a.eval x = .slice (some ⟨g, 0, none⟩) 1 c) (hr : Ce w g [f m]) (hsz : m ≤ 1000000) (hbase : base ≤ w.heap.size)
    (h : ∀ A' c' w', Ow w' base 9 1 (.slice A' (m + 1) c') (m + 1) f → Below base w w' → w.grownBy w' v.ownBlock → (∀ b, (Value.slice A' (m + 1) c').ownBlock = some b → v.ownBlock = some b ∨ b = w.heap.size) → wpList Tryd.prog ops Q rest (a.put o.dst (.slice A' (m + 1) c')) w') : wpList Tryd.prog ops Q (o :: rest) a w := by
  obtain ⟨i0, hi, hz0, hz1, hz2⟩ := info_parts info_s
  refine wp_app w hgd s x 64 ho base 9 i0 (.string ⟨#[]⟩) 1 16 Tryd.underlying64 hi hz0 hz1 hz2 rfl (by decide) v m _ hs hown (some ⟨g, 0, none⟩) 1 c (fun _ => f m) hx ?_ (fun _ _ => hf) (by simp only [maxLen]; omega) (by omega) hbase ?_
  · refine Sl.mk hr.1 fun j hj => ?_
    rw [Nat.zero_add]
    obtain rfl : j = 0 := by omega
    exact hr.2.1 0 _ rfl
  · intro A' c' w' h1 h2 h3 h4 h5 h6
    refine h A' c' w' ?_ h4 h5 h6
    refine h1.as_ fun j hj => ?_
    unfold two
    by_cases hjm : j < m * 1
    · rw [if_pos hjm]
    · rw [if_neg hjm, show j = m by omega]
end
theorem Ow.ceF {w : World} {B c n : Nat} {T : TypeId} {A : Option Addr} {f : Nat → Value} (h : Ow w B T 1 (.slice A n c) n f) (h0 : 0 < n) : ∃ g, A = some ⟨g, 0, none⟩ ∧ n ≤ c ∧ g < w.heap.size ∧ ∀ j, j < n → w.cell? ⟨g, j, none⟩ = some (f j) := by
  obtain ⟨A', c', hv, hcc, _⟩ := Ow.form_ h
  injection hv with _ _ h3
  obtain ⟨g, e, _, hg, hc, hf⟩ := Ow.block_ h h0
  exact ⟨g, e, by omega, hg, fun j hj => hc j (by omega)⟩
theorem join_any (e : En) (g d : Nat) (w : World) (hd : (wrds e).length ≤ d) (hg : g < w.heap.size) (h : ∀ j, j < (wrds e).length → w.cell? ⟨g, j, none⟩ = some (wrdF e j)) (hN : (wrds e).length ≤ 1000) (hlen : (txtL e).length ≤ 1000) : Calls Tryd.prog 48 #[.slice (some ⟨g, 0, none⟩) (wrds e).length d, .string ⟨#[32]⟩] w fun r w' => r = .returned (.string ⟨(txtL e).toArray⟩) ∧ Below w.heap.size w w' := by
  have key : ∀ l : List (List UInt8), (l.map fun l => (⟨l.toArray⟩ : ByteArray)).map (fun x => x.data.toList) = l := fun l => by
    induction l with
    | nil => rfl
    | cons x l ih => rw [List.map_cons, List.map_cons, ih]
  have e1 := key (wrds e)
  have e2 : (⟨#[32]⟩ : ByteArray).data.toList = [32] := rfl
  have := Tryd.strings_Join g 0 d ((wrds e).map fun l => (⟨l.toArray⟩ : ByteArray)) ⟨#[32]⟩ w (fun j x hj => by
    rw [Nat.zero_add]
    rw [List.getElem?_map] at hj
    obtain ⟨l, hl, rfl⟩ := Option.map_eq_some_iff.1 hj
    have hj' : j < (wrds e).length := (List.getElem?_eq_some_iff.1 hl).1
    rw [h j hj']
    unfold wrdF
    rw [List.getD_eq_getElem?_getD, hl]
    rfl) hg (by simp; omega) (by simp; omega) (by rw [e1, e2]; exact Nat.le_trans hlen (by decide))
  rw [e1, e2, List.length_map] at this
  exact this
theorem dec_len {u : Nat} (h : u < 18446744073709551616) : (Lib.decDigits u).length ≤ 20 := by
  rw [Lib.decDigits_length]
  by_cases h0 : u = 0
  · subst h0; decide +kernel
  · have := Lib.numDigits_eq u (by omega) h
    split at this <;> omega
theorem nm_len (e : En) : (nmL e).length ≤ 4 := by unfold nmL; split; simp; split <;> simp
theorem wd_len (k : Int) : (wdL k).length ≤ 6 := by unfold wdL; split; simp; split; simp; split; simp; split; simp; split <;> simp
theorem lens_le {f : Int → List UInt8} : ∀ {l : List Int}, (∀ x ∈ l, (f x).length ≤ 20) → Lib.lens (l.map f) ≤ 20 * l.length
  | [], _ => by simp [Lib.lens]
  | x :: l, h => by
    have ih := lens_le (l := l) (fun y hy => h y (List.mem_cons_of_mem _ hy))
    have hx := h x (List.mem_cons_self ..)
    simp only [List.map_cons, List.length_cons, Lib.lens] at ih ⊢
    simp at ih ⊢
    omega
theorem txt_len {e : En} (h : ∀ x ∈ nmL e, U64 x) : (txtL e).length ≤ 1000 := by
  unfold txtL wrds
  rw [Lib.join_length]
  have h1 := lens_le (f := fun x => Lib.decDigits x.toNat) (l := nmL e) (fun x hx => dec_len (by have := h x hx; unfold U64 at this; omega))
  have h2 := nm_len e
  have h3 := wd_len e.k
  simp only [List.length_map, Lib.lens] at h1 ⊢
  simp at h1 ⊢
  omega
theorem nm_at (e : En) (hu : ∀ x ∈ nmL e, U64 x) {k : Nat} (hk : k < (nmL e).length) : ∃ u : Nat, u < 18446744073709551616 ∧ ((nmL e).map fun x => Value.int .u64 x)[k]? = some (.int .u64 (u : Int)) ∧ wrdF e (k + 1) = .string ⟨(Lib.decDigits u).toArray⟩ := by
  obtain ⟨x, hx⟩ : ∃ x, (nmL e)[k]? = some x := ⟨_, List.getElem?_eq_getElem hk⟩
  have hm := hu x (List.mem_of_getElem? hx)
  unfold U64 at hm
  refine ⟨x.toNat, by omega, ?_, ?_⟩
  · rw [List.getElem?_map, hx]
    show some (Value.int .u64 x) = some (.int .u64 (x.toNat : Int))
    rw [Int.toNat_of_nonneg hm.1]
  · unfold wrdF wrds
    rw [List.getD_eq_getElem?_getD, List.getElem?_cons_succ, List.getElem?_map, hx]
    rfl
theorem Ow.one_ {w : World} {B g : Nat} {T : TypeId} {f : Nat → Value} {v : Value} (hv : f 0 = v) (hg : w.heap.size = g) (hB : B ≤ g) : Ow (w.alloc (.cells #[v] T)) B T 1 (.slice (some ⟨g, 0, none⟩) 1 1) 1 f := by
  subst hg; subst hv
  have := World.ownsRow_lit (size := 1) (e := T) (base := B) w #[f 0] 1 hB (by decide) (by simp)
  unfold Ow
  simpa using this
set_option maxRecDepth 100000 in
set_option maxHeartbeats 4000000 in
theorem text_any (e : En) (hc : chk e = 0) (hu : ∀ x ∈ nmL e, U64 x) (w : World) (hT : Lib.TabBelow Tryd.prog w.heap.size w "internal/strconv.uint64pow10" .u64 Lib.pow10Tab) : Calls Tryd.prog 31 #[enV e] w fun r w' => r = .returned (.string ⟨(txtL e).toArray⟩) ∧ Below w.heap.size w w' := by
  obtain ⟨n, hn⟩ : ∃ n, n = (nmL e).length := ⟨_, rfl⟩
  have hWn : (wrds e).length = n + 1 := by unfold wrds; rw [List.length_cons, List.length_map, hn]
  have hn4 : n ≤ 4 := by rw [hn]; exact nm_len e
  have CK := hid (fun w => re_i64 (check_any e w) hc)
  have NU := hid (nums_any e hu)
  have WD := hid (word_any e.k)
  have HL := txt_len hu
  have HF := hid (fun k (hk : k < n) => nm_at e hu (by omega : k < (nmL e).length))
  have HJ := hid (fun g d w h1 h2 h3 => join_any e g d w h1 h2 h3 (by omega) HL)
  have HFO : ∀ j, (wrdF e j).oneCell' = true := fun _ => rfl
  have HF0 := hid (show wrdF e 0 = .string ⟨(wdL e.k).toArray⟩ from rfl)
  rw [hWn] at HJ
  rw [← hn] at NU
  obtain ⟨cs, hcs⟩ : ∃ cs, cs = (nmL e).map fun x => Value.int .u64 x := ⟨_, rfl⟩
  rw [← hcs] at NU HF
  obtain ⟨F, hF⟩ : ∃ F, F = wrdF e := ⟨_, rfl⟩
  rw [← hF] at HF HJ HFO HF0
  obtain ⟨tx, htx⟩ : ∃ l, l = (txtL e).toArray := ⟨_, rfl⟩
  rw [← htx] at HJ ⊢
  obtain ⟨wd, hwd⟩ : ∃ l, l = (wdL e.k).toArray := ⟨_, rfl⟩
  rw [← hwd] at WD HF0
  have HT := hid hT
  have HFI := hid HFO
  clear hc hu hWn HL hcs hF htx hwd hn hT HFO
  obtain ⟨k, s, a, q, m, ya, yb⟩ := e
  unfold enV at CK NU ⊢
  simp only at CK NU WD
  go_enter Tryd.func31, Tryd.ntmps31
  go_upto_region 1 with (fail)
  have CE := hid (Ce.made (w := w) (l := [.int .i64 k, .int .i64 s, .int .i64 a, .int .i64 q, .int .i64 m, .int .u64 ya, .int .u64 yb]) (T := 56) (g := w.heap.size) rfl)
  have HB := hid ((Below.refl w.heap.size w).alloc (Nat.le_refl _) (.cells #[.int .i64 k, .int .i64 s, .int .i64 a, .int .i64 q, .int .i64 m, .int .u64 ya, .int .u64 yb] 56))
  simp only [List.toArray] at CE
  generalize w.alloc (.cells #[.int .i64 k, .int .i64 s, .int .i64 a, .int .i64 q, .int .i64 m, .int .u64 ya, .int .u64 yb] 56) = w1 at *
  have e0 := CE.out.2.1 0 _ rfl
  have e1 := CE.out.2.1 1 _ rfl
  have e2 := CE.out.2.1 2 _ rfl
  have e3 := CE.out.2.1 3 _ rfl
  have e4 := CE.out.2.1 4 _ rfl
  have e5 := CE.out.2.1 5 _ rfl
  have e6 := CE.out.2.1 6 _ rfl
  have ef := CE.out.2.2
  go_wp2_with fail
  clear e0 e1 e2 e3 e4 e5 e6 ef
  refine (CK.out _).mono ?_
  rintro x w2 ⟨rfl, hb⟩
  have CE2 := hid (CE.out.below hb)
  have HB2 := hid (HB.out.trans (hb.mono HB.out.size))
  clear hb CE HB CK
  have e0 := CE2.out.2.1 0 _ rfl
  have e1 := CE2.out.2.1 1 _ rfl
  have e2 := CE2.out.2.1 2 _ rfl
  have e3 := CE2.out.2.1 3 _ rfl
  have e4 := CE2.out.2.1 4 _ rfl
  have e5 := CE2.out.2.1 5 _ rfl
  have e6 := CE2.out.2.1 6 _ rfl
  have ef := CE2.out.2.2
  go_wp2_with fail
  refine (WD.out _).mono ?_
  rintro x w' ⟨rfl, rfl⟩
  go_upto_region 4 with (fail)
  clear e0 e1 e2 e3 e4 e5 e6 ef WD
  have l2 := HB2.out.size
  have O3 := hid (Ow.one_ (w := w2) (B := w.heap.size) (g := w2.heap.size) (T := 9) (f := F) HF0.out rfl l2)
  have CE3 := hid (CE2.out.alloc (.cells #[.string ⟨wd⟩] 9))
  have HB3 := hid (HB2.out.alloc l2 (.cells #[.string ⟨wd⟩] 9))
  clear CE2 HB2
  have lR : w2.heap.size < (w2.alloc (.cells #[.string ⟨wd⟩] 9)).heap.size := by simp
  generalize w2.alloc (.cells #[.string ⟨wd⟩] 9) = w3 at *
  generalize w2.heap.size = R at *
  have e0 := CE3.out.2.1 0 _ rfl
  have e1 := CE3.out.2.1 1 _ rfl
  have e2 := CE3.out.2.1 2 _ rfl
  have e3 := CE3.out.2.1 3 _ rfl
  have e4 := CE3.out.2.1 4 _ rfl
  have e5 := CE3.out.2.1 5 _ rfl
  have e6 := CE3.out.2.1 6 _ rfl
  have ef := CE3.out.2.2
  go_wp2_with fail
  clear e0 e1 e2 e3 e4 e5 e6 ef
  refine (NU.out _).mono ?_
  rintro x w4 ⟨N, rfl, hNl, hn, hb⟩
  have CN4 := hid hn
  have O4 := hid (O3.out.keep hb (Nat.le_refl _))
  have HB4 := hid (HB3.out.trans (hb.mono HB3.out.size))
  have hRN : R ≠ N := by omega
  clear hn hb CE3 O3 HB3 NU
  go_wp2_with fail
  go_loopw [3, 16] (fun l i wr => ∃ (k : Nat) (A : Option Addr) (d : Nat), k ≤ n ∧ l = .slice A (k + 1) d ∧ i = .int .i64 (k : Int) ∧ Ow wr w.heap.size 9 1 (.slice A (k + 1) d) (k + 1) F ∧ (Value.slice A (k + 1) d).ownBlock ≠ some N ∧ Ce wr N cs ∧ Below w.heap.size w wr) (fun _ i _ => n - (intOf i).toNat)
  case atStart => exact ⟨0, _, _, by omega, rfl, rfl, O4.out, fun e => hRN (by injection e), CN4.out, HB4.out⟩
  case round =>
    clear O4 CN4 HB4
    obtain ⟨j, A, d, hk, rfl, rfl, ho, hne, hn, hbl⟩ := hrel
    have HO := hid ho
    have HN := hid hn
    have HB := hid hbl
    have HNE := hid hne
    clear ho hn hbl hne
    by_cases hlt : j < n
    · have i0 : (0 : Int) ≤ j := by omega
      have i1 : (j : Int) < n := by omega
      obtain ⟨u, hu1, hu2, hu3⟩ := HF.out j hlt
      have n0 := HN.out.2.1 j _ hu2
      have FU := hid (fu_any u hu1 wr (HT.out wr HB.out))
      have HU := hid hu3
      clear hu2 hu3
      go_wp2_with fail
      clear n0
      refine FU.out.mono ?_
      rintro e w5 ⟨rfl, hb⟩
      have HO5 := hid (HO.out.keep hb (Nat.le_refl _))
      have HN5 := hid (HN.out.below hb)
      have HB5 := hid (HB.out.trans (hb.mono HB.out.size))
      have l5 := HB5.out.size
      have lN := HN5.out.1
      clear hb HO HN HB FU
      go_wp2_with (at_builtin; refine wp_app_sl rfl (.tmp 20) (.tmp 23) rfl w.heap.size _ (j + 1) F (HFI.out _) rfl (Ow.alloc HO5.out _) w5.heap.size 1 rfl (by rw [HU.out]; exact Ce.made (l := [_]) rfl) (by omega) (by simp; omega) ?_; intro A' d' w6 hown hbel hgr hloc; have HO6 := hid hown; have HB6 := hid ((HB5.out.alloc l5 (.cells #[.string ⟨(Lib.decDigits u).toArray⟩] 9)).trans hbel); have HN6 := hid ((HN5.out.alloc (.cells #[.string ⟨(Lib.decDigits u).toArray⟩] 9)).grown hgr HNE.out); have HNE6 := hid (show (Value.slice A' (j + 1 + 1) d').ownBlock ≠ some N from fun e => (hloc N e).elim HNE.out (fun h => Nat.ne_of_lt (Nat.lt_succ_of_lt lN) (h.trans (by simp)))); clear hown hbel hgr hloc HO5 HB5 HN5)
      go_roundw
      case rel => exact ⟨j + 1, A', d', by omega, rfl, by go_num, HO6.out, HNE6.out, HN6.out, HB6.out⟩
      case measure => simp [intOf]; omega
    · have e : j = n := by omega
      subst e
      obtain ⟨g, rfl, hd2, hg, hce⟩ := Ow.ceF HO.out (by omega)
      have HCE := hid hce
      have JJ := hid (HJ.out g d wr hd2 hg hce)
      clear hce
      go_wp2_with fail
      refine JJ.out.mono ?_
      rintro x w6 ⟨rfl, hb⟩
      have HB6 := hid (HB.out.trans (hb.mono HB.out.size))
      clear hb
      go_wp2_with fail
      go_ret
      exact ⟨rfl, HB6.out⟩
end Go.Proofs.YtljgcffpijjliaaDoor

/- Digits. -/
namespace Go.Proofs.YtljgcffpijjliaaDoor
set_option linter.unusedVariables false
set_option linter.unusedSimpArgs false
open Go.RowKit Go.ChangeShapes Go.WideShapes Go.ChangeAt

/-- A row of digits as a number. -/
def vd (l : List UInt8) : Nat := l.foldl (fun n c => n * 10 + (c.toNat - 48)) 0
theorem vd_snoc (l : List UInt8) (c : UInt8) : vd (l ++ [c]) = vd l * 10 + (c.toNat - 48) := by unfold vd; rw [List.foldl_append]; rfl
theorem dig_of (d : Nat) (h : d < 10) : (UInt8.ofNat (48 + d)).toNat = 48 + d := by
  rw [UInt8.toNat_ofNat']
  omega
theorem dec_step {u : Nat} (h : ¬ u < 10) : Lib.decDigits u = Lib.decDigits (u / 10) ++ [UInt8.ofNat (48 + u % 10)] := by
  rw [Lib.decDigits]
  rw [dif_neg h]
theorem dec_small {u : Nat} (h : u < 10) : Lib.decDigits u = [UInt8.ofNat (48 + u)] := by
  rw [Lib.decDigits]
  rw [dif_pos h]
theorem vd_dec (u : Nat) : vd (Lib.decDigits u) = u := by
  induction u using Nat.strongRecOn with
  | ind u ih =>
    by_cases h : u < 10
    · rw [dec_small h]
      show 0 * 10 + ((UInt8.ofNat (48 + u)).toNat - 48) = u
      rw [dig_of u h]
      omega
    · rw [dec_step h, vd_snoc, ih (u / 10) (by omega), dig_of _ (by omega)]
      omega
theorem dec_dig (u : Nat) : ∀ c ∈ Lib.decDigits u, 48 ≤ c.toNat ∧ c.toNat ≤ 57 := by
  induction u using Nat.strongRecOn with
  | ind u ih =>
    intro c hc
    by_cases h : u < 10
    · rw [dec_small h] at hc
      obtain rfl := List.mem_singleton.1 hc
      rw [dig_of u h]
      omega
    · rw [dec_step h] at hc
      rcases List.mem_append.1 hc with hc | hc
      · exact ih (u / 10) (by omega) c hc
      · obtain rfl := List.mem_singleton.1 hc
        rw [dig_of _ (by omega)]
        omega
theorem fold_ge : ∀ (t : List UInt8) (n : Nat), n ≤ t.foldl (fun n c => n * 10 + (c.toNat - 48)) n
  | [], n => Nat.le_refl _
  | c :: t, n => by
    have := fold_ge t (n * 10 + (c.toNat - 48))
    rw [List.foldl_cons]
    omega
theorem vd_mono (l : List UInt8) (t : List UInt8) : vd l ≤ vd (l ++ t) := by
  unfold vd
  rw [List.foldl_append]
  exact fold_ge t _
theorem vd_take {l : List UInt8} {k : Nat} (hk : k < l.length) : vd (l.take (k + 1)) = vd (l.take k) * 10 + ((l[k]).toNat - 48) ∧ vd (l.take (k + 1)) ≤ vd l := by
  refine ⟨?_, ?_⟩
  · rw [List.take_succ_eq_append_getElem hk, vd_snoc]
  · have := vd_mono (l.take (k + 1)) (l.drop (k + 1))
    rw [List.take_append_drop] at this
    exact this
theorem dec_ne (u : Nat) : Lib.decDigits u ≠ [] := by
  by_cases h : u < 10
  · rw [dec_small h]; simp
  · rw [dec_step h]; simp
/-- No nought ahead. -/
theorem dec_head (u : Nat) (h : 1 < (Lib.decDigits u).length) : ∃ c t, Lib.decDigits u = c :: t ∧ c.toNat ≠ 48 := by
  induction u using Nat.strongRecOn with
  | ind u ih =>
    by_cases h9 : u < 10
    · rw [dec_small h9] at h; simp at h
    · by_cases h99 : u / 10 < 10
      · refine ⟨UInt8.ofNat (48 + u / 10), [UInt8.ofNat (48 + u % 10)], by rw [dec_step h9, dec_small h99]; rfl, ?_⟩
        rw [dig_of _ h99]
        omega
      · have hl : 1 < (Lib.decDigits (u / 10)).length := by
          rw [dec_step h99, List.length_append]
          have := List.length_pos_iff.2 (dec_ne (u / 10 / 10))
          simp
          omega
        obtain ⟨c, t, e, hc⟩ := ih (u / 10) (by omega) hl
        exact ⟨c, t ++ [UInt8.ofNat (48 + u % 10)], by rw [dec_step h9, e]; rfl, hc⟩
theorem dec_blank (u : Nat) : (32 : UInt8) ∉ Lib.decDigits u := fun h => by
  have := dec_dig u _ h
  exact absurd this.1 (by decide)
set_option maxRecDepth 100000 in
set_option maxHeartbeats 4000000 in
theorem digit_any (d : Nat) (hd : d < 10) (w : World) : Calls Tryd.prog 78 #[.int .i32 (48 + (d : Int))] w fun e w' => e = .returned (.tuple #[.int .u64 (d : Int), .bool true]) ∧ w = w' := by
  have h1 : ¬ (48 + (d : Int)) < 48 := by omega
  have h2 : ¬ (57 : Int) < 48 + (d : Int) := by omega
  have h3 : 48 + (d : Int) - 48 = d := by omega
  have h4 : IntKind.i32.wrap (d : Int) = d := by rw [IntKind.wrap_i32]; omega
  have h5 : IntKind.u64.wrap (d : Int) = d := by rw [IntKind.wrap_u64]; omega
  go_enter Tryd.func78, Tryd.ntmps78
  go_wp2
  go_ret2
  exact ⟨rfl, rfl⟩
end Go.Proofs.YtljgcffpijjliaaDoor

/- A numeral, read. -/
namespace Go.Proofs.YtljgcffpijjliaaDoor
set_option linter.unusedVariables false
set_option linter.unusedSimpArgs false
open Go.RowKit Go.ChangeShapes Go.WideShapes Go.ChangeAt

set_option maxRecDepth 100000 in
set_option maxHeartbeats 4000000 in
theorem pnum_any (u : Nat) (hu64 : u < 18446744073709551616) (w : World) : Calls Tryd.prog 68 #[.string ⟨(Lib.decDigits u).toArray⟩] w fun e w' => e = .returned (.tuple #[.int .u64 (u : Int), .bool true]) ∧ Below w.heap.size w w' := by
  obtain ⟨l, hl⟩ : ∃ l, l = Lib.decDigits u := ⟨_, rfl⟩
  have hvd : vd l = u := by rw [hl]; exact vd_dec u
  have hdg : ∀ c ∈ l, 48 ≤ c.toNat ∧ c.toNat ≤ 57 := by rw [hl]; exact dec_dig u
  have hl0 : 0 < l.length := by rw [hl]; exact List.length_pos_iff.2 (dec_ne u)
  have hhd : 1 < l.length → ∃ c t, l = c :: t ∧ c.toNat ≠ 48 := by rw [hl]; exact dec_head u
  rw [← hl]
  clear hl
  obtain ⟨s, hs⟩ : ∃ s : ByteArray, s = ⟨l.toArray⟩ := ⟨_, rfl⟩
  have hsz : s.size = l.length := by rw [hs]; rfl
  have hat : ∀ i (h : i < s.size) (h2 : i < l.length), s[i] = l[i] := fun i h h2 => by subst hs; rfl
  have hls : s.toList = l := by rw [hs, ByteArray.toList_eq]
  rw [← hs]
  clear hs
  have hem : s.toList.isEmpty = false := by rw [hls]; cases l; simp at hl0; rfl
  have hnl : ¬ s.toList = [] := by rw [hls]; intro e; rw [e] at hl0; simp at hl0
  have h0 : 0 < s.size := by omega
  have hB : ((s[0].toNat : Int) == 48) = false ∨ ¬ (1 : Int) < s.size := by
    by_cases h1 : 1 < l.length
    · obtain ⟨c, t, e, hc⟩ := hhd h1
      refine .inl ?_
      rw [hat 0 h0 hl0]
      have : l[0]'hl0 = c := by simp [e]
      rw [this]
      simp
      omega
    · exact .inr (by omega)
  clear hhd hls
  have HDG := hid hdg
  have HVD := hid hvd
  have HAT := hid hat
  have HSZ := hid hsz
  clear hdg hvd hat hsz
  obtain ⟨L, hL⟩ : ∃ L, L = s.size := ⟨_, rfl⟩
  have HL := hid hL
  have hk0 : (w.iter s 0).heap[w.heap.size]? = some (.stringIter s 0) := World.iter_heap w _ 0
  have hb0 : Below w.heap.size w (w.iter s 0) := (Below.refl _ w).alloc (Nat.le_refl _) _
  have HK0 := hid hk0
  have HB0 := hid hb0
  clear hk0 hb0 hL
  skip
  obtain ⟨b, hb⟩ : ∃ b, b = ((s[0].toNat : Int) == 48) := ⟨_, rfl⟩
  rw [← hb] at hB
  have hb2 := hb.symm
  clear hb
  have h3 : b = false ∨ b = true ∧ ¬ (1 : Int) < s.size := by cases b; exact .inl rfl; rcases hB with h | h; cases h; exact .inr ⟨rfl, h⟩
  clear hB
  rcases h3 with rfl | ⟨rfl, hn1⟩
  · go_enter Tryd.func68, Tryd.ntmps68
    go_wp2_with fail
    go_loopw [4] (fun n wr => ∃ pos : Nat, pos ≤ L ∧ wr.heap[w.heap.size]? = some (.stringIter s pos) ∧ n = .int .u64 ((vd (l.take pos) : Nat) : Int) ∧ Below w.heap.size w wr) (fun _ wr => L - wr.iterPos w.heap.size)
    case atStart => exact ⟨0, by omega, HK0.out, rfl, HB0.out⟩
    case round =>
      clear HK0 HB0 hem hnl hb2
      obtain ⟨pos, hps, hk, rfl, hnx⟩ := hrel
      by_cases hp0 : pos < L
      · have hp : pos < s.size := by rw [← HL.out]; exact hp0
        have hpl : pos < l.length := by rw [← HSZ.out]; exact hp
        obtain ⟨hd1, hd2⟩ := HDG.out _ (List.getElem_mem hpl)
        obtain ⟨d, hd⟩ : ∃ d, d = (l[pos]'hpl).toNat - 48 := ⟨_, rfl⟩
        have hd10 : d < 10 := by omega
        have hv : (((s[pos]'hp).toNat : Nat) : Int) = 48 + (d : Int) := by rw [HAT.out pos hp hpl]; omega
        have h128 : (s[pos]'hp).toNat < 128 := by omega
        have hnext : ∀ ty, (Instr.next (.pointer (some ⟨w.heap.size, 0, none⟩)) true ty).run Tryd.prog wr = _ := fun ty => Lib.run_next_ascii_at wr w.heap.size s pos ty hk hp h128
        obtain ⟨ht1, ht2⟩ := vd_take hpl
        rw [← hd] at ht1
        rw [HVD.out] at ht2
        obtain ⟨n, hn⟩ : ∃ n, n = vd (l.take pos) := ⟨_, rfl⟩
        have HN2 := hid (show vd (l.take (pos + 1)) = n * 10 + d from by rw [hn]; exact ht1)
        have hbd : n * 10 + d < 18446744073709551616 := by rw [hn]; omega
        rw [← hn]
        clear ht1 ht2 hn hd hd1 hd2
        have hk1 := Lib.iterAt_heap wr w.heap.size s pos (pos + 1) hk
        have hnx1 : Below w.heap.size w (wr.iterAt w.heap.size s (pos + 1)) := Lib.below_iterAt hnx (by omega) _ (pos + 1)
        have hmu : wr.iterPos w.heap.size = pos := by simp [World.iterPos, hk]
        have hmu1 : (wr.iterAt w.heap.size s (pos + 1)).iterPos w.heap.size = pos + 1 := by simp [World.iterPos, hk1]
        rw [hv] at hnext
        have HK1 := hid hk1
        have HN1 := hid hnx1
        have HM := hid hmu
        have HM1 := hid hmu1
        have HP0 := hid hp0
        clear hk1 hnx1 hmu hmu1 hk hnx hv h128 hpl hp hp0
        generalize wr.iterAt w.heap.size s (pos + 1) = W1 at *
        have q1 : IntKind.u64.wrap (18446744073709551615 - (d : Int)) = 18446744073709551615 - d := by rw [IntKind.wrap_u64]; omega
        have q2 : ¬ (18446744073709551615 - (d : Int)) / 10 < n := by omega
        have q2t : ¬ (18446744073709551615 - (d : Int)).tdiv 10 < n := by rw [Int.tdiv_eq_ediv_of_nonneg (by omega)]; omega
        have q3 : IntKind.u64.wrap ((n : Int) * 10) = n * 10 := by rw [IntKind.wrap_u64]; omega
        have q4 : IntKind.u64.wrap ((n : Int) * 10 + d) = n * 10 + d := by rw [IntKind.wrap_u64]; omega
        go_wp2_with fail
        refine (digit_any d hd10 _).mono ?_
        rintro e W2 ⟨rfl, rfl⟩
        go_wp2_with fail
        go_roundw
        case rel => exact ⟨pos + 1, by have := HP0.out; omega, HK1.out, by rw [HN2.out]; go_num, HN1.out⟩
        case measure => rw [HM.out, HM1.out]; have := HP0.out; omega
      · have hpe : pos = L := by omega
        have hp : ¬ pos < s.size := by rw [← HL.out]; exact hp0
        have hnext : ∀ ty, (Instr.next (.pointer (some ⟨w.heap.size, 0, none⟩)) true ty).run Tryd.prog wr = _ := fun ty => Lib.run_next_end_at wr w.heap.size s pos ty hk hp
        have HN := hid hnx
        have HE := hid (show vd (l.take pos) = u from by rw [List.take_of_length_le (by rw [← HSZ.out, ← HL.out, hpe]; exact Nat.le_refl _), HVD.out])
        clear hk hnx hp hpe hp0
        rw [HE.out]
        go_wp2_with fail
        go_ret2
        exact ⟨rfl, HN.out⟩
  · have hn2 : ¬ 1 < s.size := by omega
    go_enter Tryd.func68, Tryd.ntmps68
    go_wp2_with fail
    go_loopw [4] (fun n wr => ∃ pos : Nat, pos ≤ L ∧ wr.heap[w.heap.size]? = some (.stringIter s pos) ∧ n = .int .u64 ((vd (l.take pos) : Nat) : Int) ∧ Below w.heap.size w wr) (fun _ wr => L - wr.iterPos w.heap.size)
    case atStart => exact ⟨0, by omega, HK0.out, rfl, HB0.out⟩
    case round =>
      clear HK0 HB0 hem hnl hb2 hn1 hn2
      obtain ⟨pos, hps, hk, rfl, hnx⟩ := hrel
      by_cases hp0 : pos < L
      · have hp : pos < s.size := by rw [← HL.out]; exact hp0
        have hpl : pos < l.length := by rw [← HSZ.out]; exact hp
        obtain ⟨hd1, hd2⟩ := HDG.out _ (List.getElem_mem hpl)
        obtain ⟨d, hd⟩ : ∃ d, d = (l[pos]'hpl).toNat - 48 := ⟨_, rfl⟩
        have hd10 : d < 10 := by omega
        have hv : (((s[pos]'hp).toNat : Nat) : Int) = 48 + (d : Int) := by rw [HAT.out pos hp hpl]; omega
        have h128 : (s[pos]'hp).toNat < 128 := by omega
        have hnext : ∀ ty, (Instr.next (.pointer (some ⟨w.heap.size, 0, none⟩)) true ty).run Tryd.prog wr = _ := fun ty => Lib.run_next_ascii_at wr w.heap.size s pos ty hk hp h128
        obtain ⟨ht1, ht2⟩ := vd_take hpl
        rw [← hd] at ht1
        rw [HVD.out] at ht2
        obtain ⟨n, hn⟩ : ∃ n, n = vd (l.take pos) := ⟨_, rfl⟩
        have HN2 := hid (show vd (l.take (pos + 1)) = n * 10 + d from by rw [hn]; exact ht1)
        have hbd : n * 10 + d < 18446744073709551616 := by rw [hn]; omega
        rw [← hn]
        clear ht1 ht2 hn hd hd1 hd2
        have hk1 := Lib.iterAt_heap wr w.heap.size s pos (pos + 1) hk
        have hnx1 : Below w.heap.size w (wr.iterAt w.heap.size s (pos + 1)) := Lib.below_iterAt hnx (by omega) _ (pos + 1)
        have hmu : wr.iterPos w.heap.size = pos := by simp [World.iterPos, hk]
        have hmu1 : (wr.iterAt w.heap.size s (pos + 1)).iterPos w.heap.size = pos + 1 := by simp [World.iterPos, hk1]
        rw [hv] at hnext
        have HK1 := hid hk1
        have HN1 := hid hnx1
        have HM := hid hmu
        have HM1 := hid hmu1
        have HP0 := hid hp0
        clear hk1 hnx1 hmu hmu1 hk hnx hv h128 hpl hp hp0
        generalize wr.iterAt w.heap.size s (pos + 1) = W1 at *
        have q1 : IntKind.u64.wrap (18446744073709551615 - (d : Int)) = 18446744073709551615 - d := by rw [IntKind.wrap_u64]; omega
        have q2 : ¬ (18446744073709551615 - (d : Int)) / 10 < n := by omega
        have q2t : ¬ (18446744073709551615 - (d : Int)).tdiv 10 < n := by rw [Int.tdiv_eq_ediv_of_nonneg (by omega)]; omega
        have q3 : IntKind.u64.wrap ((n : Int) * 10) = n * 10 := by rw [IntKind.wrap_u64]; omega
        have q4 : IntKind.u64.wrap ((n : Int) * 10 + d) = n * 10 + d := by rw [IntKind.wrap_u64]; omega
        go_wp2_with fail
        refine (digit_any d hd10 _).mono ?_
        rintro e W2 ⟨rfl, rfl⟩
        go_wp2_with fail
        go_roundw
        case rel => exact ⟨pos + 1, by have := HP0.out; omega, HK1.out, by rw [HN2.out]; go_num, HN1.out⟩
        case measure => rw [HM.out, HM1.out]; have := HP0.out; omega
      · have hpe : pos = L := by omega
        have hp : ¬ pos < s.size := by rw [← HL.out]; exact hp0
        have hnext : ∀ ty, (Instr.next (.pointer (some ⟨w.heap.size, 0, none⟩)) true ty).run Tryd.prog wr = _ := fun ty => Lib.run_next_end_at wr w.heap.size s pos ty hk hp
        have HN := hid hnx
        have HE := hid (show vd (l.take pos) = u from by rw [List.take_of_length_le (by rw [← HSZ.out, ← HL.out, hpe]; exact Nat.le_refl _), HVD.out])
        clear hk hnx hp hpe hp0
        rw [HE.out]
        go_wp2_with fail
        go_ret2
        exact ⟨rfl, HN.out⟩
end Go.Proofs.YtljgcffpijjliaaDoor

/- Numerals, read. -/
namespace Go.Proofs.YtljgcffpijjliaaDoor
set_option linter.unusedVariables false
set_option linter.unusedSimpArgs false
open Go.RowKit Go.ChangeShapes Go.WideShapes Go.ChangeAt

theorem Ow.ceG {w : World} {B c n : Nat} {T : TypeId} {A : Option Addr} {f : Nat → Value} (h : Ow w B T 1 (.slice A n c) n f) (h0 : 0 < n) : ∃ g, A = some ⟨g, 0, none⟩ ∧ n ≤ c ∧ g < w.heap.size ∧ (∀ j, j < n → w.cell? ⟨g, j, none⟩ = some (f j)) ∧ ∀ j, w.frozen? ⟨g, j, none⟩ = false := by
  obtain ⟨A', c', hv, hcc, _⟩ := Ow.form_ h
  injection hv with _ _ h3
  obtain ⟨g, e, _, hg, hc, hf⟩ := Ow.block_ h h0
  exact ⟨g, e, by omega, hg, fun j hj => hc j (by omega), hf⟩
set_option maxRecDepth 100000 in
set_option maxHeartbeats 4000000 in
theorem pall_any (num : Nat → Nat) (n b off c : Nat) (h0 : 0 < n) (hn5 : n ≤ 1000) (h1 : n ≤ c) (hn : ∀ j, j < n → num j < 18446744073709551616) (w : World) (hb : b < w.heap.size) (hc : ∀ j, j < n → w.cell? ⟨b, off + j, none⟩ = some (.string ⟨(Lib.decDigits (num j)).toArray⟩)) : Calls Tryd.prog 50 #[.slice (some ⟨b, off, none⟩) n c] w fun e w' => ∃ B d, n ≤ d ∧ e = .returned (.tuple #[.slice (some ⟨B, 0, none⟩) n d, .bool true]) ∧ B < w'.heap.size ∧ (∀ j, j < n → w'.cell? ⟨B, j, none⟩ = some (.int .u64 ((num j : Nat) : Int))) ∧ (∀ j, w'.frozen? ⟨B, j, none⟩ = false) ∧ Below w.heap.size w w' := by
  obtain ⟨G, hG⟩ : ∃ G : Nat → Value, G = fun j => .int .u64 ((num j : Nat) : Int) := ⟨_, rfl⟩
  have HG := hid (fun j => (show G j = .int .u64 ((num j : Nat) : Int) from by rw [hG]))
  have HG1 := hid (fun j => (show (G j).oneCell' = true from by rw [hG]; rfl))
  clear hG
  have HC := hid hc
  have HN := hid hn
  clear hc hn
  go_enter Tryd.func50, Tryd.ntmps50
  go_wp2_with fail
  go_loopw [4, 11] (fun l i wr => ∃ (k : Nat) (A : Option Addr) (d : Nat), k ≤ n ∧ l = .slice A k d ∧ i = .int .i64 (k : Int) ∧ Ow wr w.heap.size 27 1 (.slice A k d) k G ∧ Below w.heap.size w wr) (fun _ i _ => n - (intOf i).toNat)
  case atStart => exact ⟨0, none, 0, by omega, rfl, rfl, Ow.none_, Below.refl _ _⟩
  case round =>
    obtain ⟨k, A, d, hk, rfl, rfl, ho, hbl⟩ := hrel
    have HO := hid ho
    have HB := hid hbl
    clear ho hbl
    by_cases hlt : k < n
    · have i0 : (0 : Int) ≤ k := by omega
      have i1 : (k : Int) < n := by omega
      have xc : wr.cell? ⟨b, off + k, none⟩ = some (.string ⟨(Lib.decDigits (num k)).toArray⟩) := (World.cell?_of_block (a := ⟨b, off + k, none⟩) (HB.out.block b hb)).trans (HC.out k hlt)
      have PN := hid (fun w => pnum_any (num k) (HN.out k hlt) w)
      have HU := hid (HG.out k)
      obtain ⟨u, hu⟩ : ∃ u, u = num k := ⟨_, rfl⟩
      rw [← hu] at xc PN HU
      clear hu
      obtain ⟨x, hx⟩ : ∃ x, x = (Lib.decDigits u).toArray := ⟨_, rfl⟩
      rw [← hx] at xc PN
      clear hx
      go_wp2_with fail
      refine (PN.out _).mono ?_
      rintro e w2 ⟨rfl, hb2⟩
      have HO2 := hid (HO.out.keep hb2 (Nat.le_refl _))
      have HB2 := hid (HB.out.trans (hb2.mono HB.out.size))
      have l2 := HB2.out.size
      clear hb2 HO HB xc PN
      go_wp2_with (at_builtin; refine wp_app_u rfl (.tmp 22) (.tmp 24) rfl w.heap.size _ k G (HG1.out _) rfl (Ow.alloc HO2.out _) w2.heap.size 1 rfl (by rw [HU.out]; exact Ce.made (l := [.int .u64 (u : Int)]) rfl) (by omega) (by simp; omega) ?_; intro A' d' w3 hown hbel hgr; have HO3 := hid hown; have HB3 := hid ((HB2.out.alloc l2 (.cells #[.int .u64 (u : Int)] 27)).trans hbel); clear hown hbel hgr HO2 HB2)
      go_roundw
      case rel => exact ⟨k + 1, A', d', by omega, rfl, by go_num, HO3.out, HB3.out⟩
      case measure => simp [intOf]; omega
    · have e : k = n := by omega
      subst e
      obtain ⟨g, rfl, hd1, hg, hce, hfr⟩ := Ow.ceG HO.out (by omega)
      have HFR := hid hfr
      clear hfr
      have HCE := hid (fun j hj => (hce j hj).trans (congrArg some (HG.out j)))
      clear hce
      go_wp2_with fail
      go_ret2
      exact ⟨g, d, hd1, rfl, hg, HCE.out, HFR.out, HB.out⟩
end Go.Proofs.YtljgcffpijjliaaDoor

/- A text, split. -/
namespace Go.Proofs.YtljgcffpijjliaaDoor
set_option linter.unusedVariables false
set_option linter.unusedSimpArgs false
open Go.RowKit Go.ChangeShapes Go.WideShapes Go.ChangeAt

theorem pre32 (b : UInt8) (l : List UInt8) : ([32] : List UInt8).isPrefixOf (b :: l) = (32 == b) := by
  simp [List.isPrefixOf]
theorem idx_no : ∀ {l : List UInt8}, 32 ∉ l → Lib.index l [32] = -1
  | [], _ => rfl
  | b :: l, h => by
    have hb : (32 == b) = false := by
      rw [beq_eq_false_iff_ne]; intro e; exact h (by rw [e]; exact List.mem_cons_self ..)
    have ih := idx_no (l := l) (fun hm => h (List.mem_cons_of_mem _ hm))
    unfold Lib.index
    rw [pre32, hb, ih]
    rfl
theorem idx_at : ∀ {x : List UInt8} (r : List UInt8), 32 ∉ x → Lib.index (x ++ 32 :: r) [32] = (x.length : Int)
  | [], r, _ => by
    show Lib.index (32 :: r) [32] = 0
    unfold Lib.index
    rw [pre32]; rfl
  | b :: l, r, h => by
    have hb : (32 == b) = false := by
      rw [beq_eq_false_iff_ne]; intro e; exact h (by rw [e]; exact List.mem_cons_self ..)
    have ih := idx_at (x := l) r (fun hm => h (List.mem_cons_of_mem _ hm))
    show Lib.index (b :: (l ++ 32 :: r)) [32] = _
    unfold Lib.index
    rw [pre32, hb, ih, if_neg (by decide), if_neg (by rw [beq_iff_eq]; omega)]
    simp
theorem join_more (x y : List UInt8) (r : List (List UInt8)) : Lib.join (x :: y :: r) [32] = x ++ 32 :: Lib.join (y :: r) [32] := by
  rw [Lib.join_cons, Lib.join_cons]
  simp [Lib.joinTail]
theorem split_join : ∀ {ws : List (List UInt8)} {k : Nat}, ws ≠ [] → (∀ x ∈ ws, (32 : UInt8) ∉ x) → ws.length ≤ k + 1 → Lib.splitK [32] 0 k (Lib.join ws [32]) = ws
  | [], _, h, _, _ => absurd rfl h
  | [x], k, _, h, _ => by
    rw [Lib.join_one]
    cases k with
    | zero => rfl
    | succ k => unfold Lib.splitK; rw [idx_no (h x (List.mem_cons_self ..))]; rfl
  | x :: y :: r, k, _, h, hl => by
    cases k with
    | zero => simp at hl
    | succ k =>
      have hx := h x (List.mem_cons_self ..)
      have ih := split_join (ws := y :: r) (k := k) (by simp) (fun z hz => h z (List.mem_cons_of_mem _ hz)) (by simp at hl ⊢; omega)
      rw [join_more]
      unfold Lib.splitK
      rw [idx_at _ hx, if_neg (by rw [beq_iff_eq]; omega)]
      have e1 : ((x.length : Int).toNat + 0) = x.length := by omega
      have e2 : ((x.length : Int).toNat + ([32] : List UInt8).length) = x.length + 1 := by simp
      rw [e1, e2, List.take_left, show (x ++ 32 :: Lib.join (y :: r) [32]).drop (x.length + 1) = Lib.join (y :: r) [32] from by rw [List.drop_append]; simp, ih]
theorem bytes_inj : ∀ {l : List ByteArray} {ws : List (List UInt8)}, l.map (·.data.toList) = ws → l = ws.map fun x => (⟨x.toArray⟩ : ByteArray)
  | [], [], _ => rfl
  | [], _ :: _, h => by cases h
  | _ :: _, [], h => by cases h
  | x :: l, y :: ws, h => by
    injection h with h1 h2
    rw [List.map_cons, bytes_inj h2, ← h1]
theorem dec_no32 (u : Nat) : (32 : UInt8) ∉ Lib.decDigits u := fun h => by have := (dec_dig u _ h).1; exact absurd this (by decide)
theorem wd_no32 (k : Int) : (32 : UInt8) ∉ wdL k := by
  unfold wdL
  split; decide
  split; decide
  split; decide
  split; decide
  split <;> decide
theorem wrds_no32 (e : En) : ∀ x ∈ wrds e, (32 : UInt8) ∉ x := by
  intro x hx
  unfold wrds at hx
  rcases List.mem_cons.1 hx with rfl | hx
  · exact wd_no32 _
  · obtain ⟨y, _, rfl⟩ := List.mem_map.1 hx
    exact dec_no32 _
theorem wrds_len (e : En) : (wrds e).length = (nmL e).length + 1 := by unfold wrds; rw [List.length_cons, List.length_map]
theorem sp_txt (e : En) (k : Nat) (hk : (wrds e).length ≤ k + 1) : Lib.splitB ⟨#[32]⟩ 0 k ⟨(txtL e).toArray⟩ = (wrds e).map fun x => (⟨x.toArray⟩ : ByteArray) := by
  refine bytes_inj ?_
  rw [Lib.splitB_data]
  exact split_join (by unfold wrds; simp) (wrds_no32 e) hk
theorem txt_long (e : En) : (wrds e).length ≤ (txtL e).length + 1 := by
  have key : ∀ ws : List (List UInt8), ws.length ≤ (Lib.join ws [32]).length + 1 := fun ws => by
    induction ws with
    | nil => simp
    | cons x r ih =>
      cases r with
      | nil => simp
      | cons y r => rw [join_more, List.length_append, List.length_cons]; simp only [List.length_cons] at ih ⊢; omega
  exact key _
end Go.Proofs.YtljgcffpijjliaaDoor

/- An entry of numbers. -/
namespace Go.Proofs.YtljgcffpijjliaaDoor
set_option linter.unusedVariables false
set_option linter.unusedSimpArgs false
open Go.RowKit Go.ChangeShapes Go.WideShapes Go.ChangeAt

theorem Ce.storeA2 {w : World} {b : Nat} {x0 x1 x2 x3 x4 x5 x6 : Value} (h : Ce w b [x0, x1, x2, x3, x4, x5, x6]) (x5i : x5 = .int .u64 0) (x6i : x6 = .int .u64 0) (u v : Int) : (Instr.storeAt 29 (.pointer (some ⟨b, 5, none⟩)) (.agg #[.int .u64 u, .int .u64 v])).run Tryd.prog w = .ok () (w.setCells b 5 [.int .u64 u, .int .u64 v]) := by
  subst x5i x6i
  refine run_storeAt_mid w b 5 29 #[.int .u64 u, .int .u64 v] (fun j hj => ?_) (by kernel_rfl) (all_oneCell_toArray (cs := [.int .u64 u, .int .u64 v]) (fun v hv => by simp at hv; rcases hv with rfl | rfl <;> rfl))
  have hl : j < 2 := hj
  rcases j with _ | _ | j
  · rw [h.2.1 5 _ rfl]; exact ⟨rfl, h.2.2 _⟩
  · rw [h.2.1 6 _ rfl]; exact ⟨rfl, h.2.2 _⟩
  · omega
theorem Ce.store1 {w : World} {b : Nat} {l : List Value} (h : Ce w b l) (j : Nat) {x : Int} (hx : l[j]? = some (.int .i64 x)) (v : Int) : (Instr.storeAt 3 (.pointer (some ⟨b, j, none⟩)) (.int .i64 v)).run Tryd.prog w = .ok () (w.setCell ⟨b, j, none⟩ (.int .i64 v)) := by
  have e := h.2.1 j _ hx
  have f := h.2.2 j
  simp [go_sem, e, f]
theorem Ce.setA2 {w : World} {b : Nat} {x0 x1 x2 x3 x4 x5 x6 : Value} (h : Ce w b [x0, x1, x2, x3, x4, x5, x6]) (u v : Value) : Ce (w.setCells b 5 [u, v]) b [x0, x1, x2, x3, x4, u, v] :=
  (h.set 5 u (by simp)).set 6 v (by simp)
set_option maxRecDepth 100000 in
set_option maxHeartbeats 4000000 in
theorem entry_slot (k s : Int) (h1 : ¬ k = 1) (h6 : ¬ k = 6) (hs : 0 ≤ s ∧ s ≤ 63) (b d : Nat) (hd : 1 ≤ d) (w : World) (hc : Ce w b [.int .u64 s]) : Calls Tryd.prog 51 #[.int .i64 k, .slice (some ⟨b, 0, none⟩) 1 d] w fun e w' => e = .returned (.tuple #[.agg #[.int .i64 k, .int .i64 s, .int .i64 0, .int .i64 0, .int .i64 0, .int .u64 0, .int .u64 0], .bool true]) ∧ Below w.heap.size w w' := by
  have HC := hid hc
  clear hc
  have b1 : (k == 1) = false := by simpa using h1
  have b6 : (k == 6) = false := by simpa using h6
  have ws_ : IntKind.i64.wrap s = s := IntWalk.i64_in _ (by omega)
  have NU := hid (fun (w : World) => (show Calls Tryd.prog 46 #[.agg #[.int .i64 k, .int .i64 0, .int .i64 0, .int .i64 0, .int .i64 0, .int .u64 0, .int .u64 0]] w fun r w' => ∃ b : Nat, r = .returned (.slice (some ⟨b, 0, none⟩) 1 1) ∧ Below w.heap.size w w' from (nums_any ⟨k, 0, 0, 0, 0, zKy⟩ (fun x hx => by simp [nmL, zKy, h1, h6] at hx; subst hx; unfold U64; omega) w).mono (fun r w' h => by obtain ⟨b, e, _, _, hb⟩ := h; exact ⟨b, by rw [e]; simp [nmL, h1, h6], hb⟩)))
  clear h1 h6
  go_enter Tryd.func51, Tryd.ntmps51
  go_upto_region 2 with (fail)
  have CR := hid ((Ce.made (w := w) (l := [.int .i64 0, .int .i64 0, .int .i64 0, .int .i64 0, .int .i64 0, .int .u64 0, .int .u64 0]) (T := 56) (g := w.heap.size) rfl).alloc (.cells #[.int .i64 k, .int .i64 0, .int .i64 0, .int .i64 0, .int .i64 0, .int .u64 0, .int .u64 0] 56))
  have CE := hid (Ce.made (w := w.alloc (.cells #[.int .i64 0, .int .i64 0, .int .i64 0, .int .i64 0, .int .i64 0, .int .u64 0, .int .u64 0] 56)) (l := [.int .i64 k, .int .i64 0, .int .i64 0, .int .i64 0, .int .i64 0, .int .u64 0, .int .u64 0]) (T := 56) (g := w.heap.size + 1) (by simp))
  have CB := hid ((HC.out.alloc (.cells #[.int .i64 0, .int .i64 0, .int .i64 0, .int .i64 0, .int .i64 0, .int .u64 0, .int .u64 0] 56)).alloc (.cells #[.int .i64 k, .int .i64 0, .int .i64 0, .int .i64 0, .int .i64 0, .int .u64 0, .int .u64 0] 56))
  have HB := hid (((Below.refl w.heap.size w).alloc (Nat.le_refl _) (.cells #[.int .i64 0, .int .i64 0, .int .i64 0, .int .i64 0, .int .i64 0, .int .u64 0, .int .u64 0] 56)).alloc (by simp) (.cells #[.int .i64 k, .int .i64 0, .int .i64 0, .int .i64 0, .int .i64 0, .int .u64 0, .int .u64 0] 56))
  simp only [List.toArray] at CR CE
  generalize (w.alloc (.cells #[.int .i64 0, .int .i64 0, .int .i64 0, .int .i64 0, .int .i64 0, .int .u64 0, .int .u64 0] 56)).alloc (.cells #[.int .i64 k, .int .i64 0, .int .i64 0, .int .i64 0, .int .i64 0, .int .u64 0, .int .u64 0] 56) = w1 at *
  have lb := HC.out.1
  have e0 := CE.out.2.1 0 _ rfl
  have e1 := CE.out.2.1 1 _ rfl
  have e2 := CE.out.2.1 2 _ rfl
  have e3 := CE.out.2.1 3 _ rfl
  have e4 := CE.out.2.1 4 _ rfl
  have e5 := CE.out.2.1 5 _ rfl
  have e6 := CE.out.2.1 6 _ rfl
  have ef := CE.out.2.2
  go_wp2_with fail
  clear e0 e1 e2 e3 e4 e5 e6 ef
  refine (NU.out _).mono ?_
  rintro x w2 ⟨bb, rfl, hb⟩
  have CR2 := hid (CR.out.below hb)
  have CE2 := hid (CE.out.below hb)
  have CB2 := hid (CB.out.below hb)
  have HB2 := hid (HB.out.trans (hb.mono HB.out.size))
  clear hb CR CE CB HB NU
  have e0 := CE2.out.2.1 0 _ rfl
  have e1 := CE2.out.2.1 1 _ rfl
  have e2 := CE2.out.2.1 2 _ rfl
  have e3 := CE2.out.2.1 3 _ rfl
  have e4 := CE2.out.2.1 4 _ rfl
  have e5 := CE2.out.2.1 5 _ rfl
  have e6 := CE2.out.2.1 6 _ rfl
  have ef := CE2.out.2.2
  have c0 := CB2.out.2.1 0 _ rfl
  go_upto_region 10 with (fail)
  clear e0 e1 e2 e3 e4 e5 e6 ef c0
  have CE3 := hid (CE2.out.set 1 (.int .i64 s) (by simp))
  simp only [List.set_cons_succ, List.set_cons_zero] at CE3
  have CR3 := hid (CR2.out.other (c := w.heap.size + 1) (j := 1) (v := .int .i64 s) (by omega))
  have HB3 := hid (HB2.out.setCell (p := ⟨w.heap.size + 1, 1, none⟩) (Nat.le_succ _) (.int .i64 s))
  clear CE2 CR2 CB2 HB2
  generalize w2.setCell ⟨w.heap.size + 1, 1, none⟩ (.int .i64 s) = w3 at *
  have e0 := CE3.out.2.1 0 _ rfl
  have e1 := CE3.out.2.1 1 _ rfl
  have e2 := CE3.out.2.1 2 _ rfl
  have e3 := CE3.out.2.1 3 _ rfl
  have e4 := CE3.out.2.1 4 _ rfl
  have e5 := CE3.out.2.1 5 _ rfl
  have e6 := CE3.out.2.1 6 _ rfl
  have ef := CE3.out.2.2
  have r0 := CR3.out.2.1 0 _ rfl
  have r1 := CR3.out.2.1 1 _ rfl
  have r2 := CR3.out.2.1 2 _ rfl
  have r3 := CR3.out.2.1 3 _ rfl
  have r4 := CR3.out.2.1 4 _ rfl
  have r5 := CR3.out.2.1 5 _ rfl
  have r6 := CR3.out.2.1 6 _ rfl
  have rf := CR3.out.2.2
  go_wp2_with fail
  clear e0 e1 e2 e3 e4 e5 e6 ef r0 r1 r2 r3 r4 r5 r6 rf
  have CF := hid (Ce.s7 CR3.out (.int .i64 k) (.int .i64 s) (.int .i64 0) (.int .i64 0) (.int .i64 0) (.int .u64 0) (.int .u64 0))
  have BF := hid (below_s7 HB3.out (Nat.le_refl _) (.int .i64 k) (.int .i64 s) (.int .i64 0) (.int .i64 0) (.int .i64 0) (.int .u64 0) (.int .u64 0))
  unfold S7 at CF BF
  refine at_world (fun w' => Ce w' w.heap.size [.int .i64 k, .int .i64 s, .int .i64 0, .int .i64 0, .int .i64 0, .int .u64 0, .int .u64 0] ∧ Below w.heap.size w w') ⟨CF.out, BF.out⟩ (fun wf hwf => ?_)
  obtain ⟨hc2, hbf⟩ := hwf
  have x0 := hc2.2.1 0 _ rfl
  have x1 := hc2.2.1 1 _ rfl
  have x2 := hc2.2.1 2 _ rfl
  have x3 := hc2.2.1 3 _ rfl
  have x4 := hc2.2.1 4 _ rfl
  have x5 := hc2.2.1 5 _ rfl
  have x6 := hc2.2.1 6 _ rfl
  refine bodyPost_ret (v := .tuple #[.agg #[.int .i64 k, .int .i64 s, .int .i64 0, .int .i64 0, .int .i64 0, .int .u64 0, .int .u64 0], .bool true]) (by simp [results, Tryd.results51, go_sem, x0, x1, x2, x3, x4, x5, x6]) rfl ?_
  exact ⟨rfl, hbf⟩
set_option maxRecDepth 100000 in
set_option maxHeartbeats 4000000 in
theorem entry_bind (s a q m : Int) (hs : 0 ≤ s ∧ s ≤ 63) (ha : 0 ≤ a ∧ a ≤ 4294967295) (hq : 0 ≤ q ∧ q ≤ 65535) (hm : 0 ≤ m ∧ m ≤ 8) (b d : Nat) (hd : 4 ≤ d) (w : World) (hc : Ce w b [.int .u64 s, .int .u64 a, .int .u64 q, .int .u64 m]) : Calls Tryd.prog 51 #[.int .i64 1, .slice (some ⟨b, 0, none⟩) 4 d] w fun e w' => e = .returned (.tuple #[.agg #[.int .i64 1, .int .i64 s, .int .i64 a, .int .i64 q, .int .i64 m, .int .u64 0, .int .u64 0], .bool true]) ∧ Below w.heap.size w w' := by
  have HC := hid hc
  clear hc
  have ws_ : IntKind.i64.wrap s = s := IntWalk.i64_in _ (by omega)
  have wa_ : IntKind.i64.wrap a = a := IntWalk.i64_in _ (by omega)
  have wq_ : IntKind.i64.wrap q = q := IntWalk.i64_in _ (by omega)
  have wm_ : IntKind.i64.wrap m = m := IntWalk.i64_in _ (by omega)
  have NU := hid (fun (w : World) => (show Calls Tryd.prog 46 #[.agg #[.int .i64 1, .int .i64 0, .int .i64 0, .int .i64 0, .int .i64 0, .int .u64 0, .int .u64 0]] w fun r w' => ∃ b : Nat, r = .returned (.slice (some ⟨b, 0, none⟩) 4 4) ∧ Below w.heap.size w w' from (nums_any ⟨1, 0, 0, 0, 0, zKy⟩ (fun x hx => by simp [nmL, zKy] at hx; subst hx; unfold U64; omega) w).mono (fun r w' h => by obtain ⟨b, e, _, _, hb⟩ := h; exact ⟨b, e, hb⟩)))
  go_enter Tryd.func51, Tryd.ntmps51
  go_upto_region 2 with (fail)
  have CR := hid ((Ce.made (w := w) (l := [.int .i64 0, .int .i64 0, .int .i64 0, .int .i64 0, .int .i64 0, .int .u64 0, .int .u64 0]) (T := 56) (g := w.heap.size) rfl).alloc (.cells #[.int .i64 1, .int .i64 0, .int .i64 0, .int .i64 0, .int .i64 0, .int .u64 0, .int .u64 0] 56))
  have CE := hid (Ce.made (w := w.alloc (.cells #[.int .i64 0, .int .i64 0, .int .i64 0, .int .i64 0, .int .i64 0, .int .u64 0, .int .u64 0] 56)) (l := [.int .i64 1, .int .i64 0, .int .i64 0, .int .i64 0, .int .i64 0, .int .u64 0, .int .u64 0]) (T := 56) (g := w.heap.size + 1) (by simp))
  have CB := hid ((HC.out.alloc (.cells #[.int .i64 0, .int .i64 0, .int .i64 0, .int .i64 0, .int .i64 0, .int .u64 0, .int .u64 0] 56)).alloc (.cells #[.int .i64 1, .int .i64 0, .int .i64 0, .int .i64 0, .int .i64 0, .int .u64 0, .int .u64 0] 56))
  have HB := hid (((Below.refl w.heap.size w).alloc (Nat.le_refl _) (.cells #[.int .i64 0, .int .i64 0, .int .i64 0, .int .i64 0, .int .i64 0, .int .u64 0, .int .u64 0] 56)).alloc (by simp) (.cells #[.int .i64 1, .int .i64 0, .int .i64 0, .int .i64 0, .int .i64 0, .int .u64 0, .int .u64 0] 56))
  simp only [List.toArray] at CR CE
  generalize (w.alloc (.cells #[.int .i64 0, .int .i64 0, .int .i64 0, .int .i64 0, .int .i64 0, .int .u64 0, .int .u64 0] 56)).alloc (.cells #[.int .i64 1, .int .i64 0, .int .i64 0, .int .i64 0, .int .i64 0, .int .u64 0, .int .u64 0] 56) = w1 at *
  have lb := HC.out.1
  have e0 := CE.out.2.1 0 _ rfl
  have e1 := CE.out.2.1 1 _ rfl
  have e2 := CE.out.2.1 2 _ rfl
  have e3 := CE.out.2.1 3 _ rfl
  have e4 := CE.out.2.1 4 _ rfl
  have e5 := CE.out.2.1 5 _ rfl
  have e6 := CE.out.2.1 6 _ rfl
  have ef := CE.out.2.2
  go_wp2_with fail
  clear e0 e1 e2 e3 e4 e5 e6 ef
  refine (NU.out _).mono ?_
  rintro x w2 ⟨bb, rfl, hb⟩
  have CR2 := hid (CR.out.below hb)
  have CE2 := hid (CE.out.below hb)
  have CB2 := hid (CB.out.below hb)
  have HB2 := hid (HB.out.trans (hb.mono HB.out.size))
  clear hb CR CE CB HB NU
  have e0 := CE2.out.2.1 0 _ rfl
  have e1 := CE2.out.2.1 1 _ rfl
  have e2 := CE2.out.2.1 2 _ rfl
  have e3 := CE2.out.2.1 3 _ rfl
  have e4 := CE2.out.2.1 4 _ rfl
  have e5 := CE2.out.2.1 5 _ rfl
  have e6 := CE2.out.2.1 6 _ rfl
  have ef := CE2.out.2.2
  have c0 := CB2.out.2.1 0 _ rfl
  have c1 := CB2.out.2.1 1 _ rfl
  have c2 := CB2.out.2.1 2 _ rfl
  have c3 := CB2.out.2.1 3 _ rfl
  go_upto_region 9 with (fail)
  clear e0 e1 e2 e3 e4 e5 e6 ef c0 c1 c2 c3
  have CB3 := hid (CB2.out.other (c := w.heap.size + 1) (j := 1) (v := .int .i64 s) (by omega))
  have CE3 := hid (CE2.out.set 1 (.int .i64 s) (by simp))
  simp only [List.set_cons_succ, List.set_cons_zero] at CE3
  have CR3 := hid (CR2.out.other (c := w.heap.size + 1) (j := 1) (v := .int .i64 s) (by omega))
  have HB3 := hid (HB2.out.setCell (p := ⟨w.heap.size + 1, 1, none⟩) (Nat.le_succ _) (.int .i64 s))
  clear CE2 CR2 CB2 HB2
  generalize w2.setCell ⟨w.heap.size + 1, 1, none⟩ (.int .i64 s) = w3 at *
  have hbE : w.heap.size + 1 ≠ b := by omega
  refine wp_region_held_drew (S := fun w' => Ce w' b [.int .u64 s, .int .u64 a, .int .u64 q, .int .u64 m]) (by kernel_rfl) ?_ (fun hHeld => ?_)
  · exact CB3.out
  refine tk 0 (v := ?_) rfl (by kernel_rfl) (by kernel_rfl) (by kernel_rfl) (fun _ _ _ h => h) rfl ?_ hHeld ?_; rotate_left; (focus (intro w hSw; (try dsimp only at hSw); have c1 := hSw.2.1 1 _ rfl; have c2 := hSw.2.1 2 _ rfl; have c3 := hSw.2.1 3 _ rfl;  go_simp; (try with_reducible rfl))); (try simp only [Act.put, List.setIfInBounds_toArray, List.set_cons_zero, List.set_cons_succ])
  refine tk 1 (v := ?_) rfl (by kernel_rfl) (by kernel_rfl) (by kernel_rfl) (fun _ _ _ h => h) rfl ?_ hHeld ?_; rotate_left; (focus (intro w hSw; (try dsimp only at hSw); have c1 := hSw.2.1 1 _ rfl; have c2 := hSw.2.1 2 _ rfl; have c3 := hSw.2.1 3 _ rfl;  go_simp; (try with_reducible rfl))); (try simp only [Act.put, List.setIfInBounds_toArray, List.set_cons_zero, List.set_cons_succ])
  refine tk 2 (v := ?_) rfl (by kernel_rfl) (by kernel_rfl) (by kernel_rfl) (fun _ _ _ h => h) rfl ?_ hHeld ?_; rotate_left; (focus (intro w hSw; (try dsimp only at hSw); have c1 := hSw.2.1 1 _ rfl; have c2 := hSw.2.1 2 _ rfl; have c3 := hSw.2.1 3 _ rfl;  go_simp; (try with_reducible rfl))); (try simp only [Act.put, List.setIfInBounds_toArray, List.set_cons_zero, List.set_cons_succ])
  refine tk 3 (v := ?_) rfl (by kernel_rfl) (by kernel_rfl) (by kernel_rfl) (fun _ _ _ h => h) rfl ?_ hHeld ?_; rotate_left; (focus (intro w hSw; (try dsimp only at hSw); have c1 := hSw.2.1 1 _ rfl; have c2 := hSw.2.1 2 _ rfl; have c3 := hSw.2.1 3 _ rfl;  go_simp; (try with_reducible rfl))); (try simp only [Act.put, List.setIfInBounds_toArray, List.set_cons_zero, List.set_cons_succ])
  refine tk 4 (v := ?_) rfl (by kernel_rfl) (by kernel_rfl) (by kernel_rfl) (fun _ _ _ h => h) rfl ?_ hHeld ?_; rotate_left; (focus (intro w hSw; (try dsimp only at hSw); have c1 := hSw.2.1 1 _ rfl; have c2 := hSw.2.1 2 _ rfl; have c3 := hSw.2.1 3 _ rfl;  go_simp; (try with_reducible rfl))); (try simp only [Act.put, List.setIfInBounds_toArray, List.set_cons_zero, List.set_cons_succ])
  refine tk 5 (v := ?_) rfl (by kernel_rfl) (by kernel_rfl) (by kernel_rfl) (fun _ _ _ h => h) rfl ?_ hHeld ?_; rotate_left; (focus (intro w hSw; (try dsimp only at hSw); have c1 := hSw.2.1 1 _ rfl; have c2 := hSw.2.1 2 _ rfl; have c3 := hSw.2.1 3 _ rfl;  go_simp; (try with_reducible rfl))); (try simp only [Act.put, List.setIfInBounds_toArray, List.set_cons_zero, List.set_cons_succ])
  refine tk 6 (v := ?_) rfl (by kernel_rfl) (by kernel_rfl) (by kernel_rfl) (fun _ _ _ h => h) rfl ?_ hHeld ?_; rotate_left; (focus (intro w hSw; (try dsimp only at hSw); have c1 := hSw.2.1 1 _ rfl; have c2 := hSw.2.1 2 _ rfl; have c3 := hSw.2.1 3 _ rfl;  go_simp; (try with_reducible rfl))); (try simp only [Act.put, List.setIfInBounds_toArray, List.set_cons_zero, List.set_cons_succ])
  refine tk 7 (v := ?_) rfl (by kernel_rfl) (by kernel_rfl) (by kernel_rfl) (fun _ _ _ h => h) rfl ?_ hHeld ?_; rotate_left; (focus (intro w hSw; (try dsimp only at hSw); have c1 := hSw.2.1 1 _ rfl; have c2 := hSw.2.1 2 _ rfl; have c3 := hSw.2.1 3 _ rfl;  go_simp; (try with_reducible rfl))); (try simp only [Act.put, List.setIfInBounds_toArray, List.set_cons_zero, List.set_cons_succ])
  refine tk 8 (v := ?_) rfl (by kernel_rfl) (by kernel_rfl) (by kernel_rfl) (fun _ _ _ h => h) rfl ?_ hHeld ?_; rotate_left; (focus (intro w hSw; (try dsimp only at hSw); have c1 := hSw.2.1 1 _ rfl; have c2 := hSw.2.1 2 _ rfl; have c3 := hSw.2.1 3 _ rfl;  go_simp; (try with_reducible rfl))); (try simp only [Act.put, List.setIfInBounds_toArray, List.set_cons_zero, List.set_cons_succ])
  refine tk 9 (v := ?_) rfl (by kernel_rfl) (by kernel_rfl) (by kernel_rfl) (fun _ _ _ h => h) rfl ?_ hHeld ?_; rotate_left; (focus (intro w hSw; (try dsimp only at hSw); have c1 := hSw.2.1 1 _ rfl; have c2 := hSw.2.1 2 _ rfl; have c3 := hSw.2.1 3 _ rfl;  go_simp; (try with_reducible rfl))); (try simp only [Act.put, List.setIfInBounds_toArray, List.set_cons_zero, List.set_cons_succ])
  refine tk 10 (v := ?_) rfl (by kernel_rfl) (by kernel_rfl) (by kernel_rfl) (fun _ _ _ h => h) rfl ?_ hHeld ?_; rotate_left; (focus (intro w hSw; (try dsimp only at hSw); have c1 := hSw.2.1 1 _ rfl; have c2 := hSw.2.1 2 _ rfl; have c3 := hSw.2.1 3 _ rfl;  go_simp; (try with_reducible rfl))); (try simp only [Act.put, List.setIfInBounds_toArray, List.set_cons_zero, List.set_cons_succ])
  refine tk 11 (v := ?_) rfl (by kernel_rfl) (by kernel_rfl) (by kernel_rfl) (fun _ _ _ h => h) rfl ?_ hHeld ?_; rotate_left; (focus (intro w hSw; (try dsimp only at hSw); have c1 := hSw.2.1 1 _ rfl; have c2 := hSw.2.1 2 _ rfl; have c3 := hSw.2.1 3 _ rfl;  go_simp; (try with_reducible rfl))); (try simp only [Act.put, List.setIfInBounds_toArray, List.set_cons_zero, List.set_cons_succ])
  refine tk 12 (v := ?_) rfl (by kernel_rfl) (by kernel_rfl) (by kernel_rfl) (fun _ _ _ h => h) rfl ?_ hHeld ?_; rotate_left; (focus (intro w hSw; (try dsimp only at hSw); have c1 := hSw.2.1 1 _ rfl; have c2 := hSw.2.1 2 _ rfl; have c3 := hSw.2.1 3 _ rfl;  go_simp; (try with_reducible rfl))); (try simp only [Act.put, List.setIfInBounds_toArray, List.set_cons_zero, List.set_cons_succ])
  have CE4 := hid (show Ce w3.drew (w.heap.size + 1) _ from CE3.out)
  have CR4 := hid (show Ce w3.drew w.heap.size _ from CR3.out)
  have HB4 := hid (show Below w.heap.size w w3.drew from by have := below_drewN HB3.out 1; exact this)
  clear CE3 CR3 HB3
  generalize w3.drew = w4 at *
  refine only 13 rfl (by kernel_rfl) rfl (fun K hK => ?_)
  refine ov_store rfl rfl rfl (CE4.out.store1 2 rfl a) ?_
  refine hK.out _ _ (Ce.other hHeld hbE) (fun hH0 => ?_)
  clear hK
  try simp only [Act.put, List.setIfInBounds_toArray, List.set_cons_zero, List.set_cons_succ]
  have CE5 := hid (CE4.out.set 2 (.int .i64 a) (by simp))
  simp only [List.set_cons_succ, List.set_cons_zero] at CE5
  have CR5 := hid (CR4.out.other (c := w.heap.size + 1) (j := 2) (v := .int .i64 a) (by omega))
  have HB5 := hid (HB4.out.setCell (p := ⟨w.heap.size + 1, 2, none⟩) (Nat.le_succ _) (.int .i64 a))
  clear CE4 CR4 HB4
  refine tk 14 (v := ?_) rfl (by kernel_rfl) (by kernel_rfl) (by kernel_rfl) (fun _ _ _ h => h) rfl ?_ hH0 ?_; rotate_left; (focus (intro w hSw; (try dsimp only at hSw);  go_simp; (try with_reducible rfl))); (try simp only [Act.put, List.setIfInBounds_toArray, List.set_cons_zero, List.set_cons_succ])
  refine only 15 rfl (by kernel_rfl) rfl (fun K hK => ?_)
  refine ov_store rfl rfl rfl (CE5.out.store1 3 rfl q) ?_
  refine hK.out _ _ (Ce.other hH0 hbE) (fun hH1 => ?_)
  clear hK
  try simp only [Act.put, List.setIfInBounds_toArray, List.set_cons_zero, List.set_cons_succ]
  have CE6 := hid (CE5.out.set 3 (.int .i64 q) (by simp))
  simp only [List.set_cons_succ, List.set_cons_zero] at CE6
  have CR6 := hid (CR5.out.other (c := w.heap.size + 1) (j := 3) (v := .int .i64 q) (by omega))
  have HB6 := hid (HB5.out.setCell (p := ⟨w.heap.size + 1, 3, none⟩) (Nat.le_succ _) (.int .i64 q))
  clear CE5 CR5 HB5
  refine tk 16 (v := ?_) rfl (by kernel_rfl) (by kernel_rfl) (by kernel_rfl) (fun _ _ _ h => h) rfl ?_ hH1 ?_; rotate_left; (focus (intro w hSw; (try dsimp only at hSw);  go_simp; (try with_reducible rfl))); (try simp only [Act.put, List.setIfInBounds_toArray, List.set_cons_zero, List.set_cons_succ])
  refine only 17 rfl (by kernel_rfl) rfl (fun K hK => ?_)
  refine ov_store rfl rfl rfl (CE6.out.store1 4 rfl m) ?_
  refine hK.out _ _ (Ce.other hH1 hbE) (fun hH2 => ?_)
  clear hK
  try simp only [Act.put, List.setIfInBounds_toArray, List.set_cons_zero, List.set_cons_succ]
  have CE7 := hid (CE6.out.set 4 (.int .i64 m) (by simp))
  simp only [List.set_cons_succ, List.set_cons_zero] at CE7
  have CR7 := hid (CR6.out.other (c := w.heap.size + 1) (j := 4) (v := .int .i64 m) (by omega))
  have HB7 := hid (HB6.out.setCell (p := ⟨w.heap.size + 1, 4, none⟩) (Nat.le_succ _) (.int .i64 m))
  clear CE6 CR6 HB6
  refine wpAnyH_done (by kernel_rfl) ?_ _
  have CE3 := CE7
  have CR3 := CR7
  have HB3 := HB7
  clear CE7 CR7 HB7 hHeld hH0 hH1 hH2 CB3
  have e0 := CE3.out.2.1 0 _ rfl
  have e1 := CE3.out.2.1 1 _ rfl
  have e2 := CE3.out.2.1 2 _ rfl
  have e3 := CE3.out.2.1 3 _ rfl
  have e4 := CE3.out.2.1 4 _ rfl
  have e5 := CE3.out.2.1 5 _ rfl
  have e6 := CE3.out.2.1 6 _ rfl
  have ef := CE3.out.2.2
  have r0 := CR3.out.2.1 0 _ rfl
  have r1 := CR3.out.2.1 1 _ rfl
  have r2 := CR3.out.2.1 2 _ rfl
  have r3 := CR3.out.2.1 3 _ rfl
  have r4 := CR3.out.2.1 4 _ rfl
  have r5 := CR3.out.2.1 5 _ rfl
  have r6 := CR3.out.2.1 6 _ rfl
  have rf := CR3.out.2.2
  go_wp2_with fail
  clear e0 e1 e2 e3 e4 e5 e6 ef r0 r1 r2 r3 r4 r5 r6 rf
  have CF := hid (Ce.s7 CR3.out (.int .i64 1) (.int .i64 s) (.int .i64 a) (.int .i64 q) (.int .i64 m) (.int .u64 0) (.int .u64 0))
  have BF := hid (below_s7 HB3.out (Nat.le_refl _) (.int .i64 1) (.int .i64 s) (.int .i64 a) (.int .i64 q) (.int .i64 m) (.int .u64 0) (.int .u64 0))
  unfold S7 at CF BF
  refine at_world (fun w' => Ce w' w.heap.size [.int .i64 1, .int .i64 s, .int .i64 a, .int .i64 q, .int .i64 m, .int .u64 0, .int .u64 0] ∧ Below w.heap.size w w') ⟨CF.out, BF.out⟩ (fun wf hwf => ?_)
  obtain ⟨hc2, hbf⟩ := hwf
  have x0 := hc2.2.1 0 _ rfl
  have x1 := hc2.2.1 1 _ rfl
  have x2 := hc2.2.1 2 _ rfl
  have x3 := hc2.2.1 3 _ rfl
  have x4 := hc2.2.1 4 _ rfl
  have x5 := hc2.2.1 5 _ rfl
  have x6 := hc2.2.1 6 _ rfl
  refine bodyPost_ret (v := .tuple #[.agg #[.int .i64 1, .int .i64 s, .int .i64 a, .int .i64 q, .int .i64 m, .int .u64 0, .int .u64 0], .bool true]) (by simp [results, Tryd.results51, go_sem, x0, x1, x2, x3, x4, x5, x6]) rfl ?_
  exact ⟨rfl, hbf⟩
set_option maxRecDepth 100000 in
set_option maxHeartbeats 4000000 in
theorem entry_rot (ya yb : Int) (b d : Nat) (hd : 2 ≤ d) (w : World) (hc : Ce w b [.int .u64 ya, .int .u64 yb]) : Calls Tryd.prog 51 #[.int .i64 6, .slice (some ⟨b, 0, none⟩) 2 d] w fun e w' => e = .returned (.tuple #[.agg #[.int .i64 6, .int .i64 0, .int .i64 0, .int .i64 0, .int .i64 0, .int .u64 ya, .int .u64 yb], .bool true]) ∧ Below w.heap.size w w' := by
  have HC := hid hc
  clear hc
  have NU := hid (fun (w : World) => (show Calls Tryd.prog 46 #[.agg #[.int .i64 6, .int .i64 0, .int .i64 0, .int .i64 0, .int .i64 0, .int .u64 0, .int .u64 0]] w fun r w' => ∃ b : Nat, r = .returned (.slice (some ⟨b, 0, none⟩) 2 2) ∧ Below w.heap.size w w' from (nums_any ⟨6, 0, 0, 0, 0, zKy⟩ (fun x hx => by simp [nmL, zKy] at hx; subst hx; unfold U64; omega) w).mono (fun r w' h => by obtain ⟨b, e, _, _, hb⟩ := h; exact ⟨b, e, hb⟩)))
  go_enter Tryd.func51, Tryd.ntmps51
  go_upto_region 2 with (fail)
  have CR := hid ((Ce.made (w := w) (l := [.int .i64 0, .int .i64 0, .int .i64 0, .int .i64 0, .int .i64 0, .int .u64 0, .int .u64 0]) (T := 56) (g := w.heap.size) rfl).alloc (.cells #[.int .i64 6, .int .i64 0, .int .i64 0, .int .i64 0, .int .i64 0, .int .u64 0, .int .u64 0] 56))
  have CE := hid (Ce.made (w := w.alloc (.cells #[.int .i64 0, .int .i64 0, .int .i64 0, .int .i64 0, .int .i64 0, .int .u64 0, .int .u64 0] 56)) (l := [.int .i64 6, .int .i64 0, .int .i64 0, .int .i64 0, .int .i64 0, .int .u64 0, .int .u64 0]) (T := 56) (g := w.heap.size + 1) (by simp))
  have CB := hid ((HC.out.alloc (.cells #[.int .i64 0, .int .i64 0, .int .i64 0, .int .i64 0, .int .i64 0, .int .u64 0, .int .u64 0] 56)).alloc (.cells #[.int .i64 6, .int .i64 0, .int .i64 0, .int .i64 0, .int .i64 0, .int .u64 0, .int .u64 0] 56))
  have HB := hid (((Below.refl w.heap.size w).alloc (Nat.le_refl _) (.cells #[.int .i64 0, .int .i64 0, .int .i64 0, .int .i64 0, .int .i64 0, .int .u64 0, .int .u64 0] 56)).alloc (by simp) (.cells #[.int .i64 6, .int .i64 0, .int .i64 0, .int .i64 0, .int .i64 0, .int .u64 0, .int .u64 0] 56))
  simp only [List.toArray] at CR CE
  generalize (w.alloc (.cells #[.int .i64 0, .int .i64 0, .int .i64 0, .int .i64 0, .int .i64 0, .int .u64 0, .int .u64 0] 56)).alloc (.cells #[.int .i64 6, .int .i64 0, .int .i64 0, .int .i64 0, .int .i64 0, .int .u64 0, .int .u64 0] 56) = w1 at *
  have lb := HC.out.1
  have e0 := CE.out.2.1 0 _ rfl
  have e1 := CE.out.2.1 1 _ rfl
  have e2 := CE.out.2.1 2 _ rfl
  have e3 := CE.out.2.1 3 _ rfl
  have e4 := CE.out.2.1 4 _ rfl
  have e5 := CE.out.2.1 5 _ rfl
  have e6 := CE.out.2.1 6 _ rfl
  have ef := CE.out.2.2
  go_wp2_with fail
  clear e0 e1 e2 e3 e4 e5 e6 ef
  refine (NU.out _).mono ?_
  rintro x w2 ⟨bb, rfl, hb⟩
  have CR2 := hid (CR.out.below hb)
  have CE2 := hid (CE.out.below hb)
  have CB2 := hid (CB.out.below hb)
  have HB2 := hid (HB.out.trans (hb.mono HB.out.size))
  clear hb CR CE CB HB NU
  have e0 := CE2.out.2.1 0 _ rfl
  have e1 := CE2.out.2.1 1 _ rfl
  have e2 := CE2.out.2.1 2 _ rfl
  have e3 := CE2.out.2.1 3 _ rfl
  have e4 := CE2.out.2.1 4 _ rfl
  have e5 := CE2.out.2.1 5 _ rfl
  have e6 := CE2.out.2.1 6 _ rfl
  have ef := CE2.out.2.2
  have c0 := CB2.out.2.1 0 _ rfl
  have c1 := CB2.out.2.1 1 _ rfl
  go_upto_region 5 with (fail)
  clear e0 e1 e2 e3 e4 e5 e6 ef c0 c1
  refine wp_region_held_drew (S := fun w' => Ce w' b [.int .u64 ya, .int .u64 yb]) (by kernel_rfl) ?_ (fun hHeld => ?_)
  · exact CB2.out
  refine tk 0 (v := ?_) rfl (by kernel_rfl) (by kernel_rfl) (by kernel_rfl) (fun _ _ _ h => h) rfl ?_ hHeld ?_; rotate_left; (focus (intro w hSw; (try dsimp only at hSw); have c0 := hSw.2.1 0 _ rfl; have c1 := hSw.2.1 1 _ rfl;  go_simp; (try with_reducible rfl))); (try simp only [Act.put, List.setIfInBounds_toArray, List.set_cons_zero, List.set_cons_succ])
  refine tk 1 (v := ?_) rfl (by kernel_rfl) (by kernel_rfl) (by kernel_rfl) (fun _ _ _ h => h) rfl ?_ hHeld ?_; rotate_left; (focus (intro w hSw; (try dsimp only at hSw); have c0 := hSw.2.1 0 _ rfl; have c1 := hSw.2.1 1 _ rfl;  go_simp; (try with_reducible rfl))); (try simp only [Act.put, List.setIfInBounds_toArray, List.set_cons_zero, List.set_cons_succ])
  refine tk 2 (v := ?_) rfl (by kernel_rfl) (by kernel_rfl) (by kernel_rfl) (fun _ _ _ h => h) rfl ?_ hHeld ?_; rotate_left; (focus (intro w hSw; (try dsimp only at hSw); have c0 := hSw.2.1 0 _ rfl; have c1 := hSw.2.1 1 _ rfl;  go_simp; (try with_reducible rfl))); (try simp only [Act.put, List.setIfInBounds_toArray, List.set_cons_zero, List.set_cons_succ])
  refine tk 3 (v := ?_) rfl (by kernel_rfl) (by kernel_rfl) (by kernel_rfl) (fun _ _ _ h => h) rfl ?_ hHeld ?_; rotate_left; (focus (intro w hSw; (try dsimp only at hSw); have c0 := hSw.2.1 0 _ rfl; have c1 := hSw.2.1 1 _ rfl;  go_simp; (try with_reducible rfl))); (try simp only [Act.put, List.setIfInBounds_toArray, List.set_cons_zero, List.set_cons_succ])
  refine tk 4 (v := ?_) rfl (by kernel_rfl) (by kernel_rfl) (by kernel_rfl) (fun _ _ _ h => h) rfl ?_ hHeld ?_; rotate_left; (focus (intro w hSw; (try dsimp only at hSw); have c0 := hSw.2.1 0 _ rfl; have c1 := hSw.2.1 1 _ rfl;  go_simp; (try with_reducible rfl))); (try simp only [Act.put, List.setIfInBounds_toArray, List.set_cons_zero, List.set_cons_succ])
  refine tk 5 (v := ?_) rfl (by kernel_rfl) (by kernel_rfl) (by kernel_rfl) (fun _ _ _ h => h) rfl ?_ hHeld ?_; rotate_left; (focus (intro w hSw; (try dsimp only at hSw); have c0 := hSw.2.1 0 _ rfl; have c1 := hSw.2.1 1 _ rfl;  go_simp; (try with_reducible rfl))); (try simp only [Act.put, List.setIfInBounds_toArray, List.set_cons_zero, List.set_cons_succ])
  refine tk 6 (v := ?_) rfl (by kernel_rfl) (by kernel_rfl) (by kernel_rfl) (fun _ _ _ h => h) rfl ?_ hHeld ?_; rotate_left; (focus (intro w hSw; (try dsimp only at hSw); have c0 := hSw.2.1 0 _ rfl; have c1 := hSw.2.1 1 _ rfl;  go_simp; (try with_reducible rfl))); (try simp only [Act.put, List.setIfInBounds_toArray, List.set_cons_zero, List.set_cons_succ])
  refine tk 7 (v := ?_) rfl (by kernel_rfl) (by kernel_rfl) (by kernel_rfl) (fun _ _ _ h => h) rfl ?_ hHeld ?_; rotate_left; (focus (intro w hSw; (try dsimp only at hSw); have c0 := hSw.2.1 0 _ rfl; have c1 := hSw.2.1 1 _ rfl;  go_simp; (try with_reducible rfl))); (try simp only [Act.put, List.setIfInBounds_toArray, List.set_cons_zero, List.set_cons_succ])
  have hbE : w.heap.size + 1 ≠ b := by omega
  have CE4 := hid (show Ce w2.drew (w.heap.size + 1) _ from CE2.out)
  have CR4 := hid (show Ce w2.drew w.heap.size _ from CR2.out)
  have HB4 := hid (show Below w.heap.size w w2.drew from by have := below_drewN HB2.out 1; exact this)
  clear CE2 CR2 HB2 CB2
  generalize w2.drew = w4 at *
  refine only 8 rfl (by kernel_rfl) rfl (fun K hK => ?_)
  refine ov_store rfl rfl rfl (CE4.out.storeA2 rfl rfl ya yb) ?_
  refine hK.out _ _ ((Ce.other hHeld hbE).other hbE) (fun hH => ?_)
  clear hK hHeld
  try simp only [Act.put, List.setIfInBounds_toArray, List.set_cons_zero, List.set_cons_succ]
  have CE3 := hid (CE4.out.setA2 (.int .u64 ya) (.int .u64 yb))
  have CR3 := hid (show Ce (w4.setCells (w.heap.size + 1) 5 [.int .u64 ya, .int .u64 yb]) w.heap.size [.int .i64 0, .int .i64 0, .int .i64 0, .int .i64 0, .int .i64 0, .int .u64 0, .int .u64 0] from (CR4.out.other (c := w.heap.size + 1) (j := 5) (v := .int .u64 ya) (by omega)).other (c := w.heap.size + 1) (j := 6) (v := .int .u64 yb) (by omega))
  have HB3 := hid (show Below w.heap.size w (w4.setCells (w.heap.size + 1) 5 [.int .u64 ya, .int .u64 yb]) from (HB4.out.setCell (p := ⟨w.heap.size + 1, 5, none⟩) (Nat.le_succ _) (.int .u64 ya)).setCell (p := ⟨w.heap.size + 1, 6, none⟩) (Nat.le_succ _) (.int .u64 yb))
  clear CE4 CR4 HB4 hH
  generalize w4.setCells (w.heap.size + 1) 5 [.int .u64 ya, .int .u64 yb] = w3 at *
  refine wpAnyH_done (by kernel_rfl) ?_ _
  have e0 := CE3.out.2.1 0 _ rfl
  have e1 := CE3.out.2.1 1 _ rfl
  have e2 := CE3.out.2.1 2 _ rfl
  have e3 := CE3.out.2.1 3 _ rfl
  have e4 := CE3.out.2.1 4 _ rfl
  have e5 := CE3.out.2.1 5 _ rfl
  have e6 := CE3.out.2.1 6 _ rfl
  have ef := CE3.out.2.2
  have r0 := CR3.out.2.1 0 _ rfl
  have r1 := CR3.out.2.1 1 _ rfl
  have r2 := CR3.out.2.1 2 _ rfl
  have r3 := CR3.out.2.1 3 _ rfl
  have r4 := CR3.out.2.1 4 _ rfl
  have r5 := CR3.out.2.1 5 _ rfl
  have r6 := CR3.out.2.1 6 _ rfl
  have rf := CR3.out.2.2
  go_wp2_with fail
  clear e0 e1 e2 e3 e4 e5 e6 ef r0 r1 r2 r3 r4 r5 r6 rf
  have CF := hid (Ce.s7 CR3.out (.int .i64 6) (.int .i64 0) (.int .i64 0) (.int .i64 0) (.int .i64 0) (.int .u64 ya) (.int .u64 yb))
  have BF := hid (below_s7 HB3.out (Nat.le_refl _) (.int .i64 6) (.int .i64 0) (.int .i64 0) (.int .i64 0) (.int .i64 0) (.int .u64 ya) (.int .u64 yb))
  unfold S7 at CF BF
  refine at_world (fun w' => Ce w' w.heap.size [.int .i64 6, .int .i64 0, .int .i64 0, .int .i64 0, .int .i64 0, .int .u64 ya, .int .u64 yb] ∧ Below w.heap.size w w') ⟨CF.out, BF.out⟩ (fun wf hwf => ?_)
  obtain ⟨hc2, hbf⟩ := hwf
  have x0 := hc2.2.1 0 _ rfl
  have x1 := hc2.2.1 1 _ rfl
  have x2 := hc2.2.1 2 _ rfl
  have x3 := hc2.2.1 3 _ rfl
  have x4 := hc2.2.1 4 _ rfl
  have x5 := hc2.2.1 5 _ rfl
  have x6 := hc2.2.1 6 _ rfl
  refine bodyPost_ret (v := .tuple #[.agg #[.int .i64 6, .int .i64 0, .int .i64 0, .int .i64 0, .int .i64 0, .int .u64 ya, .int .u64 yb], .bool true]) (by simp [results, Tryd.results51, go_sem, x0, x1, x2, x3, x4, x5, x6]) rfl ?_
  exact ⟨rfl, hbf⟩
end Go.Proofs.YtljgcffpijjliaaDoor

/- An entry's shape; a text, split; an entry of its numbers. -/
namespace Go.Proofs.YtljgcffpijjliaaDoor
set_option linter.unusedVariables false
set_option linter.unusedSimpArgs false
open Go.RowKit Go.ChangeShapes Go.WideShapes Go.ChangeAt

theorem chk_shape {e : En} (h : chk e = 0) : (∃ s a q m, e = ⟨1, s, a, q, m, zKy⟩ ∧ (0 ≤ s ∧ s ≤ 63) ∧ (0 ≤ a ∧ a ≤ 4294967295) ∧ (0 ≤ q ∧ q ≤ 65535) ∧ (0 ≤ m ∧ m ≤ 8)) ∨ (∃ ya yb, e = ⟨6, 0, 0, 0, 0, ⟨ya, yb⟩⟩) ∨ (∃ k s, e = ⟨k, s, 0, 0, 0, zKy⟩ ∧ ¬ k = 1 ∧ ¬ k = 6 ∧ 0 ≤ s ∧ s ≤ 63) := by
  obtain ⟨k1, k2, s1, s2, s3⟩ := chk_ok h
  obtain ⟨k, s, a, q, m, ya, yb⟩ := e
  simp only at k1 k2 s1 s2 s3
  unfold chk at h
  simp only at h
  split at h
  · cases h
  split at h
  · cases h
  split at h
  · cases h
  rename_i h3
  split at h
  · rename_i hE
    by_cases e1 : k = 1
    · subst e1
      simp [its, eqE, eqK, zKy] at hE
      obtain ⟨rfl, rfl⟩ := hE
      simp [mayB, inR] at h3
      exact .inl ⟨s, a, q, m, rfl, ⟨s1, s2⟩, by omega, by omega, by omega⟩
    · by_cases e6 : k = 6
      · subst e6
        simp [its, eqE, eqK, zKy] at hE
        obtain ⟨rfl, rfl, rfl, rfl⟩ := hE
        exact .inr (.inl ⟨ya, yb, rfl⟩)
      · simp [its, eqE, eqK, zKy, e1, e6] at hE
        obtain ⟨rfl, rfl, rfl, rfl, rfl⟩ := hE
        exact .inr (.inr ⟨k, s, rfl, e1, e6, s1, s2⟩)
  · cases h
theorem oentry_any (e : En) (hk : chk e = 0) (b d : Nat) (hd : (nmL e).length ≤ d) (w : World) (hc : Ce w b ((nmL e).map fun x => .int .u64 x)) : Calls Tryd.prog 51 #[.int .i64 e.k, .slice (some ⟨b, 0, none⟩) (nmL e).length d] w fun r w' => r = .returned (.tuple #[enV e, .bool true]) ∧ Below w.heap.size w w' := by
  rcases chk_shape hk with ⟨s, a, q, m, rfl, hs, ha, hq, hm⟩ | ⟨ya, yb, rfl⟩ | ⟨k, s, rfl, h1, h6, hs⟩
  · exact entry_bind s a q m hs ha hq hm b d hd w hc
  · exact entry_rot ya yb b d hd w hc
  · have hn : nmL ⟨k, s, 0, 0, 0, zKy⟩ = [s] := by unfold nmL; rw [if_neg h1, if_neg h6]
    rw [hn] at hd hc ⊢
    exact entry_slot k s h1 h6 hs b d hd w hc
theorem nm_pos (e : En) : 0 < (nmL e).length := by unfold nmL; split; simp; split <;> simp
theorem nm_of {e : En} (hu : ∀ x ∈ nmL e, U64 x) {w : World} {b : Nat} (hb : b < w.heap.size) (h : ∀ j, j < (nmL e).length → w.cell? ⟨b, j, none⟩ = some (.int .u64 ((((nmL e).getD j 0).toNat : Nat) : Int))) (hf : ∀ j, w.frozen? ⟨b, j, none⟩ = false) : Ce w b ((nmL e).map fun x => .int .u64 x) := by
  refine ⟨hb, fun j v hj => ?_, hf⟩
  rw [List.getElem?_map] at hj
  obtain ⟨x, hx, rfl⟩ := Option.map_eq_some_iff.1 hj
  have hl : j < (nmL e).length := (List.getElem?_eq_some_iff.1 hx).1
  rw [h j hl, List.getD_eq_getElem?_getD, hx]
  have := hu x (List.mem_of_getElem? hx)
  unfold U64 at this
  show some (Value.int .u64 (x.toNat : Int)) = _
  rw [Int.toNat_of_nonneg this.1]
theorem wd_ne {j k : Int} (h1 : 1 ≤ j) (h2 : j < k) (h3 : k ≤ 6) : wdL j ≠ wdL k := by
  have hj : j = 1 ∨ j = 2 ∨ j = 3 ∨ j = 4 ∨ j = 5 := by omega
  have hk : k = 2 ∨ k = 3 ∨ k = 4 ∨ k = 5 ∨ k = 6 := by omega
  rcases hj with rfl | rfl | rfl | rfl | rfl <;> rcases hk with rfl | rfl | rfl | rfl | rfl <;> first | (exfalso; omega) | decide
def wrdV (e : En) : List Value := (wrds e).map fun l => .string ⟨l.toArray⟩
theorem split_call (e : En) (hu : ∀ x ∈ nmL e, U64 x) (m : Int) (w : World) (hm : w.cell? ⟨1, 0, none⟩ = some (.int .i64 m)) : Calls Tryd.prog 49 #[.string ⟨(txtL e).toArray⟩, .string ⟨#[32]⟩, .int .i64 6] w fun r w' => ∃ (S d : Nat), r = .returned (.slice (some ⟨S, 0, none⟩) ((nmL e).length + 1) d) ∧ (nmL e).length + 1 ≤ d ∧ Ce w' S (wrdV e) ∧ Below w.heap.size w w' := by
  have hsz : (⟨(txtL e).toArray⟩ : ByteArray).size = (txtL e).length := rfl
  have h1 := txt_len hu
  have h2 := wrds_len e
  have h3 := nm_len e
  have h4 := txt_long e
  have hsp := sp_txt e (min 6 ((⟨(txtL e).toArray⟩ : ByteArray).size + 1) - 1) (by rw [hsz]; omega)
  have := Tryd.strings_SplitN ⟨(txtL e).toArray⟩ ⟨#[32]⟩ 6 m w (by rw [hsz]; omega) hm (by decide) (by decide) (by decide)
  rw [hsp] at this
  refine this.mono fun r w' h => ?_
  obtain ⟨rfl, rfl⟩ := h
  have hl : (wrdV e).length = (nmL e).length + 1 := by unfold wrdV; rw [List.length_map, h2]
  have hm2 := Ce.made (w := w) (l := ((wrds e).map fun x => (⟨x.toArray⟩ : ByteArray)).map Value.string ++ List.replicate (min 6 ((⟨(txtL e).toArray⟩ : ByteArray).size + 1) - ((wrds e).map fun x => (⟨x.toArray⟩ : ByteArray)).length) (Value.string ByteArray.empty)) (T := 9) (g := w.heap.size) rfl
  refine ⟨w.heap.size, min 6 ((⟨(txtL e).toArray⟩ : ByteArray).size + 1), by rw [List.length_map, h2], by rw [hsz]; omega, ⟨hm2.1, fun j v hj => hm2.2.1 j v ?_, hm2.2.2⟩, (Below.refl _ w).alloc (Nat.le_refl _) _⟩
  have hj2 : j < (wrdV e).length := (List.getElem?_eq_some_iff.1 hj).1
  rw [List.getElem?_append_left (by simp; omega), List.map_map]
  exact hj
theorem wv0 (e : En) : (wrdV e)[0]? = some (.string ⟨(wdL e.k).toArray⟩) := rfl
theorem wvs (e : En) (j : Nat) (hj : j < (nmL e).length) : (wrdV e)[1 + j]? = some (.string ⟨(Lib.decDigits ((nmL e).getD j 0).toNat).toArray⟩) := by
  obtain ⟨x, hx⟩ : ∃ x, (nmL e)[j]? = some x := ⟨_, List.getElem?_eq_getElem hj⟩
  unfold wrdV wrds
  rw [Nat.add_comm 1 j, List.map_cons, List.getElem?_cons_succ, List.map_map, List.getElem?_map, hx, List.getD_eq_getElem?_getD, hx]
  rfl
theorem num_lt {e : En} (hu : ∀ x ∈ nmL e, U64 x) (j : Nat) (hj : j < (nmL e).length) : ((nmL e).getD j 0).toNat < 18446744073709551616 := by
  obtain ⟨x, hx⟩ : ∃ x, (nmL e)[j]? = some x := ⟨_, List.getElem?_eq_getElem hj⟩
  have := hu x (List.mem_of_getElem? hx)
  unfold U64 at this
  rw [List.getD_eq_getElem?_getD, hx]
  show x.toNat < _
  omega
end Go.Proofs.YtljgcffpijjliaaDoor

/- An entry's text, read. -/
namespace Go.Proofs.YtljgcffpijjliaaDoor
set_option linter.unusedVariables false
set_option linter.unusedSimpArgs false
open Go.RowKit Go.ChangeShapes Go.WideShapes Go.ChangeAt

def PArsA (n : Nat) (K : Int) (X : ByteArray) (W : List Value) (w : World) (a' : Act) (w' : World) : Prop :=
  ∃ (k : Int) (S d : Nat) (u1 u6 u7 u8 u9 u10 u11 u12 u13 u14 u15 u16 u17 u18 u19 u20 u21 u22 u23 u24 u25 u26 u27 u28 u29 u30 u31 u32 u33 u34 u35 u36 u37 u38 u39 u40 u41 u42 u43 u44 u45 : Value), 1 ≤ k ∧ k ≤ K ∧ n + 1 ≤ d ∧ Ce w' w.heap.size [.int .i64 0, .int .i64 0, .int .i64 0, .int .i64 0, .int .i64 0, .int .u64 0, .int .u64 0] ∧ Ce w' S W ∧ Below w.heap.size w w' ∧
    a' = { tmps := #[.string X, u1, .pointer (some ⟨w.heap.size, 0, none⟩), .bool false, .slice (some ⟨S, 0, none⟩) (n + 1) d, .int .i64 k, u6, u7, u8, u9, u10, u11, u12, u13, u14, u15, u16, u17, u18, u19, u20, u21, u22, u23, u24, u25, u26, u27, u28, u29, u30, u31, u32, u33, u34, u35, u36, u37, u38, u39, u40, u41, u42, u43, u44, u45], defers := [] }
theorem wl_len (e : En) : (wrdV e).length = (nmL e).length + 1 := by unfold wrdV; rw [List.length_map, wrds_len]
set_option maxRecDepth 100000 in
set_option maxHeartbeats 4000000 in
theorem parse_any (e : En) (hk : chk e = 0) (hu : ∀ x ∈ nmL e, U64 x) (m : Int) (w : World) (hm : w.cell? ⟨1, 0, none⟩ = some (.int .i64 m)) : Calls Tryd.prog 32 #[.string ⟨(txtL e).toArray⟩] w fun r w' => r = .returned (.tuple #[enV e, .bool true]) ∧ Below w.heap.size w w' := by
  obtain ⟨k1, k6, -, -, -⟩ := chk_ok hk
  have CK := hid (fun w => re_i64 (check_any e w) hk)
  have SPL := hid (fun w' h => split_call e hu m w' h)
  have ENT := hid (fun b d hd w hc => oentry_any e hk b d hd w hc)
  have PAL := hid (fun S c w h1 hb hc => pall_any (fun j => ((nmL e).getD j 0).toNat) (nmL e).length S 1 c (nm_pos e) (Nat.le_trans (nm_len e) (by decide)) h1 (num_lt hu) w hb hc)
  have NO := hid (fun w b hb h hf => nm_of hu (w := w) (b := b) hb h hf)
  have W0 := hid (wv0 e)
  have WS := hid (wvs e)
  have HL := hid (wl_len e)
  have hn0 := nm_pos e
  have WDN := hid (fun j (h1 : 1 ≤ j) (h2 : j < e.k) => wd_ne h1 h2 k6)
  obtain ⟨n, hn⟩ : ∃ n, n = (nmL e).length := ⟨_, rfl⟩
  obtain ⟨W, hW⟩ : ∃ W, W = wrdV e := ⟨_, rfl⟩
  obtain ⟨cs, hcs⟩ : ∃ cs, cs = (nmL e).map fun x => Value.int .u64 x := ⟨_, rfl⟩
  obtain ⟨nu, hnu⟩ : ∃ nu : Nat → Nat, nu = fun j => ((nmL e).getD j 0).toNat := ⟨_, rfl⟩
  obtain ⟨X, hX⟩ : ∃ X : ByteArray, X = ⟨(txtL e).toArray⟩ := ⟨_, rfl⟩
  have hnu2 : ∀ j, ((nmL e).getD j 0).toNat = nu j := fun j => by rw [hnu]
  simp only [hnu2] at PAL NO WS
  rw [← hX] at SPL ⊢
  simp only [← hn, ← hW, ← hcs] at SPL ENT PAL NO W0 WS HL hn0
  have hn4 : n ≤ 4 := by rw [hn]; exact nm_len e
  clear hn hW hcs hnu hnu2 hX hk hu
  obtain ⟨ek, s, a, q, m0, ya, yb⟩ := e
  unfold enV at CK ENT ⊢
  simp only at CK ENT W0 WDN k1 k6 ⊢
  have HM := hid hm
  clear hm
  go_enter Tryd.func32, Tryd.ntmps32
  go_wp2_with fail
  have CR := hid (Ce.made (w := w) (l := [.int .i64 0, .int .i64 0, .int .i64 0, .int .i64 0, .int .i64 0, .int .u64 0, .int .u64 0]) (T := 56) (g := w.heap.size) rfl)
  have HB := hid ((Below.refl w.heap.size w).alloc (Nat.le_refl _) (.cells #[.int .i64 0, .int .i64 0, .int .i64 0, .int .i64 0, .int .i64 0, .int .u64 0, .int .u64 0] 56))
  have M1 := hid ((World.cell?_of_block (a := ⟨1, 0, none⟩) (HB.out.block 1 (World.block_lt_of_cell? _ _ HM.out))).trans HM.out)
  simp only [List.toArray] at CR
  generalize w.alloc (.cells #[.int .i64 0, .int .i64 0, .int .i64 0, .int .i64 0, .int .i64 0, .int .u64 0, .int .u64 0] 56) = w1 at *
  refine wp_scope_lead 0 (PArsA n ek X W w) (fun a' _ => 7 - (intOf (a'.tmps.getD 5 undef)).toNat) rfl ?_ ?_
  · intro Q' hQ
    have HQ := hid hQ
    clear hQ
    go_wp2_with fail
    refine (SPL.out _ M1.out).mono ?_
    rintro x w2 ⟨S, d, rfl, hd, hS, hb⟩
    have CS := hid hS
    have CR2 := hid (CR.out.below hb)
    have HB2 := hid (HB.out.trans (hb.mono HB.out.size))
    clear hS hb CR HB M1
    go_wp2_with fail
    go_step3
    simp only [Exit.then]
    refine (by assumption : ∀ a w, _ → _) _ _ ?_
    exact HQ.out _ _ ⟨1, S, d, undef, _, _, _, _, _, _, _, _, _, _, _, _, _, _, _, _, _, _, _, _, _, _, _, _, _, _, _, _, _, _, _, _, _, _, _, _, _, _, _, _, by omega, by omega, hd, CR2.out, CS.out, HB2.out, rfl⟩
  · rintro a' w3 ⟨k, S', d', u1, u6, u7, u8, u9, u10, u11, u12, u13, u14, u15, u16, u17, u18, u19, u20, u21, u22, u23, u24, u25, u26, u27, u28, u29, u30, u31, u32, u33, u34, u35, u36, u37, u38, u39, u40, u41, u42, u43, u44, u45, hk1, hk2, hd', hr, hs, hb, rfl⟩
    have CR3 := hid hr
    have CS3 := hid hs
    have HB3 := hid hb
    clear hr hs hb CR HB SPL HM M1
    have i1 : (1 : Int) ≤ n := by omega
    have c0 := CS3.out.2.1 0 _ W0.out
    obtain ⟨D, hD⟩ : ∃ D : ByteArray, D = ⟨(wdL ek).toArray⟩ := ⟨_, rfl⟩
    rw [← hD] at c0
    by_cases hlt : k < ek
    · have WK := hid (fun w => word_any k w)
      obtain ⟨Y, hY⟩ : ∃ Y : ByteArray, Y = ⟨(wdL k).toArray⟩ := ⟨_, rfl⟩
      have hbn : (Y.toList == D.toList) = false := by rw [beq_eq_false_iff_ne, hY, hD, ByteArray.toList_eq, ByteArray.toList_eq]; exact WDN.out k hk1 hlt
      rw [← hY] at WK
      clear hY hD
      have b6 : (k == 6) = false := by simp; omega
      have wk1 : IntKind.i64.wrap (k + 1) = k + 1 := IntWalk.i64_in _ (by omega)
      go_wp2
      go_quiet ((go_at_call 45; exact q0p (WK.out _)))
      go_wp2
      go_step3
      refine ⟨rfl, ⟨k + 1, S', d', _, _, _, _, _, _, _, _, _, _, _, _, _, _, _, _, _, _, _, _, _, _, _, _, _, _, _, _, _, _, _, _, _, _, _, _, _, _, _, _, _, by omega, by omega, hd', CR3.out, CS3.out, below_drewN HB3.out _, rfl⟩, ?_⟩
      simp [intOf]; omega
    · obtain rfl : k = ek := by omega
      have WK := hid (fun w => word_any k w)
      rw [← hD] at WK
      clear hD
      go_wp2
      go_quiet ((go_at_call 45; exact q0p (WK.out _)))
      clear c0
      obtain ⟨w4, hw4⟩ : ∃ x, x = w3.drewN nq := ⟨_, rfl⟩
      have CR4 := hid (show Ce w4 w.heap.size [.int .i64 0, .int .i64 0, .int .i64 0, .int .i64 0, .int .i64 0, .int .u64 0, .int .u64 0] from by rw [hw4]; exact CR3.out)
      have CS4 := hid (show Ce w4 S' W from by rw [hw4]; exact CS3.out)
      have HB4 := hid (show Below w.heap.size w w4 from by rw [hw4]; exact below_drewN HB3.out _)
      rw [← hw4]
      clear hw4 CR3 CS3 HB3
      go_wp2_with fail
      refine (PAL.out S' (d' - 1) _ (by omega) CS4.out.1 (fun j hj => CS4.out.2.1 (1 + j) _ (WS.out j hj))).mono ?_
      rintro x w5 ⟨B, d2, hd2, rfl, hB, hce, hfr, hb⟩
      have CB5 := hid (NO.out _ B hB hce hfr)
      have CR5 := hid (CR4.out.below hb)
      have HB5 := hid (HB4.out.trans (hb.mono HB4.out.size))
      clear hb hce hfr CR4 CS4 HB4
      go_wp2_with fail
      refine (ENT.out B d2 hd2 _ CB5.out).mono ?_
      rintro x w6 ⟨rfl, hb⟩
      have CR6 := hid (CR5.out.below hb)
      have HB6 := hid (HB5.out.trans (hb.mono HB5.out.size))
      clear hb CR5 CB5 HB5
      go_upto_region 11 with (fail)
      have CE7 := hid (Ce.made (w := w6) (l := [.int .i64 k, .int .i64 s, .int .i64 a, .int .i64 q, .int .i64 m0, .int .u64 ya, .int .u64 yb]) (T := 56) (g := w6.heap.size) rfl)
      have CR7 := hid (CR6.out.alloc (.cells #[.int .i64 k, .int .i64 s, .int .i64 a, .int .i64 q, .int .i64 m0, .int .u64 ya, .int .u64 yb] 56))
      have HB7 := hid (HB6.out.alloc HB6.out.size (.cells #[.int .i64 k, .int .i64 s, .int .i64 a, .int .i64 q, .int .i64 m0, .int .u64 ya, .int .u64 yb] 56))
      simp only [List.toArray] at CE7
      generalize w6.alloc (.cells #[.int .i64 k, .int .i64 s, .int .i64 a, .int .i64 q, .int .i64 m0, .int .u64 ya, .int .u64 yb] 56) = w7 at *
      generalize w6.heap.size = E at *
      have e0 := CE7.out.2.1 0 _ rfl
      have e1 := CE7.out.2.1 1 _ rfl
      have e2 := CE7.out.2.1 2 _ rfl
      have e3 := CE7.out.2.1 3 _ rfl
      have e4 := CE7.out.2.1 4 _ rfl
      have e5 := CE7.out.2.1 5 _ rfl
      have e6 := CE7.out.2.1 6 _ rfl
      have ef := CE7.out.2.2
      go_wp2_with fail
      clear e0 e1 e2 e3 e4 e5 e6 ef
      refine (CK.out _).mono ?_
      rintro x w8 ⟨rfl, hb⟩
      have CE8 := hid (CE7.out.below hb)
      have CR8 := hid (CR7.out.below hb)
      have HB8 := hid (HB7.out.trans (hb.mono HB7.out.size))
      clear hb CE7 CR7 HB7 CR6 HB6
      have e0 := CE8.out.2.1 0 _ rfl
      have e1 := CE8.out.2.1 1 _ rfl
      have e2 := CE8.out.2.1 2 _ rfl
      have e3 := CE8.out.2.1 3 _ rfl
      have e4 := CE8.out.2.1 4 _ rfl
      have e5 := CE8.out.2.1 5 _ rfl
      have e6 := CE8.out.2.1 6 _ rfl
      have ef := CE8.out.2.2
      have r0 := CR8.out.2.1 0 _ rfl
      have r1 := CR8.out.2.1 1 _ rfl
      have r2 := CR8.out.2.1 2 _ rfl
      have r3 := CR8.out.2.1 3 _ rfl
      have r4 := CR8.out.2.1 4 _ rfl
      have r5 := CR8.out.2.1 5 _ rfl
      have r6 := CR8.out.2.1 6 _ rfl
      have rf := CR8.out.2.2
      go_wp2_with fail
      clear e0 e1 e2 e3 e4 e5 e6 ef r0 r1 r2 r3 r4 r5 r6 rf
      have CF := hid (Ce.s7 CR8.out (.int .i64 k) (.int .i64 s) (.int .i64 a) (.int .i64 q) (.int .i64 m0) (.int .u64 ya) (.int .u64 yb))
      have BF := hid (below_s7 HB8.out (Nat.le_refl _) (.int .i64 k) (.int .i64 s) (.int .i64 a) (.int .i64 q) (.int .i64 m0) (.int .u64 ya) (.int .u64 yb))
      unfold S7 at CF BF
      simp only [Exit.jump]
      refine at_world (fun w' => Ce w' w.heap.size [.int .i64 k, .int .i64 s, .int .i64 a, .int .i64 q, .int .i64 m0, .int .u64 ya, .int .u64 yb] ∧ Below w.heap.size w w') ⟨CF.out, BF.out⟩ (fun wf hwf => ?_)
      obtain ⟨hc2, hbf⟩ := hwf
      have x0 := hc2.2.1 0 _ rfl
      have x1 := hc2.2.1 1 _ rfl
      have x2 := hc2.2.1 2 _ rfl
      have x3 := hc2.2.1 3 _ rfl
      have x4 := hc2.2.1 4 _ rfl
      have x5 := hc2.2.1 5 _ rfl
      have x6 := hc2.2.1 6 _ rfl
      refine bodyPost_ret (v := .tuple #[.agg #[.int .i64 k, .int .i64 s, .int .i64 a, .int .i64 q, .int .i64 m0, .int .u64 ya, .int .u64 yb], .bool true]) (by simp [results, Tryd.results32, go_sem, x0, x1, x2, x3, x4, x5, x6]) rfl ?_
      exact ⟨rfl, hbf⟩
end Go.Proofs.YtljgcffpijjliaaDoor

/- The last step of a law whose row lists package-level variables, and whose walk reads one. -/
namespace Go.Proofs.YtljgcffpijjliaaDoor
set_option linter.unusedVariables false
open Go.RowKit Go.ChangeShapes Go.WideShapes Go.ChangeAt

section
variable {H : Type} {enc : TypeId × Value → H}
set_option maxRecDepth 100000 in
/-- THE LAST STEP OF A LAW: it answers true and leaves all that was as it was; what the row lists is laid. -/
theorem law_door2 {os : Os} (started : os.Started) {K : FuncId} {fn : Func} {s : ChangeSpec} {tb : TypeId} {laid : List (String × DataW Unit)} (noInit : Tryd.prog.inits.idxOf? K = none) (hfn : Tryd.prog.funcs[K]? = some fn)
    (witness : ∃ (w : World) (tape : Tape) (i : Input), w.os = os ∧ (w.forCall tape i).Shaped Tryd.prog ∧ i.vars = [] ∧ Input.okWide Tryd.prog (w.forCall tape i) .any w.heap.size K i ∧
      ((s.pre enc Tryd.prog fn [] false (w.forCall tape i).memory i.args ∧ laidMetH Tryd.prog laid (w.forCall tape i).memory) ∧ sizedMet enc Tryd.prog fn (OpenSpec.ofChange s) false (w.forCall tape i).memory i.args) ∧ ({} : Assume).holds Tryd.prog (lone (Frame.enter Tryd.prog K i.args .normal) [] (w.forCall tape i)))
    (hv : s.vars = []) (hrd : ∀ t ∈ fn.params.toList, Tryd.prog.readableRec t = true ∧ t < Tryd.prog.types.size) (hres : fn.resultTypes = #[tb]) (htb : Tryd.prog.underlying tb = some .bool)
    (hs : ∀ ds : List (DataW H), ds.length = fn.params.toList.length → s.fn H ds = { results := [.lit (.bool true)], args := ds })
    (walk : ∀ (W : World) (base : Nat) (args : Array Value) (ds : List (DataW H)) (ps : List MemPlace), W.ShapedOpen Tryd.prog → laidMetH Tryd.prog laid W.memory → (∀ (j : Nat) t v, fn.params[j]? = some t → args[j]? = some v → Value.okWide Tryd.prog W .any base t v) →
      DataW.TrodAll enc Tryd.prog W 0 (fun _ => true) true fn.params.toList args.toList ds ps → (DataW.weightsEach Tryd.prog fn.params.toList ds).all (· ≤ reachBytes) = true →
      Calls Tryd.prog K args W fun e W' => e = .returned (.bool true) ∧ Below W.heap.size W W') :
    ReturnsInHanded {} Tryd.checked os K .any (fun w args => (s.pre enc Tryd.prog fn [] false w args ∧ laidMetH Tryd.prog laid w) ∧ sizedMet enc Tryd.prog fn (OpenSpec.ofChange s) false w args) (s.post enc Tryd.prog fn false true false false) := by
  refine returnsInHanded_of_calls (C := Tryd.checked) own_ started noInit witness ?_
  intro w tape i _ hsh _ hok hpre hholds
  obtain ⟨_, _, _, fn', hfn', _, _, _, _, hval⟩ := hok
  have e : fn' = fn := Option.some.inj (hfn'.symm.trans hfn)
  subst e
  obtain ⟨⟨⟨ds, gs, before, hw, hc⟩, hL⟩, hz⟩ := hpre
  have hW := DataW.Whole.of_heap (w' := w.forCall tape i) (by rfl) hw
  have hsz : (DataW.weightsEach Tryd.checked.prog (fn'.params.toList ++ s.plain.varTypes Tryd.checked.prog) (ds ++ gs)).all (· ≤ reachBytes) = true := hz.weights hw
  generalize w.forCall tape i = W at *
  have hlt : ∀ x ∈ before, x.block < W.heap.size := fun x hx => by simpa using hW.lt x hx
  have hW' := hW
  obtain ⟨p, q, hA, hV, rfl, _, _⟩ := hW
  have hv' : s.plain.vars = [] := hv
  rw [hv] at hV
  obtain ⟨rfl, rfl⟩ := trodVars_none hV
  have hsz' : (DataW.weightsEach Tryd.prog fn'.params.toList ds).all (· ≤ reachBytes) = true := by
    have h1 : DataSpec.varTypes Tryd.checked.prog s.plain = [] := by simp [ChangeSpec.plain, DataSpec.varTypes, hv]
    rw [h1, List.append_nil, List.append_nil] at hsz
    exact hsz
  refine (walk W _ i.args ds p hsh hL hval hA hsz').mono fun e W' ⟨he, hb⟩ => ?_
  subst he
  have hlen := trod_len hA
  have hfn' := hs ds hlen
  refine ChangeSpec.post_blind ?_
  refine ⟨ds, [], _, [], p, [], hW', ?_, ?_, ?_, hb.frame _, fun h => by cases h⟩
  · rw [hres, List.append_nil, hfn']
    exact trodAll_cons_mk (shut_bool htb true) trodAll_mk0
  · rw [List.append_nil, hfn']
    exact trodAll_below hb hrd hA (fun x hx => hlt x (List.mem_append_left _ hx))
  · rw [hv, List.append_nil, hfn']
    rfl
end
theorem tab_of {W : World} (h : laidMetH Tryd.prog Rows.orderBackRow.laid W.memory) : Lib.TabIs Tryd.prog W "internal/strconv.uint64pow10" .u64 Lib.pow10Tab := by
  rw [MakeChecks.laidMetH_plain _ _ _ (by kernel_rfl)] at h
  have h2 := laidMet.filter (fun x => x.1 == "internal/strconv.uint64pow10") h
  have e : Rows.orderBackRow.laid.filter (fun x => x.1 == "internal/strconv.uint64pow10") = [("internal/strconv.uint64pow10", Lib.tabData .u64 Lib.pow10Tab)] := by kernel_rfl
  rw [e] at h2
  have h3 : Lib.TabIs Tryd.prog W.memory "internal/strconv.uint64pow10" .u64 Lib.pow10Tab := Lib.tabIs_of_head (g := 0) (t := 119) (e := 27) (n := 20) (by kernel_rfl) (by kernel_rfl) (by kernel_rfl) (by kernel_rfl) (by kernel_rfl) (by kernel_rfl) h2
  exact h3
end Go.Proofs.YtljgcffpijjliaaDoor

/- The reference's digits, word, numbers, text. -/
namespace Go.Proofs.YtljgcffpijjliaaDoor
set_option linter.unusedVariables false
set_option linter.unusedSimpArgs false
open Go.RowKit Go.ChangeShapes Go.WideShapes Go.ChangeAt

set_option maxRecDepth 100000 in
set_option maxHeartbeats 4000000 in
theorem rword_any (k : Int) (w : World) : Calls Tryd.prog 52 #[.int .i64 k] w fun e w' => e = .returned (.string ⟨(wdL k).toArray⟩) ∧ w = w' := by
  by_cases h1 : k = 1
  · subst h1
    go_enter Tryd.func52, Tryd.ntmps52
    go_wp2
    go_ret
    exact ⟨rfl, rfl⟩
  · have b1 : (k == 1) = false := by simpa using h1
    by_cases h2 : k = 2
    · subst h2
      go_enter Tryd.func52, Tryd.ntmps52
      go_wp2
      go_ret
      exact ⟨rfl, rfl⟩
    · have b2 : (k == 2) = false := by simpa using h2
      by_cases h3 : k = 3
      · subst h3
        go_enter Tryd.func52, Tryd.ntmps52
        go_wp2
        go_ret
        exact ⟨rfl, rfl⟩
      · have b3 : (k == 3) = false := by simpa using h3
        by_cases h4 : k = 4
        · subst h4
          go_enter Tryd.func52, Tryd.ntmps52
          go_wp2
          go_ret
          exact ⟨rfl, rfl⟩
        · have b4 : (k == 4) = false := by simpa using h4
          by_cases h5 : k = 5
          · subst h5
            go_enter Tryd.func52, Tryd.ntmps52
            go_wp2
            go_ret
            exact ⟨rfl, rfl⟩
          · have b5 : (k == 5) = false := by simpa using h5
            have HW := hid (show wdL k = [114, 111, 116, 97, 116, 101] from by unfold wdL; rw [if_neg h1, if_neg h2, if_neg h3, if_neg h4, if_neg h5])
            rw [HW.out]
            clear h1 h2 h3 h4 h5
            go_enter Tryd.func52, Tryd.ntmps52
            go_wp2
            go_ret
            exact ⟨rfl, rfl⟩
set_option maxRecDepth 100000 in
set_option maxHeartbeats 4000000 in
theorem rnums_any (e : En) (h : ∀ x ∈ nmL e, U64 x) (w : World) : Calls Tryd.prog 53 #[enV e] w fun r w' => ∃ b : Nat, r = .returned (.slice (some ⟨b, 0, none⟩) (nmL e).length (nmL e).length) ∧ w.heap.size ≤ b ∧ Ce w' b ((nmL e).map fun x => Value.int .u64 x) ∧ Below w.heap.size w w' := by
  obtain ⟨k, s, a, q, m, ya, yb⟩ := e
  unfold enV
  by_cases h1 : k = 1
  · subst h1
    have HN := hid (show nmL ⟨1, s, a, q, m, ⟨ya, yb⟩⟩ = [s, a, q, m] from rfl)
    have w1_ := wr_u (h s (by rw [HN.out]; simp))
    have w2_ := wr_u (h a (by rw [HN.out]; simp))
    have w3_ := wr_u (h q (by rw [HN.out]; simp))
    have w4_ := wr_u (h m (by rw [HN.out]; simp))
    clear h
    rw [show (nmL ⟨1, s, a, q, m, ⟨ya, yb⟩⟩).length = 4 from rfl]
    go_enter Tryd.func53, Tryd.ntmps53
    have HB := hid ((Below.refl w.heap.size w).alloc (Nat.le_refl _) (.cells #[.int .i64 1, .int .i64 s, .int .i64 a, .int .i64 q, .int .i64 m, .int .u64 ya, .int .u64 yb] 56))
    go_wp2_with fail
    go_ret
    refine ⟨_, rfl, ?_, ?_, HB.out.alloc HB.out.size _⟩
    · simp
    · rw [HN.out]; exact Ce.made (l := [.int .u64 s, .int .u64 a, .int .u64 q, .int .u64 m]) (by simp)
  · have b1 : (k == 1) = false := by simpa using h1
    by_cases h6 : k = 6
    · subst h6
      have HN := hid (show nmL ⟨6, s, a, q, m, ⟨ya, yb⟩⟩ = [ya, yb] from rfl)
      clear h
      rw [show (nmL ⟨6, s, a, q, m, ⟨ya, yb⟩⟩).length = 2 from rfl]
      go_enter Tryd.func53, Tryd.ntmps53
      have HB := hid ((Below.refl w.heap.size w).alloc (Nat.le_refl _) (.cells #[.int .i64 6, .int .i64 s, .int .i64 a, .int .i64 q, .int .i64 m, .int .u64 ya, .int .u64 yb] 56))
      go_wp2_with fail
      go_ret
      refine ⟨_, rfl, ?_, ?_, HB.out.alloc HB.out.size _⟩
      · simp
      · rw [HN.out]; exact Ce.made (l := [.int .u64 ya, .int .u64 yb]) (by simp)
    · have b6 : (k == 6) = false := by simpa using h6
      have HN := hid (show nmL ⟨k, s, a, q, m, ⟨ya, yb⟩⟩ = [s] from by unfold nmL; rw [if_neg h1, if_neg h6])
      have w1_ := wr_u (h s (by rw [HN.out]; simp))
      clear h h1 h6
      rw [show (nmL ⟨k, s, a, q, m, ⟨ya, yb⟩⟩).length = 1 from by rw [HN.out]; rfl]
      go_enter Tryd.func53, Tryd.ntmps53
      have HB := hid ((Below.refl w.heap.size w).alloc (Nat.le_refl _) (.cells #[.int .i64 k, .int .i64 s, .int .i64 a, .int .i64 q, .int .i64 m, .int .u64 ya, .int .u64 yb] 56))
      go_wp2_with fail
      go_ret
      refine ⟨_, rfl, ?_, ?_, HB.out.alloc HB.out.size _⟩
      · simp
      · rw [HN.out]; exact Ce.made (l := [.int .u64 s]) (by simp)
theorem dec_le (u : Nat) : (Lib.decDigits u).length ≤ u + 1 := by
  induction u using Nat.strongRecOn with
  | ind u ih =>
    by_cases h : u < 10
    · rw [dec_small h]; simp
    · rw [dec_step h, List.length_append]
      have := ih (u / 10) (by omega)
      simp
      omega
set_option maxRecDepth 100000 in
set_option maxHeartbeats 4000000 in
theorem rdig_any (u : Nat) (hu : u < 18446744073709551616) (w : World) : Calls Tryd.prog 54 #[.int .u64 (u : Int)] w fun e w' => e = .returned (.string ⟨(Lib.decDigits u).toArray⟩) ∧ Below w.heap.size w w' := by
  induction u using Nat.strongRecOn generalizing w with
  | ind u ih =>
  by_cases h : u < 10
  · rw [dec_small h]
    have i0 : ¬ (10 : Int) ≤ u := by omega
    have q1 : IntKind.u8.wrap (u : Int) = u := by rw [IntKind.wrap_u8]; omega
    have q2 : IntKind.u8.wrap (48 + (u : Int)) = 48 + u := by rw [IntKind.wrap_u8]; omega
    have q3 : IntKind.u64.wrap (48 + (u : Int)) = 48 + u := by rw [IntKind.wrap_u64]; omega
    clear ih hu
    have HB := hid ((Below.refl w.heap.size w).alloc (Nat.le_refl _) (.cells #[.int .u8 (48 + (u : Int))] 5))
    have hcv : (convert 63 9 (.slice (some ⟨w.heap.size, 0, none⟩) 1 1)).run Tryd.prog (w.alloc (.cells #[.int .u8 (48 + (u : Int))] 5)) = .ok (.string ⟨[UInt8.ofNat (48 + u)].toArray⟩) (w.alloc (.cells #[.int .u8 (48 + (u : Int))] 5)) :=
      run_convert_bytes_back (P := Tryd.prog) _ 63 9 5 ⟨w.heap.size, 0, none⟩ 1 [UInt8.ofNat (48 + u)] Tryd.underlying63 Tryd.underlying5 Tryd.underlying9 (fun j hj => by
        obtain rfl : j = 0 := by simp at hj; omega
        have h2 := (Ce.made (w := w) (l := [.int .u8 (48 + (u : Int))]) (T := 5) (g := w.heap.size) rfl).2.1 0 _ rfl
        simp only [List.toArray] at h2
        rw [show (⟨w.heap.size, 0, none⟩ : Addr).add 0 = ⟨w.heap.size, 0, none⟩ from rfl, h2]
        show _ = some (Value.int .u8 ((UInt8.ofNat (48 + u)).toNat : Int))
        rw [dig_of u h]
        simp)
    go_enter Tryd.func54, Tryd.ntmps54
    go_wp2_with fail
    go_ret
    exact ⟨rfl, HB.out⟩
  · have D1 := hid (fun w => ih (u / 10) (by omega) (by omega) w)
    have D2 := hid (fun w => ih (u % 10) (by omega) (by omega) w)
    have i0 : (10 : Int) ≤ u := by omega
    have l1 : (Lib.decDigits (u / 10)).length ≤ 20 := dec_len (by omega)
    have l2 : (Lib.decDigits (u % 10)).length ≤ 20 := dec_len (by omega)
    have HE := hid (show Lib.decDigits u = Lib.decDigits (u / 10) ++ Lib.decDigits (u % 10) from by rw [dec_step h, dec_small (show u % 10 < 10 by omega)])
    obtain ⟨a1, ha1⟩ : ∃ a : Int, a = ((u / 10 : Nat) : Int) := ⟨_, rfl⟩
    obtain ⟨a2, ha2⟩ : ∃ a : Int, a = ((u % 10 : Nat) : Int) := ⟨_, rfl⟩
    rw [← ha1] at D1
    rw [← ha2] at D2
    have q1 : (u : Int) / 10 = a1 := by omega
    have q2 : (u : Int) % 10 = a2 := by omega
    have q3 : (u : Int).tdiv 10 = a1 := by rw [Int.tdiv_eq_ediv_of_nonneg (by omega)]; omega
    have q4 : (u : Int).tmod 10 = a2 := by rw [Int.tmod_eq_emod_of_nonneg (by omega)]; omega
    have q5 : IntKind.u64.wrap a1 = a1 := by rw [IntKind.wrap_u64]; omega
    have q6 : IntKind.u64.wrap a2 = a2 := by rw [IntKind.wrap_u64]; omega
    clear ha1 ha2
    rw [HE.out]
    generalize Lib.decDigits (u / 10) = A at *
    generalize Lib.decDigits (u % 10) = B at *
    have SA := hid (fun w => run_string_add_lists (P := Tryd.prog) w A B (by omega) (by omega))
    clear ih hu h HE
    go_enter Tryd.func54, Tryd.ntmps54
    go_wp2_with fail
    refine (D1.out _).mono ?_
    rintro e w2 ⟨rfl, hb⟩
    have HB2 := hid hb
    clear hb
    go_wp2_with fail
    refine (D2.out _).mono ?_
    rintro e w3 ⟨rfl, hb⟩
    have HB3 := hid (then_ HB2.out hb)
    have SA3 := SA.out w3
    clear hb HB2 SA
    go_wp2_with fail
    go_ret
    exact ⟨rfl, HB3.out⟩
def txP (e : En) (i : Nat) : List UInt8 := wdL e.k ++ Lib.joinTail [32] (((nmL e).map fun x => Lib.decDigits x.toNat).take i)
theorem txP_0 (e : En) : txP e 0 = wdL e.k := by unfold txP Lib.joinTail; simp
theorem txP_n (e : En) : txP e (nmL e).length = txtL e := by unfold txP txtL wrds; rw [List.take_of_length_le (by simp), Lib.join_cons]
theorem txP_s (e : En) {i : Nat} {u : Nat} (h : ((nmL e).map fun x => Value.int .u64 x)[i]? = some (.int .u64 (u : Int))) : txP e (i + 1) = txP e i ++ [32] ++ Lib.decDigits u := by
  unfold txP
  have : ((nmL e).map fun x => Lib.decDigits x.toNat)[i]? = some (Lib.decDigits u) := by
    rw [List.getElem?_map] at h ⊢
    obtain ⟨x, hx, h2⟩ := Option.map_eq_some_iff.1 h
    rw [hx]
    injection h2 with _ h3
    rw [Option.map_some, h3]; simp
  rw [Lib.joinTail_take_succ _ _ _ _ this]
  simp
theorem txP_len (e : En) (h : ∀ x ∈ nmL e, U64 x) (i : Nat) : (txP e i).length ≤ 1000 := by
  have h1 := txt_len h
  unfold txP
  rw [← txP_n] at h1
  unfold txP at h1
  rw [List.length_append] at h1 ⊢
  rw [List.take_of_length_le (by simp)] at h1
  have h2 := Lib.joinTail_take_le [32] ((nmL e).map fun x => Lib.decDigits x.toNat) i
  omega
set_option maxRecDepth 100000 in
set_option maxHeartbeats 4000000 in
theorem rtext_any (e : En) (hu : ∀ x ∈ nmL e, U64 x) (w : World) : Calls Tryd.prog 33 #[enV e] w fun r w' => r = .returned (.string ⟨(txtL e).toArray⟩) ∧ Below w.heap.size w w' := by
  obtain ⟨n, hn⟩ : ∃ n, n = (nmL e).length := ⟨_, rfl⟩
  have hn4 : n ≤ 4 := by rw [hn]; exact nm_len e
  have NU := hid (rnums_any e hu)
  have WD := hid (rword_any e.k)
  have HF := hid (fun k (hk : k < n) => nm_at e hu (by omega : k < (nmL e).length))
  have HS := hid (fun (i u : Nat) h => txP_s e (i := i) (u := u) h)
  have HL := hid (txP_len e hu)
  have H0 := hid (txP_0 e)
  have HN := hid (show txP e n = txtL e from by rw [hn]; exact txP_n e)
  rw [← hn] at NU
  obtain ⟨cs, hcs⟩ : ∃ cs, cs = (nmL e).map fun x => Value.int .u64 x := ⟨_, rfl⟩
  rw [← hcs] at NU HF
  simp only [← hcs] at HS
  obtain ⟨F, hF⟩ : ∃ F, F = txP e := ⟨_, rfl⟩
  rw [← hF] at H0 HN HL
  simp only [← hF] at HS
  rw [← HN.out]
  rw [← H0.out] at WD
  clear hcs hF hn hu H0 HN
  obtain ⟨k, s, a, q, m, ya, yb⟩ := e
  unfold enV at NU ⊢
  simp only at NU WD
  go_enter Tryd.func33, Tryd.ntmps33
  go_upto_region 1 with (fail)
  have CE := hid (Ce.made (w := w) (l := [.int .i64 k, .int .i64 s, .int .i64 a, .int .i64 q, .int .i64 m, .int .u64 ya, .int .u64 yb]) (T := 56) (g := w.heap.size) rfl)
  have HB := hid ((Below.refl w.heap.size w).alloc (Nat.le_refl _) (.cells #[.int .i64 k, .int .i64 s, .int .i64 a, .int .i64 q, .int .i64 m, .int .u64 ya, .int .u64 yb] 56))
  simp only [List.toArray] at CE
  generalize w.alloc (.cells #[.int .i64 k, .int .i64 s, .int .i64 a, .int .i64 q, .int .i64 m, .int .u64 ya, .int .u64 yb] 56) = w1 at *
  have e0 := CE.out.2.1 0 _ rfl
  have e1 := CE.out.2.1 1 _ rfl
  have e2 := CE.out.2.1 2 _ rfl
  have e3 := CE.out.2.1 3 _ rfl
  have e4 := CE.out.2.1 4 _ rfl
  have e5 := CE.out.2.1 5 _ rfl
  have e6 := CE.out.2.1 6 _ rfl
  have ef := CE.out.2.2
  go_wp2_with fail
  refine (WD.out _).mono ?_
  rintro x w' ⟨rfl, rfl⟩
  go_wp2_with fail
  clear e0 e1 e2 e3 e4 e5 e6 ef
  refine (NU.out _).mono ?_
  rintro x w4 ⟨N, rfl, hNl, hn, hb⟩
  have CN4 := hid hn
  have HB4 := hid (HB.out.trans (hb.mono HB.out.size))
  clear hn hb CE NU WD HB
  go_wp2_with fail
  go_loopw [3, 5] (fun s i wr => ∃ k : Nat, k ≤ n ∧ s = .string ⟨(F k).toArray⟩ ∧ i = .int .i64 (k : Int) ∧ Ce wr N cs ∧ Below w.heap.size w wr) (fun _ i _ => n - (intOf i).toNat)
  case atStart => exact ⟨0, by omega, rfl, rfl, CN4.out, HB4.out⟩
  case round =>
    clear CN4 HB4
    obtain ⟨k, hk, rfl, rfl, hce, hb⟩ := hrel
    have CN := hid hce
    have HB := hid hb
    clear hce hb
    by_cases hlt : k < n
    · have i0 : (0 : Int) ≤ k := by omega
      have i1 : (k : Int) < n := by omega
      obtain ⟨u, hu1, hu2, -⟩ := HF.out k hlt
      have HE := hid (HS.out k u hu2)
      have hu2' := hu2
      have hl1 := HL.out k
      have hl2 := dec_len hu1
      have SA1 := run_string_add_lists (P := Tryd.prog) wr (F k) [32] (by omega) (by decide)
      have SA2 := hid (fun w => run_string_add_lists (P := Tryd.prog) w (F k ++ [32]) (Lib.decDigits u) (by simp; omega) (by omega))
      have n0 := CN.out.2.1 k _ hu2
      have DG := hid (fun w => rdig_any u hu1 w)
      clear hu2 hu2' HF HS HL hl1 hl2
      go_wp2_with fail
      refine (DG.out _).mono ?_
      rintro e w5 ⟨rfl, hb⟩
      have CN5 := hid (CN.out.below hb)
      have HB5 := hid (HB.out.trans (hb.mono HB.out.size))
      have SA3 := SA2.out w5
      clear hb CN HB n0 SA1 SA2
      go_wp2_with fail
      go_roundw
      case rel => exact ⟨k + 1, by omega, by rw [HE.out]; simp, by go_num, CN5.out, HB5.out⟩
      case measure => simp [intOf]; omega
    · have e : k = n := by omega
      subst e
      clear HF HS HL
      go_wp2_with fail
      go_ret
      exact ⟨rfl, HB.out⟩
end Go.Proofs.YtljgcffpijjliaaDoor

namespace Go.Proofs.YtljgcffpijjliaaDoor.orderBack
set_option linter.unusedVariables false
set_option linter.unusedSimpArgs false
open Go.RowKit Go.ChangeShapes Go.WideShapes Go.ChangeAt

theorem wrap_U (x : Int) : U64 (IntKind.u64.wrap x) := by unfold U64; rw [IntKind.wrap_u64]; omega
theorem key_U (n : Int) : U64 (kyN n).a ∧ U64 (kyN n).b := by
  refine ⟨wrap_U _, ?_⟩
  unfold U64
  show 0 ≤ (_ : Int) % 18446744073709551616 ∧ (_ : Int) % 18446744073709551616 < 18446744073709551616
  omega
theorem en_u64 (n : Int) : U64 (enN n).y.a ∧ U64 (enN n).y.b := by
  have z : U64 zKy.a ∧ U64 zKy.b := ⟨⟨by decide, by decide⟩, ⟨by decide, by decide⟩⟩
  unfold enN enK
  split <;> first | exact z | exact key_U _
theorem nm_u64 {e : En} (h : chk e = 0) (hy : U64 e.y.a ∧ U64 e.y.b) : ∀ x ∈ nmL e, U64 x := by
  obtain ⟨k1, k6, s0, s63, h6⟩ := chk_ok h
  intro x hx
  unfold nmL at hx
  by_cases h1 : e.k = 1
  · rw [if_pos h1] at hx
    unfold chk at h
    split at h
    · exact absurd h (by decide)
    · split at h
      · exact absurd h (by decide)
      · split at h
        · exact absurd h (by decide)
        · rename_i hm
          simp [h1, mayB, inR] at hm
          unfold U64
          simp at hx
          rcases hx with rfl | rfl | rfl | rfl <;> omega
  · rw [if_neg h1] at hx
    by_cases hk : e.k = 6
    · rw [if_pos hk] at hx
      simp at hx
      rcases hx with rfl | rfl
      · exact hy.1
      · exact hy.2
    · rw [if_neg hk] at hx
      simp at hx
      subst hx
      exact ⟨s0, by omega⟩
theorem ob_facts (e : En) (hy : U64 e.y.a ∧ U64 e.y.b) (hc : chk e = 0) : ∃ X : ByteArray, (∀ w : World, Lib.TabBelow Tryd.prog w.heap.size w "internal/strconv.uint64pow10" .u64 Lib.pow10Tab → Calls Tryd.prog 31 #[enV e] w fun r w' => r = .returned (.string X) ∧ Below w.heap.size w w') ∧
    (∀ (m : Int) (w : World), w.cell? ⟨1, 0, none⟩ = some (.int .i64 m) → Calls Tryd.prog 32 #[.string X] w fun r w' => r = .returned (.tuple #[enV e, .bool true]) ∧ Below w.heap.size w w') ∧
    ∀ w : World, Calls Tryd.prog 33 #[enV e] w fun r w' => r = .returned (.string X) ∧ Below w.heap.size w w' := by
  have hu := nm_u64 hc hy
  exact ⟨⟨(txtL e).toArray⟩, fun w h => text_any e hc hu w h, fun m w h => parse_any e hc hu m w h, fun w => rtext_any e hu w⟩
attribute [local irreducible] PA
set_option maxRecDepth 100000 in
set_option maxHeartbeats 8000000 in
theorem walk (W : World) (hsh : W.ShapedOpen Tryd.prog) (hT : Lib.TabIs Tryd.prog W "internal/strconv.uint64pow10" .u64 Lib.pow10Tab) (a0 : Int) (r_a0 : -9223372036854775808 ≤ a0 ∧ a0 ≤ 9223372036854775807) (b0 : Int) (r_b0 : 0 ≤ b0 ∧ b0 ≤ 18446744073709551615) (d0 : Int) (r_d0 : 0 ≤ d0 ∧ d0 ≤ 18446744073709551615) :
    Calls Tryd.prog 6 #[.int .i64 a0, .int .u64 b0, .int .u64 d0] W fun e w' => e = .returned (.bool true) ∧ Below W.heap.size W w' := by
  have hz : ∀ w : World, (zeroValue 33).run Tryd.prog w = .ok (.agg (PA zPl)) w := fun w => zero_pl w
  have hz1 := pa_size zPl
  have hz2 := pa_ne zPl
  obtain ⟨ml, hml⟩ := Tryd.laysM147.s1_3 W hsh
  have HML := hid hml
  have HTB := hid (Lib.tabBelow_of_tabIs hT)
  clear hml hsh hT
  have EN := hid (fun w => entry_any a0 w)
  have U0 := hid (en_u64 a0)
  obtain ⟨E0, hE0⟩ : ∃ E0, E0 = enN a0 := ⟨_, rfl⟩
  rw [← hE0] at EN U0
  clear hE0
  obtain ⟨k0_, s0_, a0_, q0_, m0_, ⟨y0_, z0_⟩⟩ := E0
  unfold enV at EN
  simp only at EN
  have F0 := hid (ob_facts ⟨k0_, s0_, a0_, q0_, m0_, ⟨y0_, z0_⟩⟩ U0.out)
  have RC0 := hid (fun w => rcheck_any ⟨k0_, s0_, a0_, q0_, m0_, ⟨y0_, z0_⟩⟩ w)
  unfold enV at F0 RC0
  simp only at F0 RC0
  have F1 := hid (ob_facts ⟨6, 0, 0, 0, 0, ⟨b0, d0⟩⟩ ⟨⟨r_b0.1, Int.lt_of_le_of_lt r_b0.2 (by decide)⟩, ⟨r_d0.1, Int.lt_of_le_of_lt r_d0.2 (by decide)⟩⟩)
  have RC1 := hid (fun w => rcheck_any ⟨6, 0, 0, 0, 0, ⟨b0, d0⟩⟩ w)
  unfold enV at F1 RC1
  simp only at F1 RC1
  clear U0 r_a0 r_b0 r_d0
  go_enter Tryd.func6, Tryd.ntmps6
  go_wp2_with fail
  refine (known10_any ml _ HML.out).mono ?_
  rintro x w1 ⟨rfl, hB⟩
  have HB1 := hid hB
  clear hB
  go_wp2_with fail
  refine (EN.out _).mono ?_
  rintro x w2 ⟨rfl, hB⟩
  have HB2 := hid (HB1.out.trans (hB.mono HB1.out.size))
  clear hB HB1 EN
  go_upto_region 4 with (fail)
  have CE := hid (Ce.made (w := w2) (l := [.int .i64 k0_, .int .i64 s0_, .int .i64 a0_, .int .i64 q0_, .int .i64 m0_, .int .u64 y0_, .int .u64 z0_, .int .i64 6, .int .i64 0, .int .i64 0, .int .i64 0, .int .i64 0, .int .u64 b0, .int .u64 d0]) (T := 56) (g := w2.heap.size) rfl)
  have HB := hid (HB2.out.alloc HB2.out.size (.cells #[.int .i64 k0_, .int .i64 s0_, .int .i64 a0_, .int .i64 q0_, .int .i64 m0_, .int .u64 y0_, .int .u64 z0_, .int .i64 6, .int .i64 0, .int .i64 0, .int .i64 0, .int .i64 0, .int .u64 b0, .int .u64 d0] 56))
  simp only [List.toArray] at CE
  generalize w2.alloc (.cells #[.int .i64 k0_, .int .i64 s0_, .int .i64 a0_, .int .i64 q0_, .int .i64 m0_, .int .u64 y0_, .int .u64 z0_, .int .i64 6, .int .i64 0, .int .i64 0, .int .i64 0, .int .i64 0, .int .u64 b0, .int .u64 d0] 56) = w3 at *
  generalize w2.heap.size = L at *
  clear HB2
  go_wp2_with fail
  go_loopw [8] (fun i wr => ∃ k : Nat, k ≤ 2 ∧ i = .int .i64 (k : Int) ∧ Ce wr L [.int .i64 k0_, .int .i64 s0_, .int .i64 a0_, .int .i64 q0_, .int .i64 m0_, .int .u64 y0_, .int .u64 z0_, .int .i64 6, .int .i64 0, .int .i64 0, .int .i64 0, .int .i64 0, .int .u64 b0, .int .u64 d0] ∧ Below W.heap.size W wr) (fun i _ => 2 - (intOf i).toNat)
  case atStart => exact ⟨0, by omega, rfl, CE.out, HB.out⟩
  case round =>
    clear CE HB
    obtain ⟨k, hk, rfl, hce, hb⟩ := hrel
    have CE := hid hce
    have HB := hid hb
    clear hce hb
    have hk3 : k = 0 ∨ k = 1 ∨ k = 2 := by omega
    clear hk
    rcases hk3 with rfl | rfl | rfl
    · clear F1 RC1
      have e0 := CE.out.2.1 0 _ rfl
      have e1 := CE.out.2.1 1 _ rfl
      have e2 := CE.out.2.1 2 _ rfl
      have e3 := CE.out.2.1 3 _ rfl
      have e4 := CE.out.2.1 4 _ rfl
      have e5 := CE.out.2.1 5 _ rfl
      have e6 := CE.out.2.1 6 _ rfl
      by_cases hc : chk ⟨k0_, s0_, a0_, q0_, m0_, ⟨y0_, z0_⟩⟩ = 0
      · obtain ⟨X, TX, PR, RT⟩ := F0.out hc
        rw [hc] at RC0
        clear F0 hc
        replace TX := hid TX
        replace PR := hid PR
        replace RT := hid RT
        go_wp2_with fail
        refine (RC0.out _).mono ?_
        rintro x w4 ⟨rfl, hb⟩
        have CE4 := hid (CE.out.below hb)
        have HB4 := hid (HB.out.trans (hb.mono HB.out.size))
        clear hb CE HB RC0
        clear e0 e1 e2 e3 e4 e5 e6
        have e0 := CE4.out.2.1 0 _ rfl
        have e1 := CE4.out.2.1 1 _ rfl
        have e2 := CE4.out.2.1 2 _ rfl
        have e3 := CE4.out.2.1 3 _ rfl
        have e4 := CE4.out.2.1 4 _ rfl
        have e5 := CE4.out.2.1 5 _ rfl
        have e6 := CE4.out.2.1 6 _ rfl
        go_wp2_with fail
        refine (TX.out _ (fun w' h => HTB.out w' (HB4.out.trans (h.mono HB4.out.size)))).mono ?_
        rintro x w5 ⟨rfl, hb⟩
        have CE5 := hid (CE4.out.below hb)
        have HB5 := hid (HB4.out.trans (hb.mono HB4.out.size))
        clear hb CE4 HB4 TX
        clear e0 e1 e2 e3 e4 e5 e6
        have M5 := hid ((HB5.out.cell (p := ⟨1, 0, none⟩) (World.block_lt_of_cell? _ _ HML.out)).trans HML.out)
        go_wp2_with fail
        refine (PR.out _ _ M5.out).mono ?_
        rintro x w6 ⟨rfl, hb⟩
        have CE6 := hid (CE5.out.below hb)
        have HB6 := hid (HB5.out.trans (hb.mono HB5.out.size))
        clear hb CE5 HB5 PR M5
        go_upto_region 10 with (fail)
        have CX7 := hid (Ce.made (w := w6) (l := [.int .i64 k0_, .int .i64 s0_, .int .i64 a0_, .int .i64 q0_, .int .i64 m0_, .int .u64 y0_, .int .u64 z0_]) (T := 56) (g := w6.heap.size) rfl)
        have CE7 := hid (CE6.out.alloc (.cells #[.int .i64 k0_, .int .i64 s0_, .int .i64 a0_, .int .i64 q0_, .int .i64 m0_, .int .u64 y0_, .int .u64 z0_] 56))
        have HB7 := hid (HB6.out.alloc HB6.out.size (.cells #[.int .i64 k0_, .int .i64 s0_, .int .i64 a0_, .int .i64 q0_, .int .i64 m0_, .int .u64 y0_, .int .u64 z0_] 56))
        simp only [List.toArray] at CX7
        clear CE6 HB6
        generalize w6.alloc (.cells #[.int .i64 k0_, .int .i64 s0_, .int .i64 a0_, .int .i64 q0_, .int .i64 m0_, .int .u64 y0_, .int .u64 z0_] 56) = w7 at *
        generalize w6.heap.size = Y at *
        refine wp_region_held_drew (S := fun w' => Ce w' L [.int .i64 k0_, .int .i64 s0_, .int .i64 a0_, .int .i64 q0_, .int .i64 m0_, .int .u64 y0_, .int .u64 z0_, .int .i64 6, .int .i64 0, .int .i64 0, .int .i64 0, .int .i64 0, .int .u64 b0, .int .u64 d0] ∧ Ce w' Y [.int .i64 k0_, .int .i64 s0_, .int .i64 a0_, .int .i64 q0_, .int .i64 m0_, .int .u64 y0_, .int .u64 z0_] ∧ Below W.heap.size W w') (by kernel_rfl) ?_ (fun hHeld => ?_)
        · exact ⟨CE7.out, CX7.out, by have := below_drewN HB7.out 1; exact this⟩
        refine tk 0 (v := ?_) rfl (by kernel_rfl) (by kernel_rfl) (by kernel_rfl) (fun _ _ _ h => h) rfl ?_ hHeld ?_; rotate_left; (focus (intro w hSw; (try dsimp only at hSw); have e0_ := hSw.1.2.1 0 _ rfl; have x0_ := hSw.2.1.2.1 0 _ rfl; have e1_ := hSw.1.2.1 1 _ rfl; have x1_ := hSw.2.1.2.1 1 _ rfl; have e2_ := hSw.1.2.1 2 _ rfl; have x2_ := hSw.2.1.2.1 2 _ rfl; have e3_ := hSw.1.2.1 3 _ rfl; have x3_ := hSw.2.1.2.1 3 _ rfl; have e4_ := hSw.1.2.1 4 _ rfl; have x4_ := hSw.2.1.2.1 4 _ rfl; have e5_ := hSw.1.2.1 5 _ rfl; have x5_ := hSw.2.1.2.1 5 _ rfl; have e6_ := hSw.1.2.1 6 _ rfl; have x6_ := hSw.2.1.2.1 6 _ rfl;  go_simp; (try with_reducible rfl))); (try simp only [Act.put, List.setIfInBounds_toArray, List.set_cons_zero, List.set_cons_succ])
        refine tk 1 (v := ?_) rfl (by kernel_rfl) (by kernel_rfl) (by kernel_rfl) (fun _ _ _ h => h) rfl ?_ hHeld ?_; rotate_left; (focus (intro w hSw; (try dsimp only at hSw); have e0_ := hSw.1.2.1 0 _ rfl; have x0_ := hSw.2.1.2.1 0 _ rfl; have e1_ := hSw.1.2.1 1 _ rfl; have x1_ := hSw.2.1.2.1 1 _ rfl; have e2_ := hSw.1.2.1 2 _ rfl; have x2_ := hSw.2.1.2.1 2 _ rfl; have e3_ := hSw.1.2.1 3 _ rfl; have x3_ := hSw.2.1.2.1 3 _ rfl; have e4_ := hSw.1.2.1 4 _ rfl; have x4_ := hSw.2.1.2.1 4 _ rfl; have e5_ := hSw.1.2.1 5 _ rfl; have x5_ := hSw.2.1.2.1 5 _ rfl; have e6_ := hSw.1.2.1 6 _ rfl; have x6_ := hSw.2.1.2.1 6 _ rfl;  go_simp; (try with_reducible rfl))); (try simp only [Act.put, List.setIfInBounds_toArray, List.set_cons_zero, List.set_cons_succ])
        refine tk 2 (v := ?_) rfl (by kernel_rfl) (by kernel_rfl) (by kernel_rfl) (fun _ _ _ h => h) rfl ?_ hHeld ?_; rotate_left; (focus (intro w hSw; (try dsimp only at hSw); have e0_ := hSw.1.2.1 0 _ rfl; have x0_ := hSw.2.1.2.1 0 _ rfl; have e1_ := hSw.1.2.1 1 _ rfl; have x1_ := hSw.2.1.2.1 1 _ rfl; have e2_ := hSw.1.2.1 2 _ rfl; have x2_ := hSw.2.1.2.1 2 _ rfl; have e3_ := hSw.1.2.1 3 _ rfl; have x3_ := hSw.2.1.2.1 3 _ rfl; have e4_ := hSw.1.2.1 4 _ rfl; have x4_ := hSw.2.1.2.1 4 _ rfl; have e5_ := hSw.1.2.1 5 _ rfl; have x5_ := hSw.2.1.2.1 5 _ rfl; have e6_ := hSw.1.2.1 6 _ rfl; have x6_ := hSw.2.1.2.1 6 _ rfl;  go_simp; (try with_reducible rfl))); (try simp only [Act.put, List.setIfInBounds_toArray, List.set_cons_zero, List.set_cons_succ])
        refine tk 3 (v := ?_) rfl (by kernel_rfl) (by kernel_rfl) (by kernel_rfl) (fun _ _ _ h => h) rfl ?_ hHeld ?_; rotate_left; (focus (intro w hSw; (try dsimp only at hSw); have e0_ := hSw.1.2.1 0 _ rfl; have x0_ := hSw.2.1.2.1 0 _ rfl; have e1_ := hSw.1.2.1 1 _ rfl; have x1_ := hSw.2.1.2.1 1 _ rfl; have e2_ := hSw.1.2.1 2 _ rfl; have x2_ := hSw.2.1.2.1 2 _ rfl; have e3_ := hSw.1.2.1 3 _ rfl; have x3_ := hSw.2.1.2.1 3 _ rfl; have e4_ := hSw.1.2.1 4 _ rfl; have x4_ := hSw.2.1.2.1 4 _ rfl; have e5_ := hSw.1.2.1 5 _ rfl; have x5_ := hSw.2.1.2.1 5 _ rfl; have e6_ := hSw.1.2.1 6 _ rfl; have x6_ := hSw.2.1.2.1 6 _ rfl;  go_simp; (try with_reducible rfl))); (try simp only [Act.put, List.setIfInBounds_toArray, List.set_cons_zero, List.set_cons_succ])
        refine tk 4 (v := ?_) rfl (by kernel_rfl) (by kernel_rfl) (by kernel_rfl) (fun _ _ _ h => h) rfl ?_ hHeld ?_; rotate_left; (focus (intro w hSw; (try dsimp only at hSw); have e0_ := hSw.1.2.1 0 _ rfl; have x0_ := hSw.2.1.2.1 0 _ rfl; have e1_ := hSw.1.2.1 1 _ rfl; have x1_ := hSw.2.1.2.1 1 _ rfl; have e2_ := hSw.1.2.1 2 _ rfl; have x2_ := hSw.2.1.2.1 2 _ rfl; have e3_ := hSw.1.2.1 3 _ rfl; have x3_ := hSw.2.1.2.1 3 _ rfl; have e4_ := hSw.1.2.1 4 _ rfl; have x4_ := hSw.2.1.2.1 4 _ rfl; have e5_ := hSw.1.2.1 5 _ rfl; have x5_ := hSw.2.1.2.1 5 _ rfl; have e6_ := hSw.1.2.1 6 _ rfl; have x6_ := hSw.2.1.2.1 6 _ rfl;  go_simp; (try with_reducible rfl))); (try simp only [Act.put, List.setIfInBounds_toArray, List.set_cons_zero, List.set_cons_succ])
        refine only 5 rfl (by kernel_rfl) rfl (fun K hK => ?_)
        go_simp
        refine (RT.out _).mono ?_
        rintro e' w' ⟨rfl, hb⟩
        try go_wp2_with fail
        refine hK.out _ _ ⟨Ce.below hHeld.1 hb, Ce.below hHeld.2.1 hb, hHeld.2.2.trans (hb.mono hHeld.2.2.size)⟩ (fun h2 => ?_)
        clear hK hb
        try simp only [Act.put, List.setIfInBounds_toArray, List.set_cons_zero, List.set_cons_succ]
        refine tk 6 (v := ?_) rfl (by kernel_rfl) (by kernel_rfl) (by kernel_rfl) (fun _ _ _ h => h) rfl ?_ h2 ?_; rotate_left; (focus (intro w hSw; (try dsimp only at hSw); have e0_ := hSw.1.2.1 0 _ rfl; have x0_ := hSw.2.1.2.1 0 _ rfl; have e1_ := hSw.1.2.1 1 _ rfl; have x1_ := hSw.2.1.2.1 1 _ rfl; have e2_ := hSw.1.2.1 2 _ rfl; have x2_ := hSw.2.1.2.1 2 _ rfl; have e3_ := hSw.1.2.1 3 _ rfl; have x3_ := hSw.2.1.2.1 3 _ rfl; have e4_ := hSw.1.2.1 4 _ rfl; have x4_ := hSw.2.1.2.1 4 _ rfl; have e5_ := hSw.1.2.1 5 _ rfl; have x5_ := hSw.2.1.2.1 5 _ rfl; have e6_ := hSw.1.2.1 6 _ rfl; have x6_ := hSw.2.1.2.1 6 _ rfl;  go_simp; (try with_reducible rfl))); (try simp only [Act.put, List.setIfInBounds_toArray, List.set_cons_zero, List.set_cons_succ])
        refine tk 7 (v := ?_) rfl (by kernel_rfl) (by kernel_rfl) (by kernel_rfl) (fun _ _ _ h => h) rfl ?_ h2 ?_; rotate_left; (focus (intro w hSw; (try dsimp only at hSw); have e0_ := hSw.1.2.1 0 _ rfl; have x0_ := hSw.2.1.2.1 0 _ rfl; have e1_ := hSw.1.2.1 1 _ rfl; have x1_ := hSw.2.1.2.1 1 _ rfl; have e2_ := hSw.1.2.1 2 _ rfl; have x2_ := hSw.2.1.2.1 2 _ rfl; have e3_ := hSw.1.2.1 3 _ rfl; have x3_ := hSw.2.1.2.1 3 _ rfl; have e4_ := hSw.1.2.1 4 _ rfl; have x4_ := hSw.2.1.2.1 4 _ rfl; have e5_ := hSw.1.2.1 5 _ rfl; have x5_ := hSw.2.1.2.1 5 _ rfl; have e6_ := hSw.1.2.1 6 _ rfl; have x6_ := hSw.2.1.2.1 6 _ rfl;  go_simp; (try with_reducible rfl))); (try simp only [Act.put, List.setIfInBounds_toArray, List.set_cons_zero, List.set_cons_succ])
        refine tk 8 (v := ?_) rfl (by kernel_rfl) (by kernel_rfl) (by kernel_rfl) (fun _ _ _ h => h) rfl ?_ h2 ?_; rotate_left; (focus (intro w hSw; (try dsimp only at hSw); have e0_ := hSw.1.2.1 0 _ rfl; have x0_ := hSw.2.1.2.1 0 _ rfl; have e1_ := hSw.1.2.1 1 _ rfl; have x1_ := hSw.2.1.2.1 1 _ rfl; have e2_ := hSw.1.2.1 2 _ rfl; have x2_ := hSw.2.1.2.1 2 _ rfl; have e3_ := hSw.1.2.1 3 _ rfl; have x3_ := hSw.2.1.2.1 3 _ rfl; have e4_ := hSw.1.2.1 4 _ rfl; have x4_ := hSw.2.1.2.1 4 _ rfl; have e5_ := hSw.1.2.1 5 _ rfl; have x5_ := hSw.2.1.2.1 5 _ rfl; have e6_ := hSw.1.2.1 6 _ rfl; have x6_ := hSw.2.1.2.1 6 _ rfl;  go_simp; (try with_reducible rfl))); (try simp only [Act.put, List.setIfInBounds_toArray, List.set_cons_zero, List.set_cons_succ])
        refine tk 9 (v := ?_) rfl (by kernel_rfl) (by kernel_rfl) (by kernel_rfl) (fun _ _ _ h => h) rfl ?_ h2 ?_; rotate_left; (focus (intro w hSw; (try dsimp only at hSw); have e0_ := hSw.1.2.1 0 _ rfl; have x0_ := hSw.2.1.2.1 0 _ rfl; have e1_ := hSw.1.2.1 1 _ rfl; have x1_ := hSw.2.1.2.1 1 _ rfl; have e2_ := hSw.1.2.1 2 _ rfl; have x2_ := hSw.2.1.2.1 2 _ rfl; have e3_ := hSw.1.2.1 3 _ rfl; have x3_ := hSw.2.1.2.1 3 _ rfl; have e4_ := hSw.1.2.1 4 _ rfl; have x4_ := hSw.2.1.2.1 4 _ rfl; have e5_ := hSw.1.2.1 5 _ rfl; have x5_ := hSw.2.1.2.1 5 _ rfl; have e6_ := hSw.1.2.1 6 _ rfl; have x6_ := hSw.2.1.2.1 6 _ rfl;  go_simp; (try with_reducible rfl))); (try simp only [Act.put, List.setIfInBounds_toArray, List.set_cons_zero, List.set_cons_succ])
        refine tk 10 (v := ?_) rfl (by kernel_rfl) (by kernel_rfl) (by kernel_rfl) (fun _ _ _ h => h) rfl ?_ h2 ?_; rotate_left; (focus (intro w hSw; (try dsimp only at hSw); have e0_ := hSw.1.2.1 0 _ rfl; have x0_ := hSw.2.1.2.1 0 _ rfl; have e1_ := hSw.1.2.1 1 _ rfl; have x1_ := hSw.2.1.2.1 1 _ rfl; have e2_ := hSw.1.2.1 2 _ rfl; have x2_ := hSw.2.1.2.1 2 _ rfl; have e3_ := hSw.1.2.1 3 _ rfl; have x3_ := hSw.2.1.2.1 3 _ rfl; have e4_ := hSw.1.2.1 4 _ rfl; have x4_ := hSw.2.1.2.1 4 _ rfl; have e5_ := hSw.1.2.1 5 _ rfl; have x5_ := hSw.2.1.2.1 5 _ rfl; have e6_ := hSw.1.2.1 6 _ rfl; have x6_ := hSw.2.1.2.1 6 _ rfl;  go_simp; (try with_reducible rfl))); (try simp only [Act.put, List.setIfInBounds_toArray, List.set_cons_zero, List.set_cons_succ])
        refine tk 11 (v := ?_) rfl (by kernel_rfl) (by kernel_rfl) (by kernel_rfl) (fun _ _ _ h => h) rfl ?_ h2 ?_; rotate_left; (focus (intro w hSw; (try dsimp only at hSw); have e0_ := hSw.1.2.1 0 _ rfl; have x0_ := hSw.2.1.2.1 0 _ rfl; have e1_ := hSw.1.2.1 1 _ rfl; have x1_ := hSw.2.1.2.1 1 _ rfl; have e2_ := hSw.1.2.1 2 _ rfl; have x2_ := hSw.2.1.2.1 2 _ rfl; have e3_ := hSw.1.2.1 3 _ rfl; have x3_ := hSw.2.1.2.1 3 _ rfl; have e4_ := hSw.1.2.1 4 _ rfl; have x4_ := hSw.2.1.2.1 4 _ rfl; have e5_ := hSw.1.2.1 5 _ rfl; have x5_ := hSw.2.1.2.1 5 _ rfl; have e6_ := hSw.1.2.1 6 _ rfl; have x6_ := hSw.2.1.2.1 6 _ rfl;  go_simp; (try with_reducible rfl))); (try simp only [Act.put, List.setIfInBounds_toArray, List.set_cons_zero, List.set_cons_succ])
        refine tk 12 (v := ?_) rfl (by kernel_rfl) (by kernel_rfl) (by kernel_rfl) (fun _ _ _ h => h) rfl ?_ h2 ?_; rotate_left; (focus (intro w hSw; (try dsimp only at hSw); have e0_ := hSw.1.2.1 0 _ rfl; have x0_ := hSw.2.1.2.1 0 _ rfl; have e1_ := hSw.1.2.1 1 _ rfl; have x1_ := hSw.2.1.2.1 1 _ rfl; have e2_ := hSw.1.2.1 2 _ rfl; have x2_ := hSw.2.1.2.1 2 _ rfl; have e3_ := hSw.1.2.1 3 _ rfl; have x3_ := hSw.2.1.2.1 3 _ rfl; have e4_ := hSw.1.2.1 4 _ rfl; have x4_ := hSw.2.1.2.1 4 _ rfl; have e5_ := hSw.1.2.1 5 _ rfl; have x5_ := hSw.2.1.2.1 5 _ rfl; have e6_ := hSw.1.2.1 6 _ rfl; have x6_ := hSw.2.1.2.1 6 _ rfl;  go_simp; (try with_reducible rfl))); (try simp only [Act.put, List.setIfInBounds_toArray, List.set_cons_zero, List.set_cons_succ])
        refine tk 13 (v := ?_) rfl (by kernel_rfl) (by kernel_rfl) (by kernel_rfl) (fun _ _ _ h => h) rfl ?_ h2 ?_; rotate_left; (focus (intro w hSw; (try dsimp only at hSw); have e0_ := hSw.1.2.1 0 _ rfl; have x0_ := hSw.2.1.2.1 0 _ rfl; have e1_ := hSw.1.2.1 1 _ rfl; have x1_ := hSw.2.1.2.1 1 _ rfl; have e2_ := hSw.1.2.1 2 _ rfl; have x2_ := hSw.2.1.2.1 2 _ rfl; have e3_ := hSw.1.2.1 3 _ rfl; have x3_ := hSw.2.1.2.1 3 _ rfl; have e4_ := hSw.1.2.1 4 _ rfl; have x4_ := hSw.2.1.2.1 4 _ rfl; have e5_ := hSw.1.2.1 5 _ rfl; have x5_ := hSw.2.1.2.1 5 _ rfl; have e6_ := hSw.1.2.1 6 _ rfl; have x6_ := hSw.2.1.2.1 6 _ rfl;  go_simp; (try with_reducible rfl))); (try simp only [Act.put, List.setIfInBounds_toArray, List.set_cons_zero, List.set_cons_succ])
        refine tk 14 (v := ?_) rfl (by kernel_rfl) (by kernel_rfl) (by kernel_rfl) (fun _ _ _ h => h) rfl ?_ h2 ?_; rotate_left; (focus (intro w hSw; (try dsimp only at hSw); have e0_ := hSw.1.2.1 0 _ rfl; have x0_ := hSw.2.1.2.1 0 _ rfl; have e1_ := hSw.1.2.1 1 _ rfl; have x1_ := hSw.2.1.2.1 1 _ rfl; have e2_ := hSw.1.2.1 2 _ rfl; have x2_ := hSw.2.1.2.1 2 _ rfl; have e3_ := hSw.1.2.1 3 _ rfl; have x3_ := hSw.2.1.2.1 3 _ rfl; have e4_ := hSw.1.2.1 4 _ rfl; have x4_ := hSw.2.1.2.1 4 _ rfl; have e5_ := hSw.1.2.1 5 _ rfl; have x5_ := hSw.2.1.2.1 5 _ rfl; have e6_ := hSw.1.2.1 6 _ rfl; have x6_ := hSw.2.1.2.1 6 _ rfl;  go_simp; (try with_reducible rfl))); (try simp only [Act.put, List.setIfInBounds_toArray, List.set_cons_zero, List.set_cons_succ])
        refine tk 15 (v := ?_) rfl (by kernel_rfl) (by kernel_rfl) (by kernel_rfl) (fun _ _ _ h => h) rfl ?_ h2 ?_; rotate_left; (focus (intro w hSw; (try dsimp only at hSw); have e0_ := hSw.1.2.1 0 _ rfl; have x0_ := hSw.2.1.2.1 0 _ rfl; have e1_ := hSw.1.2.1 1 _ rfl; have x1_ := hSw.2.1.2.1 1 _ rfl; have e2_ := hSw.1.2.1 2 _ rfl; have x2_ := hSw.2.1.2.1 2 _ rfl; have e3_ := hSw.1.2.1 3 _ rfl; have x3_ := hSw.2.1.2.1 3 _ rfl; have e4_ := hSw.1.2.1 4 _ rfl; have x4_ := hSw.2.1.2.1 4 _ rfl; have e5_ := hSw.1.2.1 5 _ rfl; have x5_ := hSw.2.1.2.1 5 _ rfl; have e6_ := hSw.1.2.1 6 _ rfl; have x6_ := hSw.2.1.2.1 6 _ rfl;  go_simp; (try with_reducible rfl))); (try simp only [Act.put, List.setIfInBounds_toArray, List.set_cons_zero, List.set_cons_succ])
        refine tk 16 (v := ?_) rfl (by kernel_rfl) (by kernel_rfl) (by kernel_rfl) (fun _ _ _ h => h) rfl ?_ h2 ?_; rotate_left; (focus (intro w hSw; (try dsimp only at hSw); have e0_ := hSw.1.2.1 0 _ rfl; have x0_ := hSw.2.1.2.1 0 _ rfl; have e1_ := hSw.1.2.1 1 _ rfl; have x1_ := hSw.2.1.2.1 1 _ rfl; have e2_ := hSw.1.2.1 2 _ rfl; have x2_ := hSw.2.1.2.1 2 _ rfl; have e3_ := hSw.1.2.1 3 _ rfl; have x3_ := hSw.2.1.2.1 3 _ rfl; have e4_ := hSw.1.2.1 4 _ rfl; have x4_ := hSw.2.1.2.1 4 _ rfl; have e5_ := hSw.1.2.1 5 _ rfl; have x5_ := hSw.2.1.2.1 5 _ rfl; have e6_ := hSw.1.2.1 6 _ rfl; have x6_ := hSw.2.1.2.1 6 _ rfl;  go_simp; (try with_reducible rfl))); (try simp only [Act.put, List.setIfInBounds_toArray, List.set_cons_zero, List.set_cons_succ])
        refine tk 17 (v := ?_) rfl (by kernel_rfl) (by kernel_rfl) (by kernel_rfl) (fun _ _ _ h => h) rfl ?_ h2 ?_; rotate_left; (focus (intro w hSw; (try dsimp only at hSw); have e0_ := hSw.1.2.1 0 _ rfl; have x0_ := hSw.2.1.2.1 0 _ rfl; have e1_ := hSw.1.2.1 1 _ rfl; have x1_ := hSw.2.1.2.1 1 _ rfl; have e2_ := hSw.1.2.1 2 _ rfl; have x2_ := hSw.2.1.2.1 2 _ rfl; have e3_ := hSw.1.2.1 3 _ rfl; have x3_ := hSw.2.1.2.1 3 _ rfl; have e4_ := hSw.1.2.1 4 _ rfl; have x4_ := hSw.2.1.2.1 4 _ rfl; have e5_ := hSw.1.2.1 5 _ rfl; have x5_ := hSw.2.1.2.1 5 _ rfl; have e6_ := hSw.1.2.1 6 _ rfl; have x6_ := hSw.2.1.2.1 6 _ rfl;  go_simp; (try with_reducible rfl))); (try simp only [Act.put, List.setIfInBounds_toArray, List.set_cons_zero, List.set_cons_succ])
        refine tk 18 (v := ?_) rfl (by kernel_rfl) (by kernel_rfl) (by kernel_rfl) (fun _ _ _ h => h) rfl ?_ h2 ?_; rotate_left; (focus (intro w hSw; (try dsimp only at hSw); have e0_ := hSw.1.2.1 0 _ rfl; have x0_ := hSw.2.1.2.1 0 _ rfl; have e1_ := hSw.1.2.1 1 _ rfl; have x1_ := hSw.2.1.2.1 1 _ rfl; have e2_ := hSw.1.2.1 2 _ rfl; have x2_ := hSw.2.1.2.1 2 _ rfl; have e3_ := hSw.1.2.1 3 _ rfl; have x3_ := hSw.2.1.2.1 3 _ rfl; have e4_ := hSw.1.2.1 4 _ rfl; have x4_ := hSw.2.1.2.1 4 _ rfl; have e5_ := hSw.1.2.1 5 _ rfl; have x5_ := hSw.2.1.2.1 5 _ rfl; have e6_ := hSw.1.2.1 6 _ rfl; have x6_ := hSw.2.1.2.1 6 _ rfl;  go_simp; (try with_reducible rfl))); (try simp only [Act.put, List.setIfInBounds_toArray, List.set_cons_zero, List.set_cons_succ])
        refine wpAnyH_done (by kernel_rfl) ?_ _
        go_wp2_with fail
        go_roundw
        case rel => exact ⟨1, by omega, by go_num, h2.1, h2.2.2⟩
        case measure => simp [intOf]
      · obtain ⟨c, hcc⟩ : ∃ c, c = chk ⟨k0_, s0_, a0_, q0_, m0_, ⟨y0_, z0_⟩⟩ := ⟨_, rfl⟩
        rw [← hcc] at RC0 hc
        have cb : (c == 0) = false := by simpa using hc
        clear hcc F0
        go_wp2_with fail
        refine (RC0.out _).mono ?_
        rintro x w4 ⟨rfl, hb⟩
        have CE4 := hid (CE.out.below hb)
        have HB4 := hid (HB.out.trans (hb.mono HB.out.size))
        clear hb CE HB RC0
        clear e0 e1 e2 e3 e4 e5 e6
        go_wp2_with fail
        go_roundw
        case rel => exact ⟨1, by omega, by go_num, CE4.out, HB4.out⟩
        case measure => simp [intOf]
    · clear F0 RC0
      have e0 := CE.out.2.1 7 _ rfl
      have e1 := CE.out.2.1 8 _ rfl
      have e2 := CE.out.2.1 9 _ rfl
      have e3 := CE.out.2.1 10 _ rfl
      have e4 := CE.out.2.1 11 _ rfl
      have e5 := CE.out.2.1 12 _ rfl
      have e6 := CE.out.2.1 13 _ rfl
      by_cases hc : chk ⟨6, 0, 0, 0, 0, ⟨b0, d0⟩⟩ = 0
      · obtain ⟨X, TX, PR, RT⟩ := F1.out hc
        rw [hc] at RC1
        clear F1 hc
        replace TX := hid TX
        replace PR := hid PR
        replace RT := hid RT
        go_wp2_with fail
        refine (RC1.out _).mono ?_
        rintro x w4 ⟨rfl, hb⟩
        have CE4 := hid (CE.out.below hb)
        have HB4 := hid (HB.out.trans (hb.mono HB.out.size))
        clear hb CE HB RC1
        clear e0 e1 e2 e3 e4 e5 e6
        have e0 := CE4.out.2.1 7 _ rfl
        have e1 := CE4.out.2.1 8 _ rfl
        have e2 := CE4.out.2.1 9 _ rfl
        have e3 := CE4.out.2.1 10 _ rfl
        have e4 := CE4.out.2.1 11 _ rfl
        have e5 := CE4.out.2.1 12 _ rfl
        have e6 := CE4.out.2.1 13 _ rfl
        go_wp2_with fail
        refine (TX.out _ (fun w' h => HTB.out w' (HB4.out.trans (h.mono HB4.out.size)))).mono ?_
        rintro x w5 ⟨rfl, hb⟩
        have CE5 := hid (CE4.out.below hb)
        have HB5 := hid (HB4.out.trans (hb.mono HB4.out.size))
        clear hb CE4 HB4 TX
        clear e0 e1 e2 e3 e4 e5 e6
        have M5 := hid ((HB5.out.cell (p := ⟨1, 0, none⟩) (World.block_lt_of_cell? _ _ HML.out)).trans HML.out)
        go_wp2_with fail
        refine (PR.out _ _ M5.out).mono ?_
        rintro x w6 ⟨rfl, hb⟩
        have CE6 := hid (CE5.out.below hb)
        have HB6 := hid (HB5.out.trans (hb.mono HB5.out.size))
        clear hb CE5 HB5 PR M5
        go_upto_region 10 with (fail)
        have CX7 := hid (Ce.made (w := w6) (l := [.int .i64 6, .int .i64 0, .int .i64 0, .int .i64 0, .int .i64 0, .int .u64 b0, .int .u64 d0]) (T := 56) (g := w6.heap.size) rfl)
        have CE7 := hid (CE6.out.alloc (.cells #[.int .i64 6, .int .i64 0, .int .i64 0, .int .i64 0, .int .i64 0, .int .u64 b0, .int .u64 d0] 56))
        have HB7 := hid (HB6.out.alloc HB6.out.size (.cells #[.int .i64 6, .int .i64 0, .int .i64 0, .int .i64 0, .int .i64 0, .int .u64 b0, .int .u64 d0] 56))
        simp only [List.toArray] at CX7
        clear CE6 HB6
        generalize w6.alloc (.cells #[.int .i64 6, .int .i64 0, .int .i64 0, .int .i64 0, .int .i64 0, .int .u64 b0, .int .u64 d0] 56) = w7 at *
        generalize w6.heap.size = Y at *
        refine wp_region_held_drew (S := fun w' => Ce w' L [.int .i64 k0_, .int .i64 s0_, .int .i64 a0_, .int .i64 q0_, .int .i64 m0_, .int .u64 y0_, .int .u64 z0_, .int .i64 6, .int .i64 0, .int .i64 0, .int .i64 0, .int .i64 0, .int .u64 b0, .int .u64 d0] ∧ Ce w' Y [.int .i64 6, .int .i64 0, .int .i64 0, .int .i64 0, .int .i64 0, .int .u64 b0, .int .u64 d0] ∧ Below W.heap.size W w') (by kernel_rfl) ?_ (fun hHeld => ?_)
        · exact ⟨CE7.out, CX7.out, by have := below_drewN HB7.out 1; exact this⟩
        refine tk 0 (v := ?_) rfl (by kernel_rfl) (by kernel_rfl) (by kernel_rfl) (fun _ _ _ h => h) rfl ?_ hHeld ?_; rotate_left; (focus (intro w hSw; (try dsimp only at hSw); have e0_ := hSw.1.2.1 7 _ rfl; have x0_ := hSw.2.1.2.1 0 _ rfl; have e1_ := hSw.1.2.1 8 _ rfl; have x1_ := hSw.2.1.2.1 1 _ rfl; have e2_ := hSw.1.2.1 9 _ rfl; have x2_ := hSw.2.1.2.1 2 _ rfl; have e3_ := hSw.1.2.1 10 _ rfl; have x3_ := hSw.2.1.2.1 3 _ rfl; have e4_ := hSw.1.2.1 11 _ rfl; have x4_ := hSw.2.1.2.1 4 _ rfl; have e5_ := hSw.1.2.1 12 _ rfl; have x5_ := hSw.2.1.2.1 5 _ rfl; have e6_ := hSw.1.2.1 13 _ rfl; have x6_ := hSw.2.1.2.1 6 _ rfl;  go_simp; (try with_reducible rfl))); (try simp only [Act.put, List.setIfInBounds_toArray, List.set_cons_zero, List.set_cons_succ])
        refine tk 1 (v := ?_) rfl (by kernel_rfl) (by kernel_rfl) (by kernel_rfl) (fun _ _ _ h => h) rfl ?_ hHeld ?_; rotate_left; (focus (intro w hSw; (try dsimp only at hSw); have e0_ := hSw.1.2.1 7 _ rfl; have x0_ := hSw.2.1.2.1 0 _ rfl; have e1_ := hSw.1.2.1 8 _ rfl; have x1_ := hSw.2.1.2.1 1 _ rfl; have e2_ := hSw.1.2.1 9 _ rfl; have x2_ := hSw.2.1.2.1 2 _ rfl; have e3_ := hSw.1.2.1 10 _ rfl; have x3_ := hSw.2.1.2.1 3 _ rfl; have e4_ := hSw.1.2.1 11 _ rfl; have x4_ := hSw.2.1.2.1 4 _ rfl; have e5_ := hSw.1.2.1 12 _ rfl; have x5_ := hSw.2.1.2.1 5 _ rfl; have e6_ := hSw.1.2.1 13 _ rfl; have x6_ := hSw.2.1.2.1 6 _ rfl;  go_simp; (try with_reducible rfl))); (try simp only [Act.put, List.setIfInBounds_toArray, List.set_cons_zero, List.set_cons_succ])
        refine tk 2 (v := ?_) rfl (by kernel_rfl) (by kernel_rfl) (by kernel_rfl) (fun _ _ _ h => h) rfl ?_ hHeld ?_; rotate_left; (focus (intro w hSw; (try dsimp only at hSw); have e0_ := hSw.1.2.1 7 _ rfl; have x0_ := hSw.2.1.2.1 0 _ rfl; have e1_ := hSw.1.2.1 8 _ rfl; have x1_ := hSw.2.1.2.1 1 _ rfl; have e2_ := hSw.1.2.1 9 _ rfl; have x2_ := hSw.2.1.2.1 2 _ rfl; have e3_ := hSw.1.2.1 10 _ rfl; have x3_ := hSw.2.1.2.1 3 _ rfl; have e4_ := hSw.1.2.1 11 _ rfl; have x4_ := hSw.2.1.2.1 4 _ rfl; have e5_ := hSw.1.2.1 12 _ rfl; have x5_ := hSw.2.1.2.1 5 _ rfl; have e6_ := hSw.1.2.1 13 _ rfl; have x6_ := hSw.2.1.2.1 6 _ rfl;  go_simp; (try with_reducible rfl))); (try simp only [Act.put, List.setIfInBounds_toArray, List.set_cons_zero, List.set_cons_succ])
        refine tk 3 (v := ?_) rfl (by kernel_rfl) (by kernel_rfl) (by kernel_rfl) (fun _ _ _ h => h) rfl ?_ hHeld ?_; rotate_left; (focus (intro w hSw; (try dsimp only at hSw); have e0_ := hSw.1.2.1 7 _ rfl; have x0_ := hSw.2.1.2.1 0 _ rfl; have e1_ := hSw.1.2.1 8 _ rfl; have x1_ := hSw.2.1.2.1 1 _ rfl; have e2_ := hSw.1.2.1 9 _ rfl; have x2_ := hSw.2.1.2.1 2 _ rfl; have e3_ := hSw.1.2.1 10 _ rfl; have x3_ := hSw.2.1.2.1 3 _ rfl; have e4_ := hSw.1.2.1 11 _ rfl; have x4_ := hSw.2.1.2.1 4 _ rfl; have e5_ := hSw.1.2.1 12 _ rfl; have x5_ := hSw.2.1.2.1 5 _ rfl; have e6_ := hSw.1.2.1 13 _ rfl; have x6_ := hSw.2.1.2.1 6 _ rfl;  go_simp; (try with_reducible rfl))); (try simp only [Act.put, List.setIfInBounds_toArray, List.set_cons_zero, List.set_cons_succ])
        refine tk 4 (v := ?_) rfl (by kernel_rfl) (by kernel_rfl) (by kernel_rfl) (fun _ _ _ h => h) rfl ?_ hHeld ?_; rotate_left; (focus (intro w hSw; (try dsimp only at hSw); have e0_ := hSw.1.2.1 7 _ rfl; have x0_ := hSw.2.1.2.1 0 _ rfl; have e1_ := hSw.1.2.1 8 _ rfl; have x1_ := hSw.2.1.2.1 1 _ rfl; have e2_ := hSw.1.2.1 9 _ rfl; have x2_ := hSw.2.1.2.1 2 _ rfl; have e3_ := hSw.1.2.1 10 _ rfl; have x3_ := hSw.2.1.2.1 3 _ rfl; have e4_ := hSw.1.2.1 11 _ rfl; have x4_ := hSw.2.1.2.1 4 _ rfl; have e5_ := hSw.1.2.1 12 _ rfl; have x5_ := hSw.2.1.2.1 5 _ rfl; have e6_ := hSw.1.2.1 13 _ rfl; have x6_ := hSw.2.1.2.1 6 _ rfl;  go_simp; (try with_reducible rfl))); (try simp only [Act.put, List.setIfInBounds_toArray, List.set_cons_zero, List.set_cons_succ])
        refine only 5 rfl (by kernel_rfl) rfl (fun K hK => ?_)
        go_simp
        refine (RT.out _).mono ?_
        rintro e' w' ⟨rfl, hb⟩
        try go_wp2_with fail
        refine hK.out _ _ ⟨Ce.below hHeld.1 hb, Ce.below hHeld.2.1 hb, hHeld.2.2.trans (hb.mono hHeld.2.2.size)⟩ (fun h2 => ?_)
        clear hK hb
        try simp only [Act.put, List.setIfInBounds_toArray, List.set_cons_zero, List.set_cons_succ]
        refine tk 6 (v := ?_) rfl (by kernel_rfl) (by kernel_rfl) (by kernel_rfl) (fun _ _ _ h => h) rfl ?_ h2 ?_; rotate_left; (focus (intro w hSw; (try dsimp only at hSw); have e0_ := hSw.1.2.1 7 _ rfl; have x0_ := hSw.2.1.2.1 0 _ rfl; have e1_ := hSw.1.2.1 8 _ rfl; have x1_ := hSw.2.1.2.1 1 _ rfl; have e2_ := hSw.1.2.1 9 _ rfl; have x2_ := hSw.2.1.2.1 2 _ rfl; have e3_ := hSw.1.2.1 10 _ rfl; have x3_ := hSw.2.1.2.1 3 _ rfl; have e4_ := hSw.1.2.1 11 _ rfl; have x4_ := hSw.2.1.2.1 4 _ rfl; have e5_ := hSw.1.2.1 12 _ rfl; have x5_ := hSw.2.1.2.1 5 _ rfl; have e6_ := hSw.1.2.1 13 _ rfl; have x6_ := hSw.2.1.2.1 6 _ rfl;  go_simp; (try with_reducible rfl))); (try simp only [Act.put, List.setIfInBounds_toArray, List.set_cons_zero, List.set_cons_succ])
        refine tk 7 (v := ?_) rfl (by kernel_rfl) (by kernel_rfl) (by kernel_rfl) (fun _ _ _ h => h) rfl ?_ h2 ?_; rotate_left; (focus (intro w hSw; (try dsimp only at hSw); have e0_ := hSw.1.2.1 7 _ rfl; have x0_ := hSw.2.1.2.1 0 _ rfl; have e1_ := hSw.1.2.1 8 _ rfl; have x1_ := hSw.2.1.2.1 1 _ rfl; have e2_ := hSw.1.2.1 9 _ rfl; have x2_ := hSw.2.1.2.1 2 _ rfl; have e3_ := hSw.1.2.1 10 _ rfl; have x3_ := hSw.2.1.2.1 3 _ rfl; have e4_ := hSw.1.2.1 11 _ rfl; have x4_ := hSw.2.1.2.1 4 _ rfl; have e5_ := hSw.1.2.1 12 _ rfl; have x5_ := hSw.2.1.2.1 5 _ rfl; have e6_ := hSw.1.2.1 13 _ rfl; have x6_ := hSw.2.1.2.1 6 _ rfl;  go_simp; (try with_reducible rfl))); (try simp only [Act.put, List.setIfInBounds_toArray, List.set_cons_zero, List.set_cons_succ])
        refine tk 8 (v := ?_) rfl (by kernel_rfl) (by kernel_rfl) (by kernel_rfl) (fun _ _ _ h => h) rfl ?_ h2 ?_; rotate_left; (focus (intro w hSw; (try dsimp only at hSw); have e0_ := hSw.1.2.1 7 _ rfl; have x0_ := hSw.2.1.2.1 0 _ rfl; have e1_ := hSw.1.2.1 8 _ rfl; have x1_ := hSw.2.1.2.1 1 _ rfl; have e2_ := hSw.1.2.1 9 _ rfl; have x2_ := hSw.2.1.2.1 2 _ rfl; have e3_ := hSw.1.2.1 10 _ rfl; have x3_ := hSw.2.1.2.1 3 _ rfl; have e4_ := hSw.1.2.1 11 _ rfl; have x4_ := hSw.2.1.2.1 4 _ rfl; have e5_ := hSw.1.2.1 12 _ rfl; have x5_ := hSw.2.1.2.1 5 _ rfl; have e6_ := hSw.1.2.1 13 _ rfl; have x6_ := hSw.2.1.2.1 6 _ rfl;  go_simp; (try with_reducible rfl))); (try simp only [Act.put, List.setIfInBounds_toArray, List.set_cons_zero, List.set_cons_succ])
        refine tk 9 (v := ?_) rfl (by kernel_rfl) (by kernel_rfl) (by kernel_rfl) (fun _ _ _ h => h) rfl ?_ h2 ?_; rotate_left; (focus (intro w hSw; (try dsimp only at hSw); have e0_ := hSw.1.2.1 7 _ rfl; have x0_ := hSw.2.1.2.1 0 _ rfl; have e1_ := hSw.1.2.1 8 _ rfl; have x1_ := hSw.2.1.2.1 1 _ rfl; have e2_ := hSw.1.2.1 9 _ rfl; have x2_ := hSw.2.1.2.1 2 _ rfl; have e3_ := hSw.1.2.1 10 _ rfl; have x3_ := hSw.2.1.2.1 3 _ rfl; have e4_ := hSw.1.2.1 11 _ rfl; have x4_ := hSw.2.1.2.1 4 _ rfl; have e5_ := hSw.1.2.1 12 _ rfl; have x5_ := hSw.2.1.2.1 5 _ rfl; have e6_ := hSw.1.2.1 13 _ rfl; have x6_ := hSw.2.1.2.1 6 _ rfl;  go_simp; (try with_reducible rfl))); (try simp only [Act.put, List.setIfInBounds_toArray, List.set_cons_zero, List.set_cons_succ])
        refine tk 10 (v := ?_) rfl (by kernel_rfl) (by kernel_rfl) (by kernel_rfl) (fun _ _ _ h => h) rfl ?_ h2 ?_; rotate_left; (focus (intro w hSw; (try dsimp only at hSw); have e0_ := hSw.1.2.1 7 _ rfl; have x0_ := hSw.2.1.2.1 0 _ rfl; have e1_ := hSw.1.2.1 8 _ rfl; have x1_ := hSw.2.1.2.1 1 _ rfl; have e2_ := hSw.1.2.1 9 _ rfl; have x2_ := hSw.2.1.2.1 2 _ rfl; have e3_ := hSw.1.2.1 10 _ rfl; have x3_ := hSw.2.1.2.1 3 _ rfl; have e4_ := hSw.1.2.1 11 _ rfl; have x4_ := hSw.2.1.2.1 4 _ rfl; have e5_ := hSw.1.2.1 12 _ rfl; have x5_ := hSw.2.1.2.1 5 _ rfl; have e6_ := hSw.1.2.1 13 _ rfl; have x6_ := hSw.2.1.2.1 6 _ rfl;  go_simp; (try with_reducible rfl))); (try simp only [Act.put, List.setIfInBounds_toArray, List.set_cons_zero, List.set_cons_succ])
        refine tk 11 (v := ?_) rfl (by kernel_rfl) (by kernel_rfl) (by kernel_rfl) (fun _ _ _ h => h) rfl ?_ h2 ?_; rotate_left; (focus (intro w hSw; (try dsimp only at hSw); have e0_ := hSw.1.2.1 7 _ rfl; have x0_ := hSw.2.1.2.1 0 _ rfl; have e1_ := hSw.1.2.1 8 _ rfl; have x1_ := hSw.2.1.2.1 1 _ rfl; have e2_ := hSw.1.2.1 9 _ rfl; have x2_ := hSw.2.1.2.1 2 _ rfl; have e3_ := hSw.1.2.1 10 _ rfl; have x3_ := hSw.2.1.2.1 3 _ rfl; have e4_ := hSw.1.2.1 11 _ rfl; have x4_ := hSw.2.1.2.1 4 _ rfl; have e5_ := hSw.1.2.1 12 _ rfl; have x5_ := hSw.2.1.2.1 5 _ rfl; have e6_ := hSw.1.2.1 13 _ rfl; have x6_ := hSw.2.1.2.1 6 _ rfl;  go_simp; (try with_reducible rfl))); (try simp only [Act.put, List.setIfInBounds_toArray, List.set_cons_zero, List.set_cons_succ])
        refine tk 12 (v := ?_) rfl (by kernel_rfl) (by kernel_rfl) (by kernel_rfl) (fun _ _ _ h => h) rfl ?_ h2 ?_; rotate_left; (focus (intro w hSw; (try dsimp only at hSw); have e0_ := hSw.1.2.1 7 _ rfl; have x0_ := hSw.2.1.2.1 0 _ rfl; have e1_ := hSw.1.2.1 8 _ rfl; have x1_ := hSw.2.1.2.1 1 _ rfl; have e2_ := hSw.1.2.1 9 _ rfl; have x2_ := hSw.2.1.2.1 2 _ rfl; have e3_ := hSw.1.2.1 10 _ rfl; have x3_ := hSw.2.1.2.1 3 _ rfl; have e4_ := hSw.1.2.1 11 _ rfl; have x4_ := hSw.2.1.2.1 4 _ rfl; have e5_ := hSw.1.2.1 12 _ rfl; have x5_ := hSw.2.1.2.1 5 _ rfl; have e6_ := hSw.1.2.1 13 _ rfl; have x6_ := hSw.2.1.2.1 6 _ rfl;  go_simp; (try with_reducible rfl))); (try simp only [Act.put, List.setIfInBounds_toArray, List.set_cons_zero, List.set_cons_succ])
        refine tk 13 (v := ?_) rfl (by kernel_rfl) (by kernel_rfl) (by kernel_rfl) (fun _ _ _ h => h) rfl ?_ h2 ?_; rotate_left; (focus (intro w hSw; (try dsimp only at hSw); have e0_ := hSw.1.2.1 7 _ rfl; have x0_ := hSw.2.1.2.1 0 _ rfl; have e1_ := hSw.1.2.1 8 _ rfl; have x1_ := hSw.2.1.2.1 1 _ rfl; have e2_ := hSw.1.2.1 9 _ rfl; have x2_ := hSw.2.1.2.1 2 _ rfl; have e3_ := hSw.1.2.1 10 _ rfl; have x3_ := hSw.2.1.2.1 3 _ rfl; have e4_ := hSw.1.2.1 11 _ rfl; have x4_ := hSw.2.1.2.1 4 _ rfl; have e5_ := hSw.1.2.1 12 _ rfl; have x5_ := hSw.2.1.2.1 5 _ rfl; have e6_ := hSw.1.2.1 13 _ rfl; have x6_ := hSw.2.1.2.1 6 _ rfl;  go_simp; (try with_reducible rfl))); (try simp only [Act.put, List.setIfInBounds_toArray, List.set_cons_zero, List.set_cons_succ])
        refine tk 14 (v := ?_) rfl (by kernel_rfl) (by kernel_rfl) (by kernel_rfl) (fun _ _ _ h => h) rfl ?_ h2 ?_; rotate_left; (focus (intro w hSw; (try dsimp only at hSw); have e0_ := hSw.1.2.1 7 _ rfl; have x0_ := hSw.2.1.2.1 0 _ rfl; have e1_ := hSw.1.2.1 8 _ rfl; have x1_ := hSw.2.1.2.1 1 _ rfl; have e2_ := hSw.1.2.1 9 _ rfl; have x2_ := hSw.2.1.2.1 2 _ rfl; have e3_ := hSw.1.2.1 10 _ rfl; have x3_ := hSw.2.1.2.1 3 _ rfl; have e4_ := hSw.1.2.1 11 _ rfl; have x4_ := hSw.2.1.2.1 4 _ rfl; have e5_ := hSw.1.2.1 12 _ rfl; have x5_ := hSw.2.1.2.1 5 _ rfl; have e6_ := hSw.1.2.1 13 _ rfl; have x6_ := hSw.2.1.2.1 6 _ rfl;  go_simp; (try with_reducible rfl))); (try simp only [Act.put, List.setIfInBounds_toArray, List.set_cons_zero, List.set_cons_succ])
        refine tk 15 (v := ?_) rfl (by kernel_rfl) (by kernel_rfl) (by kernel_rfl) (fun _ _ _ h => h) rfl ?_ h2 ?_; rotate_left; (focus (intro w hSw; (try dsimp only at hSw); have e0_ := hSw.1.2.1 7 _ rfl; have x0_ := hSw.2.1.2.1 0 _ rfl; have e1_ := hSw.1.2.1 8 _ rfl; have x1_ := hSw.2.1.2.1 1 _ rfl; have e2_ := hSw.1.2.1 9 _ rfl; have x2_ := hSw.2.1.2.1 2 _ rfl; have e3_ := hSw.1.2.1 10 _ rfl; have x3_ := hSw.2.1.2.1 3 _ rfl; have e4_ := hSw.1.2.1 11 _ rfl; have x4_ := hSw.2.1.2.1 4 _ rfl; have e5_ := hSw.1.2.1 12 _ rfl; have x5_ := hSw.2.1.2.1 5 _ rfl; have e6_ := hSw.1.2.1 13 _ rfl; have x6_ := hSw.2.1.2.1 6 _ rfl;  go_simp; (try with_reducible rfl))); (try simp only [Act.put, List.setIfInBounds_toArray, List.set_cons_zero, List.set_cons_succ])
        refine tk 16 (v := ?_) rfl (by kernel_rfl) (by kernel_rfl) (by kernel_rfl) (fun _ _ _ h => h) rfl ?_ h2 ?_; rotate_left; (focus (intro w hSw; (try dsimp only at hSw); have e0_ := hSw.1.2.1 7 _ rfl; have x0_ := hSw.2.1.2.1 0 _ rfl; have e1_ := hSw.1.2.1 8 _ rfl; have x1_ := hSw.2.1.2.1 1 _ rfl; have e2_ := hSw.1.2.1 9 _ rfl; have x2_ := hSw.2.1.2.1 2 _ rfl; have e3_ := hSw.1.2.1 10 _ rfl; have x3_ := hSw.2.1.2.1 3 _ rfl; have e4_ := hSw.1.2.1 11 _ rfl; have x4_ := hSw.2.1.2.1 4 _ rfl; have e5_ := hSw.1.2.1 12 _ rfl; have x5_ := hSw.2.1.2.1 5 _ rfl; have e6_ := hSw.1.2.1 13 _ rfl; have x6_ := hSw.2.1.2.1 6 _ rfl;  go_simp; (try with_reducible rfl))); (try simp only [Act.put, List.setIfInBounds_toArray, List.set_cons_zero, List.set_cons_succ])
        refine tk 17 (v := ?_) rfl (by kernel_rfl) (by kernel_rfl) (by kernel_rfl) (fun _ _ _ h => h) rfl ?_ h2 ?_; rotate_left; (focus (intro w hSw; (try dsimp only at hSw); have e0_ := hSw.1.2.1 7 _ rfl; have x0_ := hSw.2.1.2.1 0 _ rfl; have e1_ := hSw.1.2.1 8 _ rfl; have x1_ := hSw.2.1.2.1 1 _ rfl; have e2_ := hSw.1.2.1 9 _ rfl; have x2_ := hSw.2.1.2.1 2 _ rfl; have e3_ := hSw.1.2.1 10 _ rfl; have x3_ := hSw.2.1.2.1 3 _ rfl; have e4_ := hSw.1.2.1 11 _ rfl; have x4_ := hSw.2.1.2.1 4 _ rfl; have e5_ := hSw.1.2.1 12 _ rfl; have x5_ := hSw.2.1.2.1 5 _ rfl; have e6_ := hSw.1.2.1 13 _ rfl; have x6_ := hSw.2.1.2.1 6 _ rfl;  go_simp; (try with_reducible rfl))); (try simp only [Act.put, List.setIfInBounds_toArray, List.set_cons_zero, List.set_cons_succ])
        refine tk 18 (v := ?_) rfl (by kernel_rfl) (by kernel_rfl) (by kernel_rfl) (fun _ _ _ h => h) rfl ?_ h2 ?_; rotate_left; (focus (intro w hSw; (try dsimp only at hSw); have e0_ := hSw.1.2.1 7 _ rfl; have x0_ := hSw.2.1.2.1 0 _ rfl; have e1_ := hSw.1.2.1 8 _ rfl; have x1_ := hSw.2.1.2.1 1 _ rfl; have e2_ := hSw.1.2.1 9 _ rfl; have x2_ := hSw.2.1.2.1 2 _ rfl; have e3_ := hSw.1.2.1 10 _ rfl; have x3_ := hSw.2.1.2.1 3 _ rfl; have e4_ := hSw.1.2.1 11 _ rfl; have x4_ := hSw.2.1.2.1 4 _ rfl; have e5_ := hSw.1.2.1 12 _ rfl; have x5_ := hSw.2.1.2.1 5 _ rfl; have e6_ := hSw.1.2.1 13 _ rfl; have x6_ := hSw.2.1.2.1 6 _ rfl;  go_simp; (try with_reducible rfl))); (try simp only [Act.put, List.setIfInBounds_toArray, List.set_cons_zero, List.set_cons_succ])
        refine wpAnyH_done (by kernel_rfl) ?_ _
        go_wp2_with fail
        go_roundw
        case rel => exact ⟨2, by omega, by go_num, h2.1, h2.2.2⟩
        case measure => simp [intOf]
      · obtain ⟨c, hcc⟩ : ∃ c, c = chk ⟨6, 0, 0, 0, 0, ⟨b0, d0⟩⟩ := ⟨_, rfl⟩
        rw [← hcc] at RC1 hc
        have cb : (c == 0) = false := by simpa using hc
        clear hcc F1
        go_wp2_with fail
        refine (RC1.out _).mono ?_
        rintro x w4 ⟨rfl, hb⟩
        have CE4 := hid (CE.out.below hb)
        have HB4 := hid (HB.out.trans (hb.mono HB.out.size))
        clear hb CE HB RC1
        clear e0 e1 e2 e3 e4 e5 e6
        go_wp2_with fail
        go_roundw
        case rel => exact ⟨2, by omega, by go_num, CE4.out, HB4.out⟩
        case measure => simp [intOf]
    · clear F0 RC0 F1 RC1
      go_wp2_with fail
      go_ret
      exact ⟨rfl, HB.out⟩

set_option maxRecDepth 100000 in
theorem lifted (os : Os) (started : os.Started) (H : Type) (enc : TypeId × Value → H) :
    ReturnsInHanded {} Tryd.checked os 6 .any (fun w args => (Rows.orderBackSpec.pre enc Tryd.prog Tryd.f6 [] false w args ∧ laidMetH Tryd.prog Rows.orderBackRow.laid w) ∧ sizedMet enc Tryd.prog Tryd.f6 (OpenSpec.ofChange Rows.orderBackSpec) false w args) (Rows.orderBackSpec.post enc Tryd.prog Tryd.f6 false true false false) :=
  law_door2 (s := Rows.orderBackSpec) (laid := Rows.orderBackRow.laid) started (by kernel_rfl) Tryd.func6
    (ChangeSpec.witness_shaped (enc := enc) (C := Tryd.checked) (os := os) (X := fun w _ => laidMetH Tryd.prog Rows.orderBackRow.laid w) false (World.laidAll Tryd.prog os Rows.orderBackRow.laid) #[.int .i64 0, .int .u64 0, .int .u64 0] 8 (World.laidAll_os _ _ _)
      (World.shaped_of_ZipB (by kernel_rfl) (by kernel_rfl)) (by kernel_rfl) (by kernel_rfl) (by kernel_rfl)
      (by rw [MakeChecks.laidMetH_plain _ _ _ (by kernel_rfl)]; exact laidMet_laidAll _ (by kernel_rfl) (by kernel_rfl)))
    rfl (by rw [Tryd.params6]; decide +kernel) rfl Tryd.underlying4
    (fun ds h => by
      rw [Tryd.params6] at h
      match ds, h with
      | [_, _, _], _ => rfl)
    (fun W base args ds ps hsh hL hval hA hsz => by
      rw [Tryd.params6] at hA hval hsz
      obtain ⟨v0, vs0, d0, ds0, p0, q0, hargs, rfl, rfl, h0, r0⟩ := trodAll_cons hA
      obtain ⟨v1, vs1, d1, ds1, p1, q1, rfl, rfl, rfl, h1, r1⟩ := trodAll_cons r0
      obtain ⟨v2, vs2, d2, ds2, p2, q2, rfl, rfl, rfl, h2, r2⟩ := trodAll_cons r1
      obtain ⟨rfl, rfl, rfl⟩ := trodAll_nil r2
      obtain rfl : args = #[v0, v1, v2] := by cases args; simp_all
      obtain ⟨a0, rfl, rfl, rfl, w0⟩ := open_int Tryd.underlying3 (hval 0 3 v0 rfl rfl) h0
      obtain ⟨a1, rfl, rfl, rfl, w1⟩ := open_int Tryd.underlying27 (hval 1 27 v1 rfl rfl) h1
      obtain ⟨a2, rfl, rfl, rfl, w2⟩ := open_int Tryd.underlying27 (hval 2 27 v2 rfl rfl) h2
      exact walk W hsh (tab_of hL) a0 (bounds_i64 w0) a1 (bounds_u64 w1) a2 (bounds_u64 w2))

theorem holds : Rows.OrderBackSaid :=
  OpenClaim.holds_of_wide 6 Tryd.f6 rfl rfl rfl rfl rfl rfl rfl ⟨rfl, rfl, rfl, rfl, rfl⟩ rfl rfl rfl rfl rfl (by kernel_rfl) Tryd.func6 (by kernel_rfl)
    (of_decide_eq_true (by kernel_rfl)) (by unfold Func.isWrapper; first | (rw [if_pos (by decide +kernel)]; kernel_rfl) | (rw [if_neg (by decide +kernel)]; exact ⟨rfl, rfl⟩))
    (fun os started H enc _ => lifted os started H enc)
theorem proved : Rows.OrderBackCardSaid :=
  Claim7.holds_tied_plain_at .later [] Rows.orderBackCard.laidKinds true Rows.orderBackCard.stood.harness false holds (fun _ h => by cases h) (by kernel_rfl) (fun _ h => by cases h) orderBack_row_tie rfl ⟨rfl, rfl⟩ (by kernel_rfl) rfl
    (fun f fn hf hfn => by
      obtain rfl : f = 6 := Option.some.inj ((show Tryd.prog.funcNamed Rows.orderBackRow.func = some 6 by kernel_rfl).symm.trans hf) |>.symm
      obtain rfl : fn = Tryd.f6 := (Option.some.inj (Tryd.func6.symm.trans hfn)).symm
      exact ⟨by kernel_rfl, fun j t ht => by
        rw [Tryd.params6] at ht
        have hm : t ∈ [3, 27, 27] := by simpa using Array.mem_of_getElem? ht
        have hall : ([3, 27, 27].all fun u => !Tryd.prog.wantsStandIn u) = true := by kernel_rfl
        exact (show Tryd.prog.wantsStandIn t = false by simpa using List.all_eq_true.1 hall t hm)⟩)
    (by kernel_rfl)
end Go.Proofs.YtljgcffpijjliaaDoor.orderBack
