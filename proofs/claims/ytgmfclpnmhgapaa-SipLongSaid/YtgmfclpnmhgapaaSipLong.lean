/- roundhouselaw2.SipLong answers true for every argument; no condition. -/
import Derived.Test.YtgmfclpnmhgapaaSipLaw
namespace Go.Proofs.Ytgmfclpnmhgapaa.sipLong
set_option linter.unusedVariables false
open Go.RowKit Go.ChangeShapes Go.WideShapes Go.ChangeAt

section
variable {w : World} {ops : Array Oper} {rest : List Oper} {o : Oper} {a : Act} {Q : Exit → Act → World → Prop}
/-- make([]byte, n). -/
theorem wp_make_b (hgd : o.guard = none) (l c : Operand) (ho : o.op = .makeSlice 23 l c) (base n : Nat) (L C : Int) (hl : a.eval l = .int .i64 L) (hc : a.eval c = .int .i64 C) (hL : L = n) (hC : C = n) (hsz : n ≤ 140737488355328) (hbase : base ≤ w.heap.size)
    (h : ∀ w', Ow w' base 5 1 (.slice (some ⟨w.heap.size, 0, none⟩) n n) n (fun _ => .int .u8 0) → Below base w w' → wpList Try.prog ops Q rest (a.put o.dst (.slice (some ⟨w.heap.size, 0, none⟩) n n)) w') : wpList Try.prog ops Q (o :: rest) a w := by
  obtain ⟨i0, hi, hz0, hz1, hz2⟩ := info_parts info_u8
  refine wpList_make_full w hgd l c _ ho base 5 i0 (.int .u8 0) 1 Try.underlying23 hi hz0 hz1 .i64 .i64 L C n hl hc hL hC (by rw [hz2]; omega) (by simp only [maxLen]; omega) hbase ?_
  intro w' h1 h2
  refine h w' ?_ (Ow.below_ (v := .slice none 0 0) (Ow.none_ (w := w) (B := base) (e := 5) (size := 1) (f := fun _ => .int .u8 0)) h2 hbase)
  have e : (madeCells (Value.int .u8 0).cells (n * 1)).toList = (List.range (n * 1)).map (fun _ => Value.int .u8 0) := by
    rw [show (Value.int .u8 0).cells = #[Value.int .u8 0] from rfl, toList_madeCells_one]
    simp [List.map_const']
  rw [e] at h1
  exact h1
end
set_option maxRecDepth 100000 in
set_option maxHeartbeats 4000000 in
theorem walk (W : World) (a : Int) (ra : 0 ≤ a ∧ a ≤ 18446744073709551615) (b : Int) (rb : 0 ≤ b ∧ b ≤ 18446744073709551615) (x : Int) (rx : 0 ≤ x ∧ x ≤ 255) (m : Int) (rm : -9223372036854775808 ≤ m ∧ m ≤ 9223372036854775807) :
    Calls Try.prog 10 #[.int .u64 a, .int .u64 b, .int .u8 x, .int .i64 m] W fun e w' => e = .returned (.bool true) ∧ Below W.heap.size W w' := by
  clear ra rb
  have b0 := wi_bd m 300 (by omega)
  obtain ⟨r, hr⟩ := Int.eq_ofNat_of_zero_le b0.1
  rw [hr] at b0
  obtain ⟨N, hN⟩ : ∃ N : Nat, N = 240 + r := ⟨_, rfl⟩
  have hN1 : N ≤ 1000 := by omega
  have hN0 : 0 < N := by omega
  have HR := hid hr
  have HN := hid hN
  have hr3 : r < 300 := by omega
  clear b0 hr hN
  go_enter Try.func10, Try.ntmps10
  go_wp2_with fail
  refine (known_any _).mono ?_
  rintro e w ⟨rfl, hb0⟩
  go_wp2_with fail
  refine (re_i64 (within_any m 300 _ (by omega) (by omega)) HR.out).mono ?_
  rintro e w2 ⟨rfl, rfl⟩
  have K1 := KeyIn.made (w := w) (a := a) (b := b) (T := 26)
  have B1 : Below W.heap.size W (w.alloc (.cells #[.int .u64 a, .int .u64 b] 26)) := hb0.alloc hb0.size _
  generalize w.alloc (.cells #[.int .u64 a, .int .u64 b] 26) = w1 at *
  generalize w.heap.size = K at *
  go_wp2_with (at_make
               refine wp_make_b rfl (.tmp 19) (.tmp 19) rfl w1.heap.size N _ _ rfl rfl (by have := HN.out; first | omega | (unfold wrap64; omega)) (by have := HN.out; first | omega | (unfold wrap64; omega)) (by omega) (Nat.le_refl _) ?_
               intro w3 O3 hb3)
  clear HN HR
  generalize hG : w1.heap.size = G at *
  go_loopw [11] (fun j wr => ∃ k : Nat, k ≤ N ∧ j = .int .i64 k ∧ Below G w1 wr ∧ Ow wr G 5 1 (.slice (some ⟨G, 0, none⟩) N N) N (fun j => .int .u8 (if j < k then (x + (j : Int)) % 256 else 0)))
    (fun j _ => N - (intOf j).toNat)
  case atStart => exact ⟨0, by omega, rfl, hb3, O3.as_ fun j _ => by simp⟩
  case round =>
    obtain ⟨k, hk, rfl, hb2, hO2⟩ := hrel
    by_cases hlt : k < N
    · have i1 : (k : Int) < N := by omega
      obtain ⟨_, e5, hB, _, cell5, fro5⟩ := hO2.block_ hN0
      injection e5 with e5
      injection e5 with e5
      subst e5
      have c5 := cell5 k (by omega)
      have f5 := fro5 k
      clear cell5 fro5
      go_wp2_with fail
      go_roundw
      case rel => exact ⟨k + 1, by omega, by go_num, hb2.setCell (Nat.le_refl _) _, (hO2.store_ k _).as_ fun j hj => by
        simp only [put1]
        by_cases hj2 : j = k
        · subst hj2
          simp
          try omega
        · rw [if_neg hj2]
          congr 1
          split <;> split <;> first | rfl | omega⟩
      case measure => simp [intOf]; omega
    · have e : k = N := by omega
      subst e
      have i1 : ¬ (k : Int) < k := by omega
      obtain ⟨k0, k1, k2⟩ := K1.below (hG ▸ hb2)
      have hb2' : Below w1.heap.size w1 wr := hG ▸ hb2
      have B5 := then_ B1 hb2'
      obtain ⟨h, hh⟩ : ∃ h : Nat → Int, h = fun j => if j < k then (x + (j : Int)) % 256 else 0 := ⟨_, rfl⟩
      have hhb : IsB h := fun j => by rw [hh]; simp only; split <;> omega
      have SB : By wr (some ⟨G, 0, none⟩) k h := by rw [hh]; exact hO2.sl1
      clear hO2 hb2 hb2' K1 B1 O3 hb3 hG hh
      go_wp2_with fail
      go_region_held3 (fun w' => w'.cell? ⟨K, 0, none⟩ = some (.int .u64 a) ∧ w'.cell? ⟨K, 1, none⟩ = some (.int .u64 b) ∧ K < w'.heap.size ∧ By w' (some ⟨G, 0, none⟩) k h ∧ Below W.heap.size W w')
        (first
          | (go_split_ands; refine ⟨?_, ?_, ?_, ?_, ?_⟩; exact (hb5.cell (p := ⟨K, 0, none⟩) (by assumption)).trans (by assumption); exact (hb5.cell (p := ⟨K, 1, none⟩) (by assumption)).trans (by assumption); exact Nat.lt_of_lt_of_le (by assumption) hb5.size; exact Sl.below (by assumption) hb5 (Nat.le_refl _); exact then_ (by assumption) hb5)
          | (refine ⟨?_, ?_, ?_, ?_, ?_⟩; assumption; assumption; assumption; exact Sl.drew (by assumption); exact Below.drew (by assumption))
          | (go_split_ands; refine ⟨?_, ?_, ?_, ?_, ?_⟩; exact (World.cell?_alloc_lt _ _ ⟨K, 0, none⟩ (by assumption)).trans (by assumption); exact (World.cell?_alloc_lt _ _ ⟨K, 1, none⟩ (by assumption)).trans (by assumption); (simp; omega); exact Sl.alloc (by assumption) _; exact Below.alloc (by assumption) (Below.size (by assumption)) _)
          | (go_split_ands; refine ⟨?_, ?_, ?_, ?_, ?_⟩; exact (World.cell?_alloc_lt _ _ ⟨K, 0, none⟩ (by assumption)).trans (by assumption); exact (World.cell?_alloc_lt _ _ ⟨K, 1, none⟩ (by assumption)).trans (by assumption); exact Nat.lt_of_lt_of_le (by assumption) (Below.drew (Below.alloc (Below.refl _ _) (Nat.le_refl _) _)).size; exact Sl.drew (Sl.alloc (by assumption) _); exact Below.drew (Below.alloc (by assumption) (Below.size (by assumption)) _))
          | go_keep)
        ((first
          | (go_at_call 15
             go_split_ands
             with_reducible refine (of_any a b (some ⟨G, 0, none⟩) k k h _ ?_ hhb ?_ ?_).mono ?_
             · assumption
             · omega
             · omega
             rintro e w5 ⟨rfl, hb5⟩)
          | (go_at_call 16
             go_split_ands
             with_reducible refine (rof_any a b (some ⟨G, 0, none⟩) k k h _ ?_ hhb ?_ ?_).mono ?_
             · assumption
             · omega
             · omega
             rintro e w5 ⟨rfl, hb5⟩)))
      all_goals
        go_split_ands
        go_wp2_with fail
        go_ret
        exact ⟨rfl, by assumption⟩

set_option maxRecDepth 100000 in
theorem lifted (os : Os) (started : os.Started) (H : Type) (enc : TypeId × Value → H) :
    ReturnsInHanded {} Try.checked os 10 .any (Rows.sipLongSpec.pre6 enc Try.prog Try.f10 [] false) (Rows.sipLongSpec.post enc Try.prog Try.f10 false true false false) :=
  law_step (s := Rows.sipLongSpec) started (by kernel_rfl) Try.func10
    (ChangeSpec.witness6 (s := Rows.sipLongSpec) (enc := enc) (C := Try.checked) false ⟨#[], #[.int .u64 0, .int .u64 0, .int .u8 0, .int .i64 0], []⟩ 8 (by kernel_rfl) (by kernel_rfl) (by kernel_rfl) (by kernel_rfl))
    rfl (by rw [Try.params10]; decide +kernel) rfl Try.underlying4
    (fun ds h => by
      rw [Try.params10] at h
      match ds, h with
      | [_, _, _, _], _ => rfl)
    (fun W base args ds ps hval hA hsz => by
      rw [Try.params10] at hA hval hsz
      obtain ⟨v0, vs0, d0, ds0, p0, q0, hargs, rfl, rfl, h0, r0⟩ := trodAll_cons hA
      obtain ⟨v1, vs1, d1, ds1, p1, q1, rfl, rfl, rfl, h1, r1⟩ := trodAll_cons r0
      obtain ⟨v2, vs2, d2, ds2, p2, q2, rfl, rfl, rfl, h2, r2⟩ := trodAll_cons r1
      obtain ⟨v3, vs3, d3, ds3, p3, q3, rfl, rfl, rfl, h3, r3⟩ := trodAll_cons r2
      obtain ⟨rfl, rfl, rfl⟩ := trodAll_nil r3
      obtain rfl : args = #[v0, v1, v2, v3] := by cases args; simp_all
      obtain ⟨a0, rfl, rfl, rfl, w0⟩ := open_int Try.underlying22 (hval 0 22 v0 rfl rfl) h0
      obtain ⟨a1, rfl, rfl, rfl, w1⟩ := open_int Try.underlying22 (hval 1 22 v1 rfl rfl) h1
      obtain ⟨a2, rfl, rfl, rfl, w2⟩ := open_int Try.underlying5 (hval 2 5 v2 rfl rfl) h2
      obtain ⟨a3, rfl, rfl, rfl, w3⟩ := open_int Try.underlying3 (hval 3 3 v3 rfl rfl) h3
      exact walk W a0 (bounds_u64 w0) a1 (bounds_u64 w1) a2 (bounds_u8 w2) a3 (bounds_i64 w3))

theorem proved : Rows.SipLongSaid :=
  OpenClaim.holds_of_wide 10 Try.f10 rfl rfl rfl rfl rfl rfl rfl ⟨rfl, rfl, rfl, rfl, rfl⟩ rfl rfl rfl rfl rfl (by kernel_rfl) Try.func10 (by kernel_rfl)
    (of_decide_eq_true (by kernel_rfl)) (by unfold Func.isWrapper; first | (rw [if_pos (by decide +kernel)]; kernel_rfl) | (rw [if_neg (by decide +kernel)]; exact ⟨rfl, rfl⟩))
    (fun os started H enc _ => lifted os started H enc)
end Go.Proofs.Ytgmfclpnmhgapaa.sipLong
