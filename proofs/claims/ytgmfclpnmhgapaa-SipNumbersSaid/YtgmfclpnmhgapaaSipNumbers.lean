/- roundhouselaw2.SipNumbers answers true for every argument; no condition. -/
import Derived.Test.YtgmfclpnmhgapaaSipLaw
namespace Go.Proofs.Ytgmfclpnmhgapaa.sipNumbers
set_option linter.unusedVariables false
open Go.RowKit Go.ChangeShapes Go.WideShapes Go.ChangeAt

theorem sz_ {w : World} {o : Obj} : (w.alloc o).heap.size = w.heap.size + 1 := by simp
theorem one_i (x : Int) (h : -9223372036854775808 ≤ x ∧ x ≤ 9223372036854775807) : IsI (fun j => [x].getD j 0) := fun j => by
  rcases j with _ | j
  · exact h
  · exact ⟨by simp, by simp⟩
theorem wr_b (x : Int) : -9223372036854775808 ≤ wrap64 x ∧ wrap64 x ≤ 9223372036854775807 := by
  unfold wrap64; omega
theorem six_b (x y : Int) (h : -9223372036854775808 ≤ x ∧ x ≤ 9223372036854775807) (hy : -9223372036854775808 ≤ y ∧ y ≤ 9223372036854775807) :
    IsI (fun j => [x, y, -1, 9223372036854775807, -9223372036854775808, 0].getD j 0) := fun j => by
  rcases j with _ | _ | _ | _ | _ | _ | j
  · exact h
  · exact hy
  all_goals exact ⟨by simp, by simp⟩
set_option maxRecDepth 100000 in
set_option maxHeartbeats 4000000 in
theorem walk (W : World) (a : Int) (ra : 0 ≤ a ∧ a ≤ 18446744073709551615) (b : Int) (rb : 0 ≤ b ∧ b ≤ 18446744073709551615) (x : Int) (rx : -9223372036854775808 ≤ x ∧ x ≤ 9223372036854775807) (m : Int) (rm : -9223372036854775808 ≤ m ∧ m ≤ 9223372036854775807) :
    Calls Try.prog 11 #[.int .u64 a, .int .u64 b, .int .i64 x, .int .i64 m] W fun e w' => e = .returned (.bool true) ∧ Below W.heap.size W w' := by
  clear ra rb
  have b0 := wi_bd m 6 (by omega)
  obtain ⟨r, hr⟩ := Int.eq_ofNat_of_zero_le b0.1
  rw [hr] at b0
  have hr6 : r < 6 := by omega
  have HR := hid hr
  have wb := wr_b (-x)
  clear b0 hr
  go_enter Try.func11, Try.ntmps11
  go_wp2_with fail
  refine (known_any _).mono ?_
  rintro e w ⟨rfl, hb1⟩
  go_wp2_with fail
  refine (re_i64 (within_any m 6 _ (by omega) (by omega)) HR.out).mono ?_
  rintro e w2 ⟨rfl, rfl⟩
  have hfb := six_b x (wrap64 (-x)) rx wb
  have K1 := KeyIn.made (w := w) (a := a) (b := b) (T := 26)
  have B1 : Below W.heap.size W (w.alloc (.cells #[.int .u64 a, .int .u64 b] 26)) := hb1.alloc hb1.size _
  have e1 : (w.alloc (.cells #[.int .u64 a, .int .u64 b] 26)).heap.size = w.heap.size + 1 := by simp
  generalize w.alloc (.cells #[.int .u64 a, .int .u64 b] 26) = w1 at *
  generalize w.heap.size = K at *
  have L2 := row_lit .i64 w1 3 [x, wrap64 (-x), -1, 9223372036854775807, -9223372036854775808, 0]
  have K2 := K1.below ((Below.refl w1.heap.size w1).alloc (Nat.le_refl _) (.cells ([x, wrap64 (-x), -1, 9223372036854775807, -9223372036854775808, 0].map (Value.int .i64)).toArray 3))
  have B2 : Below W.heap.size W (w1.alloc (.cells ([x, wrap64 (-x), -1, 9223372036854775807, -9223372036854775808, 0].map (Value.int .i64)).toArray 3)) := B1.alloc B1.size _
  have e2 : K + 1 < (w1.alloc (.cells ([x, wrap64 (-x), -1, 9223372036854775807, -9223372036854775808, 0].map (Value.int .i64)).toArray 3)).heap.size := by simp; omega
  rw [e1] at L2
  change Sl _ _ 6 _ at L2
  generalize hw2 : w1.alloc (.cells ([x, wrap64 (-x), -1, 9223372036854775807, -9223372036854775808, 0].map (Value.int .i64)).toArray 3) = w2 at *
  change w1.alloc _ = w2 at hw2
  simp only [List.map_cons, List.map_nil] at hw2
  obtain ⟨f, hf⟩ : ∃ f : Nat → Int, f = fun j => [x, wrap64 (-x), -1, 9223372036854775807, -9223372036854775808, 0].getD j 0 := ⟨_, rfl⟩
  have L3 : Is w2 (some ⟨K + 1, 0, none⟩) 6 f := by rw [hf]; exact L2
  rw [← hf] at hfb
  have c0 := L3.at_ hr6
  have c1 : w2.cell? ⟨K + 1, r, none⟩ = some (.int .i64 (f r)) := by simpa using c0
  obtain ⟨k0, k1, k2⟩ := K2
  rw [hw2]
  clear hf L2 K1 B1 e1 hb1 hw2
  go_wp2_with fail
  go_region_held3 (fun w' => w'.cell? ⟨K, 0, none⟩ = some (.int .u64 a) ∧ w'.cell? ⟨K, 1, none⟩ = some (.int .u64 b) ∧ K < w'.heap.size ∧ Is w' (some ⟨K + 1, 0, none⟩) 6 f ∧ Below W.heap.size W w')
    (first
      | (go_split_ands; refine ⟨?_, ?_, ?_, ?_, ?_⟩; exact (hb5.cell (p := ⟨K, 0, none⟩) (by assumption)).trans (by assumption); exact (hb5.cell (p := ⟨K, 1, none⟩) (by assumption)).trans (by assumption); exact Nat.lt_of_lt_of_le (by assumption) hb5.size; exact Sl.below (by assumption) hb5 (Nat.le_refl _); exact then_ (by assumption) hb5)
      | (refine ⟨?_, ?_, ?_, ?_, ?_⟩; assumption; assumption; assumption; exact Sl.drew (by assumption); exact Below.drew (by assumption))
      | (go_split_ands; refine ⟨?_, ?_, ?_, ?_, ?_⟩; exact (World.cell?_alloc_lt _ _ ⟨K, 0, none⟩ (by assumption)).trans (by assumption); exact (World.cell?_alloc_lt _ _ ⟨K, 1, none⟩ (by assumption)).trans (by assumption); (simp; omega); exact Sl.alloc (by assumption) _; exact Below.alloc (by assumption) (Below.size (by assumption)) _)
      | (go_split_ands; refine ⟨?_, ?_, ?_, ?_, ?_⟩; exact (World.cell?_alloc_lt _ _ ⟨K, 0, none⟩ (by assumption)).trans (by assumption); exact (World.cell?_alloc_lt _ _ ⟨K, 1, none⟩ (by assumption)).trans (by assumption); exact Nat.lt_of_lt_of_le (by assumption) (Below.drew (Below.alloc (Below.refl _ _) (Nat.le_refl _) _)).size; exact Sl.drew (Sl.alloc (by assumption) _); exact Below.drew (Below.alloc (by assumption) (Below.size (by assumption)) _))
      | go_keep)
    ((first
      | (go_at_call 19
         go_split_ands
         with_reducible refine (words_any a b (some ⟨_, 0, none⟩) 1 1 (fun j => [f r].getD j 0) _ ?_ ?_ ?_).mono ?_
         · repeat' (first | exact row_at .i64 [f r] rfl | exact row_at .i64 [f r] sz_ | exact row_at .i64 [f r] sz_.symm | with_reducible refine Sl.drew ?_ | with_reducible refine Sl.alloc ?_ _ | with_reducible refine Sl.below ?_ hb5 (Nat.le_refl _))
         · exact one_i _ (hfb r)
         · omega
         rintro e w5 ⟨rfl, hb5⟩)
      | (go_at_call 20
         go_split_ands
         with_reducible refine (rwords_any a b (some ⟨_, 0, none⟩) 1 1 (fun j => [f r].getD j 0) _ ?_ ?_ ?_).mono ?_
         · repeat' (first | exact row_at .i64 [f r] rfl | exact row_at .i64 [f r] sz_ | exact row_at .i64 [f r] sz_.symm | with_reducible refine Sl.drew ?_ | with_reducible refine Sl.alloc ?_ _ | with_reducible refine Sl.below ?_ hb5 (Nat.le_refl _))
         · exact one_i _ (hfb r)
         · omega
         rintro e w5 ⟨rfl, hb5⟩)
      | (go_at_call 19
         go_split_ands
         with_reducible refine (words_any a b (some ⟨K + 1, 0, none⟩) 6 6 f _ ?_ hfb ?_).mono ?_
         · assumption
         · omega
         rintro e w5 ⟨rfl, hb5⟩)
      | (go_at_call 20
         go_split_ands
         with_reducible refine (rwords_any a b (some ⟨K + 1, 0, none⟩) 6 6 f _ ?_ hfb ?_).mono ?_
         · assumption
         · omega
         rintro e w5 ⟨rfl, hb5⟩)))
  all_goals
    go_split_ands
    go_wp2_with fail
    go_ret
    exact ⟨rfl, by assumption⟩

set_option maxRecDepth 100000 in
theorem lifted (os : Os) (started : os.Started) (H : Type) (enc : TypeId × Value → H) :
    ReturnsInHanded {} Try.checked os 11 .any (Rows.sipNumbersSpec.pre6 enc Try.prog Try.f11 [] false) (Rows.sipNumbersSpec.post enc Try.prog Try.f11 false true false false) :=
  law_step (s := Rows.sipNumbersSpec) started (by kernel_rfl) Try.func11
    (ChangeSpec.witness6 (s := Rows.sipNumbersSpec) (enc := enc) (C := Try.checked) false ⟨#[], #[.int .u64 0, .int .u64 0, .int .i64 0, .int .i64 0], []⟩ 8 (by kernel_rfl) (by kernel_rfl) (by kernel_rfl) (by kernel_rfl))
    rfl (by rw [Try.params11]; decide +kernel) rfl Try.underlying4
    (fun ds h => by
      rw [Try.params11] at h
      match ds, h with
      | [_, _, _, _], _ => rfl)
    (fun W base args ds ps hval hA hsz => by
      rw [Try.params11] at hA hval hsz
      obtain ⟨v0, vs0, d0, ds0, p0, q0, hargs, rfl, rfl, h0, r0⟩ := trodAll_cons hA
      obtain ⟨v1, vs1, d1, ds1, p1, q1, rfl, rfl, rfl, h1, r1⟩ := trodAll_cons r0
      obtain ⟨v2, vs2, d2, ds2, p2, q2, rfl, rfl, rfl, h2, r2⟩ := trodAll_cons r1
      obtain ⟨v3, vs3, d3, ds3, p3, q3, rfl, rfl, rfl, h3, r3⟩ := trodAll_cons r2
      obtain ⟨rfl, rfl, rfl⟩ := trodAll_nil r3
      obtain rfl : args = #[v0, v1, v2, v3] := by cases args; simp_all
      obtain ⟨a0, rfl, rfl, rfl, w0⟩ := open_int Try.underlying22 (hval 0 22 v0 rfl rfl) h0
      obtain ⟨a1, rfl, rfl, rfl, w1⟩ := open_int Try.underlying22 (hval 1 22 v1 rfl rfl) h1
      obtain ⟨a2, rfl, rfl, rfl, w2⟩ := open_int Try.underlying3 (hval 2 3 v2 rfl rfl) h2
      obtain ⟨a3, rfl, rfl, rfl, w3⟩ := open_int Try.underlying3 (hval 3 3 v3 rfl rfl) h3
      exact walk W a0 (bounds_u64 w0) a1 (bounds_u64 w1) a2 (bounds_i64 w2) a3 (bounds_i64 w3))

theorem proved : Rows.SipNumbersSaid :=
  OpenClaim.holds_of_wide 11 Try.f11 rfl rfl rfl rfl rfl rfl rfl ⟨rfl, rfl, rfl, rfl, rfl⟩ rfl rfl rfl rfl rfl (by kernel_rfl) Try.func11 (by kernel_rfl)
    (of_decide_eq_true (by kernel_rfl)) (by unfold Func.isWrapper; first | (rw [if_pos (by decide +kernel)]; kernel_rfl) | (rw [if_neg (by decide +kernel)]; exact ⟨rfl, rfl⟩))
    (fun os started H enc _ => lifted os started H enc)
end Go.Proofs.Ytgmfclpnmhgapaa.sipNumbers
