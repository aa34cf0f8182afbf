/- Cookies together and apart; their tags. -/
import Derived.Test.YtfokkmemjkfifabCook1
namespace Go.Proofs.Ytfokkmemjkfifab
set_option linter.unusedVariables false
set_option linter.unusedSimpArgs false
open Go.RowKit Go.ChangeShapes Go.WideShapes Go.ChangeAt

theorem tog1 (e m t : Int) (he : 0 ≤ e ∧ e < 4) (hm : 0 ≤ m ∧ m < 64) (ht : 0 ≤ t ∧ t < 4096) :
    bits .or .i64 (bits .or .i64 (e % 4 * 262144) (m % 64 * 4096)) (t % 4096) = e * (64 * 4096) + m * 4096 + t := by
  rw [show e % 4 = e from by omega, show m % 64 = m from by omega, show t % 4096 = t from by omega, or_join e (m * 4096) 262144 18 rfl (by omega) (by omega) (by omega) (by omega) (by omega),
    show e * 262144 + m * 4096 = (e * 64 + m) * 4096 from by omega, or_join (e * 64 + m) t 4096 12 rfl (by omega) (by omega) (by omega) (by omega) (by omega)]
  omega
theorem tog2 (e m t : Int) (he : 0 ≤ e ∧ e < 4) (hm : 0 ≤ m ∧ m < 64) (ht : 0 ≤ t ∧ t < 256) :
    bits .or .i64 (bits .or .i64 (e % 4 * 16384) (m % 64 * 256)) (t % 256) = e * (64 * 256) + m * 256 + t := by
  rw [show e % 4 = e from by omega, show m % 64 = m from by omega, show t % 256 = t from by omega, or_join e (m * 256) 16384 14 rfl (by omega) (by omega) (by omega) (by omega) (by omega),
    show e * 16384 + m * 256 = (e * 64 + m) * 256 from by omega, or_join (e * 64 + m) t 256 8 rfl (by omega) (by omega) (by omega) (by omega) (by omega)]
  omega

theorem together1 (e m t : Int) (he : 0 ≤ e ∧ e < 4) (hm : 0 ≤ m ∧ m < 64) (ht : 0 ≤ t ∧ t < 4096) (w : World) :
    Calls Try.prog 19 #[shV 4096, ptV e m t] w fun e' w' => e' = .returned (.int .i64 (e * (64 * 4096) + m * 4096 + t)) ∧ Below w.heap.size w w' := by
  have H := hid (tog1 e m t he hm ht)
  rw [shV1]
  unfold ptV
  clear he hm ht
  go_enter Try.func19, Try.ntmps19
  go_wp2_with fail
  have CK := Ce.made (w := w) (l := [.int .u64 18, .int .u64 2, .int .u64 12, .int .u64 6, .int .u64 0, .int .u64 12]) (T := 50) (g := w.heap.size) rfl
  have CK := CK.alloc (.cells #[.int .i64 e, .int .i64 m, .int .i64 t] 54)
  have CL := Ce.made (w := (w.alloc (.cells #[.int .u64 18, .int .u64 2, .int .u64 12, .int .u64 6, .int .u64 0, .int .u64 12] 50))) (l := [.int .i64 e, .int .i64 m, .int .i64 t]) (T := 54) (g := w.heap.size + 1) (by simp)
  have B : Below w.heap.size w ((w.alloc (.cells #[.int .u64 18, .int .u64 2, .int .u64 12, .int .u64 6, .int .u64 0, .int .u64 12] 50)).alloc (.cells #[.int .i64 e, .int .i64 m, .int .i64 t] 54)) := (((Below.refl _ _).alloc (Nat.le_refl _) (.cells #[.int .u64 18, .int .u64 2, .int .u64 12, .int .u64 6, .int .u64 0, .int .u64 12] 50)).alloc (by first | (simp; done) | (have := Nat.le_refl 0; simp at this ⊢; omega)) (.cells #[.int .i64 e, .int .i64 m, .int .i64 t] 54))
  obtain ⟨kK, qK, zK⟩ := CK
  have cK0 := qK 0 _ rfl
  have cK1 := qK 1 _ rfl
  have cK2 := qK 2 _ rfl
  have cK3 := qK 3 _ rfl
  have cK4 := qK 4 _ rfl
  have cK5 := qK 5 _ rfl
  clear qK zK
  obtain ⟨kL, qL, zL⟩ := CL
  have cL0 := qL 0 _ rfl
  have cL1 := qL 1 _ rfl
  have cL2 := qL 2 _ rfl
  clear qL zL
  generalize (w.alloc (.cells #[.int .u64 18, .int .u64 2, .int .u64 12, .int .u64 6, .int .u64 0, .int .u64 12] 50)).alloc (.cells #[.int .i64 e, .int .i64 m, .int .i64 t] 54) = w1 at *
  generalize w.heap.size + 1 = L at *
  generalize hK : w.heap.size = K at *
  go_region_held3 (fun w' => w'.cell? ⟨K, 0, none⟩ = some (.int .u64 18) ∧ w'.cell? ⟨K, 1, none⟩ = some (.int .u64 2) ∧ w'.cell? ⟨K, 2, none⟩ = some (.int .u64 12) ∧ w'.cell? ⟨K, 3, none⟩ = some (.int .u64 6) ∧ w'.cell? ⟨K, 4, none⟩ = some (.int .u64 0) ∧ w'.cell? ⟨K, 5, none⟩ = some (.int .u64 12) ∧ w'.cell? ⟨L, 0, none⟩ = some (.int .i64 e) ∧ w'.cell? ⟨L, 1, none⟩ = some (.int .i64 m) ∧ w'.cell? ⟨L, 2, none⟩ = some (.int .i64 t) ∧ K < w'.heap.size ∧ L < w'.heap.size ∧ Below K w w')
    (first
      | (go_split_ands; refine ⟨?_, ?_, ?_, ?_, ?_, ?_, ?_, ?_, ?_, ?_, ?_, ?_⟩; exact (hb5.cell (p := ⟨K, 0, none⟩) (by assumption)).trans (by assumption); exact (hb5.cell (p := ⟨K, 1, none⟩) (by assumption)).trans (by assumption); exact (hb5.cell (p := ⟨K, 2, none⟩) (by assumption)).trans (by assumption); exact (hb5.cell (p := ⟨K, 3, none⟩) (by assumption)).trans (by assumption); exact (hb5.cell (p := ⟨K, 4, none⟩) (by assumption)).trans (by assumption); exact (hb5.cell (p := ⟨K, 5, none⟩) (by assumption)).trans (by assumption); exact (hb5.cell (p := ⟨L, 0, none⟩) (by assumption)).trans (by assumption); exact (hb5.cell (p := ⟨L, 1, none⟩) (by assumption)).trans (by assumption); exact (hb5.cell (p := ⟨L, 2, none⟩) (by assumption)).trans (by assumption); exact Nat.lt_of_lt_of_le (by assumption) hb5.size; exact Nat.lt_of_lt_of_le (by assumption) hb5.size; exact Below.trans (by assumption) (hb5.mono (by first | exact Nat.le_of_lt (by assumption) | exact Below.size (by assumption))))
      | (refine ⟨?_, ?_, ?_, ?_, ?_, ?_, ?_, ?_, ?_, ?_, ?_, ?_⟩; assumption; assumption; assumption; assumption; assumption; assumption; assumption; assumption; assumption; assumption; assumption; exact Below.drew (by assumption))
      | (go_split_ands; refine ⟨?_, ?_, ?_, ?_, ?_, ?_, ?_, ?_, ?_, ?_, ?_, ?_⟩; exact (World.cell?_alloc_lt _ _ ⟨K, 0, none⟩ (by assumption)).trans (by assumption); exact (World.cell?_alloc_lt _ _ ⟨K, 1, none⟩ (by assumption)).trans (by assumption); exact (World.cell?_alloc_lt _ _ ⟨K, 2, none⟩ (by assumption)).trans (by assumption); exact (World.cell?_alloc_lt _ _ ⟨K, 3, none⟩ (by assumption)).trans (by assumption); exact (World.cell?_alloc_lt _ _ ⟨K, 4, none⟩ (by assumption)).trans (by assumption); exact (World.cell?_alloc_lt _ _ ⟨K, 5, none⟩ (by assumption)).trans (by assumption); exact (World.cell?_alloc_lt _ _ ⟨L, 0, none⟩ (by assumption)).trans (by assumption); exact (World.cell?_alloc_lt _ _ ⟨L, 1, none⟩ (by assumption)).trans (by assumption); exact (World.cell?_alloc_lt _ _ ⟨L, 2, none⟩ (by assumption)).trans (by assumption); (simp; omega); (simp; omega); exact Below.alloc (by assumption) (by first | exact Nat.le_of_lt (by assumption) | exact Below.size (by assumption)) _)
      | (go_split_ands; refine ⟨?_, ?_, ?_, ?_, ?_, ?_, ?_, ?_, ?_, ?_, ?_, ?_⟩; exact (World.cell?_alloc_lt _ _ ⟨K, 0, none⟩ (by assumption)).trans (by assumption); exact (World.cell?_alloc_lt _ _ ⟨K, 1, none⟩ (by assumption)).trans (by assumption); exact (World.cell?_alloc_lt _ _ ⟨K, 2, none⟩ (by assumption)).trans (by assumption); exact (World.cell?_alloc_lt _ _ ⟨K, 3, none⟩ (by assumption)).trans (by assumption); exact (World.cell?_alloc_lt _ _ ⟨K, 4, none⟩ (by assumption)).trans (by assumption); exact (World.cell?_alloc_lt _ _ ⟨K, 5, none⟩ (by assumption)).trans (by assumption); exact (World.cell?_alloc_lt _ _ ⟨L, 0, none⟩ (by assumption)).trans (by assumption); exact (World.cell?_alloc_lt _ _ ⟨L, 1, none⟩ (by assumption)).trans (by assumption); exact (World.cell?_alloc_lt _ _ ⟨L, 2, none⟩ (by assumption)).trans (by assumption); exact Nat.lt_of_lt_of_le (by assumption) (Below.drew (Below.alloc (Below.refl _ _) (Nat.le_refl _) _)).size; exact Nat.lt_of_lt_of_le (by assumption) (Below.drew (Below.alloc (Below.refl _ _) (Nat.le_refl _) _)).size; exact Below.drew (Below.alloc (by assumption) (Below.size (by assumption)) _))
      | (go_split_ands; refine ⟨?_, ?_, ?_, ?_, ?_, ?_, ?_, ?_, ?_, ?_, ?_, ?_⟩; assumption; assumption; assumption; assumption; assumption; assumption; assumption; assumption; assumption; assumption; assumption; assumption)
      | go_keep)
    ((first
      | (go_at_call 36
         go_split_ands
         with_reducible refine (laidI 18 2 _ _ ?_).mono ?_
         · decide
         rintro e w5 ⟨rfl, hb5⟩)
      | (go_at_call 36
         go_split_ands
         with_reducible refine (laidI 12 6 _ _ ?_).mono ?_
         · decide
         rintro e w5 ⟨rfl, hb5⟩)
      | (go_at_call 36
         go_split_ands
         with_reducible refine (laidI 0 12 _ _ ?_).mono ?_
         · decide
         rintro e w5 ⟨rfl, hb5⟩)))
  all_goals
    go_split_ands
    go_wp2_with fail
    go_ret
    exact ⟨ret_i64 H.out, by first | assumption | (rw [hK]; assumption)⟩
theorem together2 (e m t : Int) (he : 0 ≤ e ∧ e < 4) (hm : 0 ≤ m ∧ m < 64) (ht : 0 ≤ t ∧ t < 256) (w : World) :
    Calls Try.prog 19 #[shV 256, ptV e m t] w fun e' w' => e' = .returned (.int .i64 (e * (64 * 256) + m * 256 + t)) ∧ Below w.heap.size w w' := by
  have H := hid (tog2 e m t he hm ht)
  rw [shV2]
  unfold ptV
  clear he hm ht
  go_enter Try.func19, Try.ntmps19
  go_wp2_with fail
  have CK := Ce.made (w := w) (l := [.int .u64 14, .int .u64 2, .int .u64 8, .int .u64 6, .int .u64 0, .int .u64 8]) (T := 50) (g := w.heap.size) rfl
  have CK := CK.alloc (.cells #[.int .i64 e, .int .i64 m, .int .i64 t] 54)
  have CL := Ce.made (w := (w.alloc (.cells #[.int .u64 14, .int .u64 2, .int .u64 8, .int .u64 6, .int .u64 0, .int .u64 8] 50))) (l := [.int .i64 e, .int .i64 m, .int .i64 t]) (T := 54) (g := w.heap.size + 1) (by simp)
  have B : Below w.heap.size w ((w.alloc (.cells #[.int .u64 14, .int .u64 2, .int .u64 8, .int .u64 6, .int .u64 0, .int .u64 8] 50)).alloc (.cells #[.int .i64 e, .int .i64 m, .int .i64 t] 54)) := (((Below.refl _ _).alloc (Nat.le_refl _) (.cells #[.int .u64 14, .int .u64 2, .int .u64 8, .int .u64 6, .int .u64 0, .int .u64 8] 50)).alloc (by first | (simp; done) | (have := Nat.le_refl 0; simp at this ⊢; omega)) (.cells #[.int .i64 e, .int .i64 m, .int .i64 t] 54))
  obtain ⟨kK, qK, zK⟩ := CK
  have cK0 := qK 0 _ rfl
  have cK1 := qK 1 _ rfl
  have cK2 := qK 2 _ rfl
  have cK3 := qK 3 _ rfl
  have cK4 := qK 4 _ rfl
  have cK5 := qK 5 _ rfl
  clear qK zK
  obtain ⟨kL, qL, zL⟩ := CL
  have cL0 := qL 0 _ rfl
  have cL1 := qL 1 _ rfl
  have cL2 := qL 2 _ rfl
  clear qL zL
  generalize (w.alloc (.cells #[.int .u64 14, .int .u64 2, .int .u64 8, .int .u64 6, .int .u64 0, .int .u64 8] 50)).alloc (.cells #[.int .i64 e, .int .i64 m, .int .i64 t] 54) = w1 at *
  generalize w.heap.size + 1 = L at *
  generalize hK : w.heap.size = K at *
  go_region_held3 (fun w' => w'.cell? ⟨K, 0, none⟩ = some (.int .u64 14) ∧ w'.cell? ⟨K, 1, none⟩ = some (.int .u64 2) ∧ w'.cell? ⟨K, 2, none⟩ = some (.int .u64 8) ∧ w'.cell? ⟨K, 3, none⟩ = some (.int .u64 6) ∧ w'.cell? ⟨K, 4, none⟩ = some (.int .u64 0) ∧ w'.cell? ⟨K, 5, none⟩ = some (.int .u64 8) ∧ w'.cell? ⟨L, 0, none⟩ = some (.int .i64 e) ∧ w'.cell? ⟨L, 1, none⟩ = some (.int .i64 m) ∧ w'.cell? ⟨L, 2, none⟩ = some (.int .i64 t) ∧ K < w'.heap.size ∧ L < w'.heap.size ∧ Below K w w')
    (first
      | (go_split_ands; refine ⟨?_, ?_, ?_, ?_, ?_, ?_, ?_, ?_, ?_, ?_, ?_, ?_⟩; exact (hb5.cell (p := ⟨K, 0, none⟩) (by assumption)).trans (by assumption); exact (hb5.cell (p := ⟨K, 1, none⟩) (by assumption)).trans (by assumption); exact (hb5.cell (p := ⟨K, 2, none⟩) (by assumption)).trans (by assumption); exact (hb5.cell (p := ⟨K, 3, none⟩) (by assumption)).trans (by assumption); exact (hb5.cell (p := ⟨K, 4, none⟩) (by assumption)).trans (by assumption); exact (hb5.cell (p := ⟨K, 5, none⟩) (by assumption)).trans (by assumption); exact (hb5.cell (p := ⟨L, 0, none⟩) (by assumption)).trans (by assumption); exact (hb5.cell (p := ⟨L, 1, none⟩) (by assumption)).trans (by assumption); exact (hb5.cell (p := ⟨L, 2, none⟩) (by assumption)).trans (by assumption); exact Nat.lt_of_lt_of_le (by assumption) hb5.size; exact Nat.lt_of_lt_of_le (by assumption) hb5.size; exact Below.trans (by assumption) (hb5.mono (by first | exact Nat.le_of_lt (by assumption) | exact Below.size (by assumption))))
      | (refine ⟨?_, ?_, ?_, ?_, ?_, ?_, ?_, ?_, ?_, ?_, ?_, ?_⟩; assumption; assumption; assumption; assumption; assumption; assumption; assumption; assumption; assumption; assumption; assumption; exact Below.drew (by assumption))
      | (go_split_ands; refine ⟨?_, ?_, ?_, ?_, ?_, ?_, ?_, ?_, ?_, ?_, ?_, ?_⟩; exact (World.cell?_alloc_lt _ _ ⟨K, 0, none⟩ (by assumption)).trans (by assumption); exact (World.cell?_alloc_lt _ _ ⟨K, 1, none⟩ (by assumption)).trans (by assumption); exact (World.cell?_alloc_lt _ _ ⟨K, 2, none⟩ (by assumption)).trans (by assumption); exact (World.cell?_alloc_lt _ _ ⟨K, 3, none⟩ (by assumption)).trans (by assumption); exact (World.cell?_alloc_lt _ _ ⟨K, 4, none⟩ (by assumption)).trans (by assumption); exact (World.cell?_alloc_lt _ _ ⟨K, 5, none⟩ (by assumption)).trans (by assumption); exact (World.cell?_alloc_lt _ _ ⟨L, 0, none⟩ (by assumption)).trans (by assumption); exact (World.cell?_alloc_lt _ _ ⟨L, 1, none⟩ (by assumption)).trans (by assumption); exact (World.cell?_alloc_lt _ _ ⟨L, 2, none⟩ (by assumption)).trans (by assumption); (simp; omega); (simp; omega); exact Below.alloc (by assumption) (by first | exact Nat.le_of_lt (by assumption) | exact Below.size (by assumption)) _)
      | (go_split_ands; refine ⟨?_, ?_, ?_, ?_, ?_, ?_, ?_, ?_, ?_, ?_, ?_, ?_⟩; exact (World.cell?_alloc_lt _ _ ⟨K, 0, none⟩ (by assumption)).trans (by assumption); exact (World.cell?_alloc_lt _ _ ⟨K, 1, none⟩ (by assumption)).trans (by assumption); exact (World.cell?_alloc_lt _ _ ⟨K, 2, none⟩ (by assumption)).trans (by assumption); exact (World.cell?_alloc_lt _ _ ⟨K, 3, none⟩ (by assumption)).trans (by assumption); exact (World.cell?_alloc_lt _ _ ⟨K, 4, none⟩ (by assumption)).trans (by assumption); exact (World.cell?_alloc_lt _ _ ⟨K, 5, none⟩ (by assumption)).trans (by assumption); exact (World.cell?_alloc_lt _ _ ⟨L, 0, none⟩ (by assumption)).trans (by assumption); exact (World.cell?_alloc_lt _ _ ⟨L, 1, none⟩ (by assumption)).trans (by assumption); exact (World.cell?_alloc_lt _ _ ⟨L, 2, none⟩ (by assumption)).trans (by assumption); exact Nat.lt_of_lt_of_le (by assumption) (Below.drew (Below.alloc (Below.refl _ _) (Nat.le_refl _) _)).size; exact Nat.lt_of_lt_of_le (by assumption) (Below.drew (Below.alloc (Below.refl _ _) (Nat.le_refl _) _)).size; exact Below.drew (Below.alloc (by assumption) (Below.size (by assumption)) _))
      | (go_split_ands; refine ⟨?_, ?_, ?_, ?_, ?_, ?_, ?_, ?_, ?_, ?_, ?_, ?_⟩; assumption; assumption; assumption; assumption; assumption; assumption; assumption; assumption; assumption; assumption; assumption; assumption)
      | go_keep)
    ((first
      | (go_at_call 36
         go_split_ands
         with_reducible refine (laidI 14 2 _ _ ?_).mono ?_
         · decide
         rintro e w5 ⟨rfl, hb5⟩)
      | (go_at_call 36
         go_split_ands
         with_reducible refine (laidI 8 6 _ _ ?_).mono ?_
         · decide
         rintro e w5 ⟨rfl, hb5⟩)
      | (go_at_call 36
         go_split_ands
         with_reducible refine (laidI 0 8 _ _ ?_).mono ?_
         · decide
         rintro e w5 ⟨rfl, hb5⟩)))
  all_goals
    go_split_ands
    go_wp2_with fail
    go_ret
    exact ⟨ret_i64 H.out, by first | assumption | (rw [hK]; assumption)⟩

end Go.Proofs.Ytfokkmemjkfifab
