/- Fronts and lengthenings of options. -/
import Derived.Test.YtdbfpoplhmonhaaOptSome
namespace Go.Proofs.Ytdbfpoplhmonhaa
set_option linter.unusedVariables false
set_option linter.unusedSimpArgs false
open Go.RowKit Go.ChangeShapes Go.WideShapes Go.ChangeAt

theorem one_more {g g' : Nat → Int} {n n' a : Nat} {o : Int × Int × Int} (hag : ∀ j, j < n → g' j = g j) (hnn : n ≤ n') (ho : oneO g n a = some o) (ha : a < n) : oneO g' n' a = some o := by
  unfold oneO at ho ⊢
  rw [hag a ha]
  by_cases h1 : g a < 2
  · rw [if_pos h1] at ho ⊢; exact ho
  · rw [if_neg h1] at ho ⊢
    by_cases h2 : n ≤ a + 1
    · rw [if_pos h2] at ho; cases ho
    · rw [if_neg h2] at ho
      rw [if_neg (by omega), hag (a + 1) (by omega)]
      by_cases h3 : g (a + 1) < 2
      · rw [if_pos h3] at ho; cases ho
      · rw [if_neg h3] at ho ⊢
        by_cases h4 : (n : Int) - a < g (a + 1)
        · rw [if_pos h4] at ho; cases ho
        · rw [if_neg h4] at ho
          rw [if_neg (by omega)]
          exact ho
theorem one_less {g : Nat → Int} {n n' a : Nat} {o : Int × Int × Int} (ho : oneO g n a = some o) (ha : a < n) (hn : a + o.2.2 ≤ n') : oneO g n' a = some o := by
  have hi := one_is ho ha
  unfold oneO at ho ⊢
  by_cases h1 : g a < 2
  · rw [if_pos h1] at ho ⊢; exact ho
  · rw [if_neg h1] at ho ⊢
    by_cases h2 : n ≤ a + 1
    · rw [if_pos h2] at ho; cases ho
    · rw [if_neg h2] at ho
      by_cases h3 : g (a + 1) < 2
      · rw [if_pos h3] at ho; cases ho
      · rw [if_neg h3] at ho
        by_cases h4 : (n : Int) - a < g (a + 1)
        · rw [if_pos h4] at ho; cases ho
        · rw [if_neg h4] at ho
          injection ho with ho
          subst ho
          simp only at hn
          rw [if_neg (by omega), if_neg h3, if_neg (by omega)]
theorem tiled_more {g g' : Nat → Int} {n n' : Nat} (hag : ∀ j, j < n → g' j = g j) (hnn : n ≤ n') : ∀ (l : List (Int × Int × Int)) (a : Nat), Tiled g n a l → (∃ o, l.getLast? = some o ∧ o.1 = 0) → Tiled g' n' a l := by
  intro l
  induction l with
  | nil => intro a h ⟨o, ho, _⟩; cases ho
  | cons o l ih =>
    intro a ⟨h1, ha, h⟩ ⟨x, hx, hx0⟩
    refine ⟨one_more hag hnn h1 ha, by omega, ?_⟩
    rcases h with ⟨hk, rfl⟩ | ⟨hk, h⟩
    · exact .inl ⟨hk, rfl⟩
    · refine .inr ⟨hk, ih _ h ?_⟩
      cases l with
      | nil => simp at hx; subst hx; exact absurd hx0 hk
      | cons y l => rw [List.getLast?_cons_cons] at hx; exact ⟨x, hx, hx0⟩
theorem tiled_from {g : Nat → Int} {n : Nat} : ∀ (l : List (Int × Int × Int)) (a : Nat), Tiled g n a l → ∀ o ∈ l, (a : Int) ≤ o.2.1 := by
  intro l
  induction l with
  | nil => intro a h o ho; cases ho
  | cons o l ih =>
    intro a ⟨h1, ha, h⟩ x hx
    have hi := one_is h1 ha
    rcases List.mem_cons.1 hx with rfl | hx
    · omega
    · rcases h with ⟨_, rfl⟩ | ⟨_, h⟩
      · cases hx
      · have := ih _ h x hx
        omega
theorem tiled_front {g : Nat → Int} {n : Nat} : ∀ (l : List (Int × Int × Int)) (a k : Nat) (hk : k < l.length), Tiled g n a l → Tiled g (l[k].2.1.toNat) a (l.take k) := by
  intro l
  induction l with
  | nil => intro a k hk; simp at hk
  | cons o l ih =>
    intro a k hk ⟨h1, ha, h⟩
    have hi := one_is h1 ha
    cases k with
    | zero => show (_ : Nat) ≤ a; simp; omega
    | succ k =>
      simp only [List.length_cons] at hk
      rcases h with ⟨_, rfl⟩ | ⟨h0, h⟩
      · simp at hk
      · have hkl : k < l.length := by omega
        have hf := tiled_from l _ h l[k] (List.getElem_mem hkl)
        simp only [List.getElem_cons_succ, List.take_succ_cons]
        have hr := ih (a + o.2.2.toNat) k hkl h
        exact ⟨one_less h1 ha (by omega), by omega, .inr ⟨h0, hr⟩⟩
theorem walk_front {g : Nat → Int} {n k : Nat} {l : List (Int × Int × Int)} (hw : walk g n 0 = some l) (hk : k < l.length) : walk g (l[k].2.1.toNat) 0 = some (l.take k) :=
  of_tiled g _ _ 0 (tiled_front l 0 k hk (tiled_of g n n 0 l (by omega) hw))
theorem walk_behind {g g' : Nat → Int} {n n' : Nat} {l : List (Int × Int × Int)} (hag : ∀ j, j < n → g' j = g j) (hnn : n ≤ n') (hw : walk g n 0 = some l) (hl : ∃ o, l.getLast? = some o ∧ o.1 = 0) :
    walk g' n' 0 = some l ∧ stamp g' n' = stamp g n := by
  have h1 := of_tiled g' n' l 0 (tiled_more hag hnn l 0 (tiled_of g n n 0 l (by omega) hw) hl)
  refine ⟨h1, ?_⟩
  unfold stamp
  rw [h1, hw]
  unfold stS
  simp only
  cases hf : fst l with
  | none => rfl
  | some o =>
    obtain ⟨p1, p2, p3⟩ := fst_is hw hf
    simp only
    unfold num
    rw [hag _ (by omega), hag _ (by omega), hag _ (by omega), hag _ (by omega), hag _ (by omega), hag _ (by omega), hag _ (by omega), hag _ (by omega)]
theorem last_is {l : List (Int × Int × Int)} (h : 0 < l.length) (hk : (l[l.length - 1]'(by omega)).1 = 0) : ∃ o, l.getLast? = some o ∧ o.1 = 0 :=
  ⟨_, by rw [List.getLast?_eq_getElem?, List.getElem?_eq_getElem (by omega)], hk⟩
end Go.Proofs.Ytdbfpoplhmonhaa
