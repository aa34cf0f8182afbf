/- A region whose order is open, by what holds of each operation that has come up: no branch for each order. -/
import Derived.Test.YtdobcdhdeagekaaTakes
namespace Go.Proofs.Ytdobcdhdeagekaa
set_option linter.unusedVariables false
open Go.RowKit Go.ChangeShapes Go.WideShapes Go.ChangeAt

/-- What has come up, as an array. -/
def lst (n : Nat) (L : Nat → Bool) : Array Bool := ((List.range n).map L).toArray
def up (L : Nat → Bool) (i : Nat) : Nat → Bool := fun j => if j = i then true else L j
theorem up_self (L : Nat → Bool) (i : Nat) : up L i i = true := by simp [up]
theorem up_ne {L : Nat → Bool} {i j : Nat} (h : j ≠ i) : up L i j = L j := by simp [up, h]
theorem lst_get (n : Nat) (L : Nat → Bool) (i : Nat) (d : Bool) : (lst n L).getD i d = if i < n then L i else d := by
  unfold lst
  by_cases h : i < n
  · simp [Array.getD, h]
  · simp [Array.getD, h]
theorem lst_set (n : Nat) (L : Nat → Bool) (i : Nat) : (lst n L).setIfInBounds i true = lst n (up L i) := by
  unfold lst
  apply Array.ext
  · simp
  · intro j h1 h2
    simp only [List.setIfInBounds_toArray, List.getElem_toArray, List.getElem_set, List.getElem_map, List.getElem_range, up]
    by_cases e : i = j
    · rw [if_pos e, if_pos e.symm]
    · rw [if_neg e, if_neg (Ne.symm e)]
/-- How many have not come up. -/
def left_ (n : Nat) (L : Nat → Bool) : Nat := ((List.range n).filter fun i => !L i).length
theorem filter_len {α : Type} (p q : α → Bool) : ∀ (l : List α), (∀ x ∈ l, q x = true → p x = true) → (l.filter q).length ≤ (l.filter p).length
  | [], _ => Nat.le_refl _
  | x :: l, h => by
    have ih := filter_len p q l fun y hy => h y (List.mem_cons_of_mem _ hy)
    have h0 := h x (List.mem_cons_self ..)
    cases e : q x
    · rw [List.filter_cons_of_neg (by rw [e]; decide)]
      cases e' : p x
      · rwa [List.filter_cons_of_neg (by rw [e']; decide)]
      · rw [List.filter_cons_of_pos e']; simp only [List.length_cons]; omega
    · rw [List.filter_cons_of_pos e, List.filter_cons_of_pos (h0 e)]; simp only [List.length_cons]; omega
theorem filter_lt {α : Type} (p q : α → Bool) : ∀ (l : List α), (∀ x ∈ l, q x = true → p x = true) → (∃ x ∈ l, p x = true ∧ q x = false) → (l.filter q).length < (l.filter p).length
  | [], _, ⟨_, hx, _⟩ => by cases hx
  | x :: l, h, hx => by
    have hl : ∀ y ∈ l, q y = true → p y = true := fun y hy => h y (List.mem_cons_of_mem _ hy)
    have h0 := h x (List.mem_cons_self ..)
    have le := filter_len p q l hl
    cases e : q x
    · rw [List.filter_cons_of_neg (by rw [e]; decide)]
      cases e' : p x
      · rw [List.filter_cons_of_neg (by rw [e']; decide)]
        refine filter_lt p q l hl ?_
        obtain ⟨y, hy, h1, h2⟩ := hx
        rcases List.mem_cons.1 hy with rfl | hy
        · rw [e'] at h1; cases h1
        · exact ⟨y, hy, h1, h2⟩
      · rw [List.filter_cons_of_pos e']; simp only [List.length_cons]; omega
    · rw [List.filter_cons_of_pos e, List.filter_cons_of_pos (h0 e)]
      simp only [List.length_cons]
      have := filter_lt p q l hl (by
        obtain ⟨y, hy, h1, h2⟩ := hx
        rcases List.mem_cons.1 hy with rfl | hy
        · rw [e] at h2; cases h2
        · exact ⟨y, hy, h1, h2⟩)
      omega
theorem left_up {n : Nat} {L : Nat → Bool} {i : Nat} (hi : i < n) (h : L i = false) : left_ n (up L i) < left_ n L := by
  refine filter_lt _ _ _ (fun x _ hx => ?_) ⟨i, by simpa using hi, by rw [h]; rfl, by rw [up_self]; rfl⟩
  by_cases e : x = i
  · subst e; rw [h]; rfl
  · rwa [up_ne e] at hx
/-- Each operation waits only for such as stand ahead of it. -/
def ahead (md : Region.Mode) (ops : Array Oper) : Bool := (List.range ops.size).all fun i => ((ops[i]?).map (·.after.all fun e => !Region.binds md e || decide (e.on < i))).getD true
section
variable {P : Program} {ops : Array Oper} {Q : Exit → Act → World → Prop} {md : Region.Mode} {S : World → Prop}
theorem least_not {n : Nat} {L : Nat → Bool} (h : ∃ i, i < n ∧ L i = false) : ∃ i, i < n ∧ L i = false ∧ ∀ j, j < i → L j = true := by
  obtain ⟨i, hi, h0⟩ := h
  induction i using Nat.strongRecOn with
  | _ i ih =>
    by_cases hx : ∃ j, j < i ∧ L j = false
    · obtain ⟨j, hj, hj0⟩ := hx
      exact ih j hj (by omega) hj0
    · exact ⟨i, hi, h0, fun j hj => by cases e : L j; exact absurd ⟨j, hj, e⟩ hx; rfl⟩
theorem ready_some (ho : ahead md ops = true) {L : Nat → Bool} (h : ∃ i, i < ops.size ∧ L i = false) : Region.ready md ops (lst ops.size L) ≠ [] := by
  obtain ⟨i, hi, h0, hb⟩ := least_not h
  intro e
  have hm : i ∈ Region.ready md ops (lst ops.size L) := by
    refine mem_ready.2 ⟨by rw [lst_get, if_pos hi, h0], ops[i], Array.getElem?_eq_getElem hi, fun e he hbd => ?_⟩
    unfold ahead at ho
    rw [List.all_eq_true] at ho
    have h1 := ho i (by simpa using hi)
    rw [Array.getElem?_eq_getElem hi] at h1
    simp only [Option.map_some, Option.getD_some] at h1
    have h2 := Array.all_eq_true_iff_forall_mem.1 h1 e he
    rw [hbd] at h2
    simp only [Bool.not_true, Bool.false_or, decide_eq_true_eq] at h2
    rw [lst_get, if_pos (by omega), hb _ h2]
  rw [e] at hm
  cases hm
theorem float_run (J : (Nat → Bool) → Act → World → Prop) (ho : ahead md ops = true)
    (step : ∀ L a w, J L a w → ∀ i o, ops[i]? = some o → L i = false → (∀ e ∈ o.after, Region.binds md e = true → L e.on = true) →
      ∀ K : Act → World → Prop, Shut (∀ a w, S w → J (up L i) a w → K a w) → if Region.wanted o (yielded ops a.tmps) = true then Oper.wp P o a w K Q else K (a.put o.dst undef) w)
    (stop : ∀ L a w, J L a w → (∀ i, i < ops.size → L i = true) → Q .normal a w) :
    ∀ (fuel : Nat) (L : Nat → Bool) (a : Act) (w : World), left_ ops.size L ≤ fuel → J L a w → wpAnyH P md ops Q S fuel (lst ops.size L) a w := by
  intro fuel
  have full : ∀ L : Nat → Bool, Region.ready md ops (lst ops.size L) = [] → ∀ i, i < ops.size → L i = true := fun L h i hi => by
    cases e : L i
    · exact absurd h (ready_some ho ⟨i, hi, e⟩)
    · rfl
  induction fuel with
  | zero =>
    intro L a w hl hJ
    have hall : ∀ i, i < ops.size → L i = true := fun i hi => by
      cases e : L i
      · have := left_up hi e; omega
      · rfl
    refine ⟨?_, stop L a w hJ hall⟩
    cases hr : Region.ready md ops (lst ops.size L) with
    | nil => rfl
    | cons x r =>
      have hx : x ∈ Region.ready md ops (lst ops.size L) := by rw [hr]; exact List.mem_cons_self ..
      obtain ⟨h1, o, h2, _⟩ := mem_ready.1 hx
      have hlt : x < ops.size := (Array.getElem?_eq_some_iff.1 h2).1
      rw [lst_get, if_pos hlt, hall x hlt] at h1
      cases h1
  | succ fuel ih =>
    intro L a w hl hJ
    refine ⟨fun h => stop L a w hJ (full L h), fun i hi => ?_⟩
    obtain ⟨h1, o, h2, h3⟩ := mem_ready.1 hi
    have hlt : i < ops.size := (Array.getElem?_eq_some_iff.1 h2).1
    rw [lst_get, if_pos hlt] at h1
    have hb : ∀ e ∈ o.after, Region.binds md e = true → L e.on = true := fun e he hbd => by
      have := h3 e he hbd
      rw [lst_get] at this
      split at this
      · exact this
      · cases this
    refine wpOp_step h2 (fun K' hK => step L a w hJ i o h2 h1 hb K' (fun a' w' hS hJ' => hK a' w' ⟨hS, ?_⟩))
    rw [lst_set]
    exact ih (up L i) a' w' (by have := left_up hlt h1; omega) hJ'
/-- What one operation does to J. -/
def StepAt (P : Program) (ops : Array Oper) (Q : Exit → Act → World → Prop) (md : Region.Mode) (S : World → Prop) (J : (Nat → Bool) → Act → World → Prop) (i : Nat) : Prop :=
  ∀ L a w o, J L a w → ops[i]? = some o → L i = false → (∀ e ∈ o.after, Region.binds md e = true → L e.on = true) →
    ∀ K : Act → World → Prop, Shut (∀ a w, S w → J (up L i) a w → K a w) → if Region.wanted o (yielded ops a.tmps) = true then Oper.wp P o a w K Q else K (a.put o.dst undef) w
theorem step_at {J : (Nat → Bool) → Act → World → Prop} (i : Nat) {M rest : List Oper} {o : Oper} (ho : M.drop i = o :: rest) (hg : o.guard = none)
    (h : ∀ L a w, J L a w → L i = false → (∀ e ∈ o.after, Region.binds md e = true → L e.on = true) → ∀ K : Act → World → Prop, Shut (∀ a w, S w → J (up L i) a w → K a w) → Oper.wp P o a w K Q) : StepAt P M.toArray Q md S J i := by
  intro L a w o' hJ ho' hL hb K hK
  rw [at_drop ho] at ho'
  obtain rfl := Option.some.inj ho'
  rw [if_pos (by simp [Region.wanted, hg])]
  exact h L a w hJ hL hb K hK
theorem all_cons {p : Nat → Prop} {i : Nat} {l : List Nat} (h : p i) (hl : ∀ j ∈ l, p j) : ∀ j ∈ i :: l, p j := fun j hj => by
  rcases List.mem_cons.1 hj with rfl | hj
  · exact h
  · exact hl j hj
theorem all_nil {p : Nat → Prop} : ∀ j ∈ ([] : List Nat), p j := fun _ h => by cases h
/-- The rest of a region, those of fl in whatever order; J speaks of the frame as it was, of what has come up, of the frame and the world as they are. -/
theorem float_at (J : Act → (Nat → Bool) → Act → World → Prop) (fl : List Nat) {fuel : Nat} {listed : Array Bool} {a0 : Act} {w0 : World} (hl : listed = lst ops.size (fun j => listed.getD j true)) (hf : left_ ops.size (fun j => listed.getD j true) ≤ fuel) (ho : ahead md ops = true)
    (taken : ∀ L a w, J a0 L a w → ∀ i, i < ops.size → i ∉ fl → L i = true) (start : J a0 (fun j => listed.getD j true) a0 w0)
    (steps : ∀ i ∈ fl, StepAt P ops Q md S (J a0) i) (stop : ∀ L a w, J a0 L a w → (∀ i, i < ops.size → L i = true) → Q .normal a w) : wpAnyH P md ops Q S fuel listed a0 w0 := by
  rw [hl]
  refine float_run (J a0) ho (fun L a w hJ i o hi hL hb => ?_) stop fuel _ a0 w0 hf start
  have hlt : i < ops.size := (Array.getElem?_eq_some_iff.1 hi).1
  have hm : i ∈ fl := by
    by_cases h : i ∈ fl
    · exact h
    · rw [taken L a w hJ i hlt h] at hL; cases hL
  exact steps i hm L a w o hJ hi hL hb
end
end Go.Proofs.Ytdobcdhdeagekaa
