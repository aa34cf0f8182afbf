/- The same, for some operations of a region of whom all the others wait: behind them the rest goes on as ever. -/
import Derived.Test.YtdobcdhdeagekaaFloat
namespace Go.Proofs.Ytdobcdhdeagekaa
set_option linter.unusedVariables false
open Go.RowKit Go.ChangeShapes Go.WideShapes Go.ChangeAt
section
variable {P : Program} {ops : Array Oper} {Q : Exit → Act → World → Prop} {md : Region.Mode} {S : World → Prop}
theorem wpAnyH_more : ∀ (n : Nat) (listed : Array Bool) (a : Act) (w : World), wpAnyH P md ops Q S n listed a w → wpAnyH P md ops Q S (n + 1) listed a w
  | 0, listed, a, w, h => ⟨fun _ => h.2, fun i hi => by rw [h.1] at hi; cases hi⟩
  | n + 1, listed, a, w, h => ⟨h.1, fun i hi => wpOp_mono (fun a' w' h' => ⟨h'.1, wpAnyH_more n _ a' w' h'.2⟩) (h.2 i hi)⟩
theorem wpAnyH_le {n m : Nat} (h : n ≤ m) {listed : Array Bool} {a : Act} {w : World} (hh : wpAnyH P md ops Q S n listed a w) : wpAnyH P md ops Q S m listed a w := by
  induction m with
  | zero => obtain rfl : n = 0 := by omega
            exact hh
  | succ m ih =>
    by_cases e : n = m + 1
    · subst e; exact hh
    · exact wpAnyH_more m _ _ _ (ih (by omega))
/-- What operation i waits for. -/
def waits (md : Region.Mode) (ops : Array Oper) (i : Nat) : List Nat := match ops[i]? with | none => [] | some o => (o.after.toList.filter fun e => Region.binds md e).map (·.on)
def anc (md : Region.Mode) (ops : Array Oper) : Nat → Nat → List Nat
  | 0, _ => []
  | d + 1, i => waits md ops i ++ (waits md ops i).flatMap (anc md ops d)
/-- What has come up, all has come up that it waited for. -/
def Closed (md : Region.Mode) (ops : Array Oper) (L : Nat → Bool) : Prop := ∀ i, L i = true → ∀ j ∈ waits md ops i, L j = true
theorem waits_mem {i : Nat} {o : Oper} (ho : ops[i]? = some o) {L : Nat → Bool} (h : ∀ e ∈ o.after, Region.binds md e = true → L e.on = true) : ∀ j ∈ waits md ops i, L j = true := by
  intro j hj
  unfold waits at hj
  rw [ho] at hj
  simp only [List.mem_map, List.mem_filter, Array.mem_toList_iff] at hj
  obtain ⟨e, ⟨h1, h2⟩, rfl⟩ := hj
  exact h e h1 h2
theorem anc_all {L : Nat → Bool} (hc : Closed md ops L) : ∀ (d i : Nat), (∀ j ∈ waits md ops i, L j = true) → ∀ j ∈ anc md ops d i, L j = true
  | 0, _, _, _, hj => by cases hj
  | d + 1, i, h, j, hj => by
    unfold anc at hj
    rcases List.mem_append.1 hj with hj | hj
    · exact h j hj
    · obtain ⟨k, hk, hj⟩ := List.mem_flatMap.1 hj
      exact anc_all hc d k (hc k (h k hk)) j hj
def tailB (md : Region.Mode) (ops : Array Oper) (fl : List Nat) (listed : Array Bool) (d : Nat) : Bool := (List.range ops.size).all fun i => fl.contains i || listed.getD i true || fl.all fun j => (anc md ops d i).contains j
theorem waits_none {i : Nat} (h : ops.size ≤ i) : waits md ops i = [] := by
  unfold waits
  rw [Array.getElem?_eq_none h]
theorem Closed.up_ {L : Nat → Bool} (hc : Closed md ops L) {i : Nat} (h : ∀ j ∈ waits md ops i, L j = true) : Closed md ops (up L i) := by
  intro k hk j hj
  have hup : ∀ x, L x = true → up L i x = true := fun x hx => by unfold up; split; rfl; exact hx
  by_cases e : k = i
  · subst e; exact hup j (h j hj)
  · rw [up_ne e] at hk; exact hup j (hc k hk j hj)
theorem float_mid (J : Act → (Nat → Bool) → Act → World → Prop) (fl : List Nat) (d n1 : Nat) {fuel : Nat} {listed listed1 : Array Bool} {a0 : Act} {w0 : World} (hl : listed = lst ops.size (fun j => listed.getD j true)) (hf : left_ ops.size (fun j => listed.getD j true) ≤ fuel)
    (ho : ahead md ops = true) (hfl : fl.all (fun j => decide (j < ops.size)) = true) (hcl : (List.range ops.size).all (fun i => !listed.getD i true || (waits md ops i).all fun j => listed.getD j true) = true) (ht : tailB md ops fl listed d = true)
    (h1 : listed1 = lst ops.size (fun j => fl.contains j || listed.getD j true)) (hn : n1 ≤ left_ ops.size (fun j => fl.contains j || listed.getD j true))
    (taken : ∀ L a w, J a0 L a w → ∀ i, i < ops.size → i ∉ fl → L i = listed.getD i true) (start : J a0 (fun j => listed.getD j true) a0 w0)
    (steps : ∀ i ∈ fl, StepAt P ops Q md S (J a0) i) (stop : ∀ L a w, J a0 L a w → (∀ i ∈ fl, L i = true) → wpAnyH P md ops Q S n1 listed1 a w) : wpAnyH P md ops Q S fuel listed a0 w0 := by
  have hlt : ∀ i ∈ fl, i < ops.size := fun i hi => by simpa using List.all_eq_true.1 hfl i hi
  have fin : ∀ fuel L a w, left_ ops.size L ≤ fuel → J a0 L a w → (∀ i ∈ fl, L i = true) → wpAnyH P md ops Q S fuel (lst ops.size L) a w := by
    intro fuel L a w hfu hJ hall
    have e : ∀ i, i < ops.size → L i = (fl.contains i || listed.getD i true) := fun i hi => by
      by_cases hm : i ∈ fl
      · rw [hall i hm, List.contains_iff_mem.2 hm]; rfl
      · rw [taken L a w hJ i hi hm]
        have : fl.contains i = false := by
          cases h : fl.contains i
          · rfl
          · exact absurd (List.contains_iff_mem.1 h) hm
        rw [this, Bool.false_or]
    have el : lst ops.size L = listed1 := by
      rw [h1]
      unfold lst
      congr 1
      exact List.map_congr_left fun i hi => e i (by simpa using hi)
    have ef : left_ ops.size L = left_ ops.size (fun j => fl.contains j || listed.getD j true) := by
      unfold left_
      rw [List.filter_congr (fun i hi => by rw [e i (by simpa using hi)])]
    rw [el]
    exact wpAnyH_le (by omega) (stop L a w hJ hall)
  have key : ∀ (fuel : Nat) (L : Nat → Bool) (a : Act) (w : World), Closed md ops L → left_ ops.size L ≤ fuel → J a0 L a w → wpAnyH P md ops Q S fuel (lst ops.size L) a w := by
    intro fuel
    induction fuel with
    | zero =>
      intro L a w hc hfu hJ
      refine fin 0 L a w hfu hJ (fun i hi => ?_)
      cases e : L i
      · have := left_up (hlt i hi) e; omega
      · rfl
    | succ fuel ih =>
      intro L a w hc hfu hJ
      by_cases hall : ∀ i ∈ fl, L i = true
      · exact fin (fuel + 1) L a w hfu hJ hall
      · have hsome : ∃ i, i < ops.size ∧ L i = false := by
          apply Classical.byContradiction
          intro h
          refine hall fun i hi => ?_
          cases e : L i
          · exact absurd ⟨i, hlt i hi, e⟩ h
          · rfl
        refine ⟨fun h => absurd h (ready_some ho hsome), fun i hi => ?_⟩
        obtain ⟨h1, o, h2, h3⟩ := mem_ready.1 hi
        have hi' : i < ops.size := (Array.getElem?_eq_some_iff.1 h2).1
        rw [lst_get, if_pos hi'] at h1
        have hb : ∀ e ∈ o.after, Region.binds md e = true → L e.on = true := fun e he hbd => by
          have := h3 e he hbd
          rw [lst_get] at this
          split at this
          · exact this
          · cases this
        have hwt := waits_mem (md := md) h2 hb
        by_cases hm : i ∈ fl
        · refine wpOp_step h2 (fun K' hK => steps i hm L a w o hJ h2 h1 hb K' (fun a' w' hS hJ' => hK a' w' ⟨hS, ?_⟩))
          rw [lst_set]
          exact ih (up L i) a' w' (hc.up_ hwt) (by have := left_up hi' h1; omega) hJ'
        · exfalso
          refine hall fun j hj => ?_
          have h0 := taken L a w hJ i hi' hm
          have h5 := List.all_eq_true.1 ht i (by simpa using hi')
          rw [← h0, h1, Bool.or_false] at h5
          have hcf : fl.contains i = false := by
            cases h : fl.contains i
            · rfl
            · exact absurd (List.contains_iff_mem.1 h) hm
          rw [hcf, Bool.false_or, List.all_eq_true] at h5
          exact anc_all hc d i hwt j (List.contains_iff_mem.1 (h5 j hj))
  rw [hl]
  refine key fuel _ a0 w0 (fun i hi j hj => ?_) hf start
  by_cases hi' : i < ops.size
  · have h5 := List.all_eq_true.1 hcl i (by simpa using hi')
    rw [hi, Bool.not_true, Bool.false_or, List.all_eq_true] at h5
    exact h5 j hj
  · rw [waits_none (by omega)] at hj; cases hj
end
end Go.Proofs.Ytdobcdhdeagekaa
