/- What is wished: added. -/
import Derived.Test.YthgffpfigmibhaaGreatGa
import Derived.Test.YthgffpfigmibhaaGreatOrdFind
import Derived.Test.YthgffpfigmibhaaGreatGt
import Derived.Test.YthgffpfigmibhaaGreatGf
import Derived.BigQuiet
import Derived.Deep.RegionHeld3
import Derived.Deep.Cut
namespace Go.Proofs.YthgffpfigmibhaaGreat
set_option linter.unusedVariables false
set_option linter.unusedSimpArgs false
open Go.RowKit Go.ChangeShapes Go.WideShapes Go.ChangeAt

theorem find_min {f : Nat → Bool} {k : Nat} (h : (List.range 64).find? f = some k) : k < 64 ∧ f k = true ∧ ∀ j, j < k → f j = false := by
  have h1 : f k = true := List.find?_some h
  have h2 : k < 64 := by have := List.mem_of_find?_eq_some h; simpa using this
  refine ⟨h2, h1, fun j hj => ?_⟩
  cases hf : f j
  · rfl
  · exfalso
    have key : ∀ n, n ≤ 64 → ∀ m, (∀ i, i < m → f i = false) → f m = true → m < 64 → (List.range 64).find? f = some m := fun n _ m h3 h4 h5 => find_yes m h5 h3 h4
    obtain ⟨m, hm1, hm2, hm3⟩ : ∃ m, m ≤ j ∧ f m = true ∧ ∀ i, i < m → f i = false := by
      induction j using Nat.strongRecOn with
      | ind j ih =>
        by_cases hx : ∃ i, i < j ∧ f i = true
        · obtain ⟨i, hi, hfi⟩ := hx
          obtain ⟨m, q1, q2, q3⟩ := ih i hi (by omega) hfi
          exact ⟨m, by omega, q2, q3⟩
        · exact ⟨j, Nat.le_refl _, hf, fun i hi => by cases h8 : f i; rfl; exact absurd ⟨i, hi, h8⟩ hx⟩
    have h6 := key 64 (Nat.le_refl _) m hm3 hm2 (by omega)
    rw [h] at h6
    injection h6 with h6
    omega
theorem free_some {p : Pl} {k : Nat} (h : freeO p = some k) : k < 64 ∧ ((p.s k).st == 0) = true ∧ ∀ j, j < k → ((p.s j).st == 0) = false := find_min h
theorem free_none {p : Pl} (h : freeO p = none) (j : Nat) (hj : j < 64) : ((p.s j).st == 0) = false := by
  unfold freeO at h
  rw [List.find?_eq_none] at h
  have := h j (by simpa using hj)
  simpa [frS] using this
/-- What a call tells: a row of entries of its own. -/
def Lst (w : World) (l : List En) (no : Int) (e : Ending) (w' : World) : Prop := ∃ (A : Option Addr) (c : Nat), e = .returned (.tuple #[.slice A l.length c, .int .i64 no]) ∧ OwE w' w.heap.size (.slice A l.length c) l.length (gl l) ∧ Below w.heap.size w w'
def Ls1 (w : World) (l : List En) (e : Ending) (w' : World) : Prop := ∃ (A : Option Addr) (c : Nat), e = .returned (.slice A l.length c) ∧ OwE w' w.heap.size (.slice A l.length c) l.length (gl l) ∧ Below w.heap.size w w'
theorem flat_len : ∀ l : List En, (l.flatMap enL).length = l.length * 7
  | [] => rfl
  | e :: l => by rw [List.flatMap_cons, List.length_append, flat_len l, List.length_cons]; simp [enL]; omega
theorem owe_lit {w : World} (l : List En) {cs : Array Value} {n : Nat} (hcs : cs = (l.flatMap enL).toArray) (hn : n = l.length) {g B : Nat} (hg : w.heap.size = g) (hB : B ≤ g) (hm : l.length ≤ 1000) :
    OwE (w.alloc (.cells cs 70)) B (.slice (some ⟨g, 0, none⟩) n n) n (gl l) := by
  subst hcs; subst hn; subst hg
  have := World.ownsRow_lit (size := 7) (e := 70) (base := B) w (l.flatMap enL).toArray l.length hB (by simp only [maxLen]; omega) (by rw [List.size_toArray, flat_len])
  unfold OwE Ow
  rw [show (List.range (l.length * 7)).map (fun j => enc (gl l (j / 7)) (j % 7)) = l.flatMap enL from by
    apply List.ext_getElem?
    intro i
    by_cases h : i < l.length * 7
    · rw [flat_at l i h]; simp [h]
    · rw [List.getElem?_eq_none (by simp; omega), List.getElem?_eq_none (by rw [flat_len]; omega)]]
  exact this
theorem OwE.base {w : World} {B B' m : Nat} {v : Value} {g : Nat → En} (h : OwE w B v m g) (hB : B' ≤ B) : OwE w B' v m g := by
  unfold OwE Ow World.ownsRow at h ⊢
  refine ⟨h.1, ?_⟩
  rcases h.2 with h | ⟨gg, c, cs, h1, h2, h3⟩
  · exact .inl h
  · exact .inr ⟨gg, c, cs, h1, Nat.le_trans hB h2, h3⟩
theorem Ls1.nil {w w' : World} (h : Below w.heap.size w w') : Ls1 w [] (.returned (.slice none 0 0)) w' := ⟨none, 0, rfl, OwE.nil, h⟩
theorem Lst.nil {w w' : World} {no : Int} (h : Below w.heap.size w w') : Lst w [] no (.returned (.tuple #[.slice none 0 0, .int .i64 no])) w' := ⟨none, 0, rfl, OwE.nil, h⟩
theorem Ls1.lit {w w' : World} (l : List En) {cs : Array Value} {n : Nat} (hcs : cs = (l.flatMap enL).toArray) (hn : n = l.length) (hm : l.length ≤ 1000) {g : Nat} (hg : w'.heap.size = g) (h : Below w.heap.size w w') :
    Ls1 w l (.returned (.slice (some ⟨g, 0, none⟩) n n)) (w'.alloc (.cells cs 70)) := by
  subst hn; subst hg
  exact ⟨_, _, rfl, owe_lit l hcs rfl rfl h.size hm, h.alloc h.size _⟩
theorem Lst.lit {w w' : World} (l : List En) {no : Int} {cs : Array Value} {n : Nat} (hcs : cs = (l.flatMap enL).toArray) (hn : n = l.length) (hm : l.length ≤ 1000) {g : Nat} (hg : w'.heap.size = g) (h : Below w.heap.size w w') :
    Lst w l no (.returned (.tuple #[.slice (some ⟨g, 0, none⟩) n n, .int .i64 no])) (w'.alloc (.cells cs 70)) := by
  subst hn; subst hg
  exact ⟨_, _, rfl, owe_lit l hcs rfl rfl h.size hm, h.alloc h.size _⟩
theorem bt {w a b : World} {P : Nat} (hk : w.heap.size = P) (h : Below P w a) (hb : Below a.heap.size a b) : Below P w b := h.trans (hb.mono (by have := h.size; omega))
theorem ba {w a : World} {P : Nat} (hk : w.heap.size = P) (h : Below P w a) (o : Obj) : Below P w (a.alloc o) := h.alloc (by have := h.size; omega) o
attribute [local irreducible] PA
end Go.Proofs.YthgffpfigmibhaaGreat
