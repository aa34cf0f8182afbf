/- Three turns of keys. -/
import Derived.Test.YthgffpfigmibhaaGreatGa
import Derived.Test.YthgffpfigmibhaaGreatGu
import Derived.Test.YthgffpfigmibhaaGreatOrdDo
import Derived.Test.YthgffpfigmibhaaGreatPolUq
import Derived.BigQuiet
import Derived.Deep.RegionHeld3
import Derived.Deep.Cut
import Derived.IntWalk
namespace Go.Proofs.YthgffpfigmibhaaGreat
set_option linter.unusedVariables false
set_option linter.unusedSimpArgs false
open Go.RowKit Go.ChangeShapes Go.WideShapes Go.ChangeAt
set_option maxRecDepth 100000
section
variable {P : Program} {Q : Exit → Act → World → Prop} {md : Region.Mode} {S : World → Prop}
/-- Three may come up. -/
theorem threeUp (i j k : Nat) {L r1 r2 r3 : List Oper} {o1 o2 o3 : Oper} {fuel : Nat} {listed : Array Bool} {a : Act} {w : World} (h1 : L.drop i = o1 :: r1) (h2 : L.drop j = o2 :: r2) (h3 : L.drop k = o3 :: r3) (hr : Region.ready md L.toArray listed = [i, j, k])
    (w1 : Region.wanted o1 (yielded L.toArray a.tmps) = true) (w2 : Region.wanted o2 (yielded L.toArray a.tmps) = true) (w3 : Region.wanted o3 (yielded L.toArray a.tmps) = true)
    (g1 : ∀ K' : Act → World → Prop, Shut (∀ a w, S w → (S w → wpAnyH P md L.toArray Q S fuel (listed.setIfInBounds i true) a w) → K' a w) → Oper.wp P o1 a w K' Q)
    (g2 : ∀ K' : Act → World → Prop, Shut (∀ a w, S w → (S w → wpAnyH P md L.toArray Q S fuel (listed.setIfInBounds j true) a w) → K' a w) → Oper.wp P o2 a w K' Q)
    (g3 : ∀ K' : Act → World → Prop, Shut (∀ a w, S w → (S w → wpAnyH P md L.toArray Q S fuel (listed.setIfInBounds k true) a w) → K' a w) → Oper.wp P o3 a w K' Q) : wpAnyH P md L.toArray Q S (fuel + 1) listed a w :=
  wpAnyH_ready hr (by simp) (AllReadyH.cons (at_drop h1) (fun K hK => by rw [if_pos w1]; exact g1 K hK) (AllReadyH.cons (at_drop h2) (fun K hK => by rw [if_pos w2]; exact g2 K hK) (AllReadyH.cons (at_drop h3) (fun K hK => by rw [if_pos w3]; exact g3 K hK) AllReadyH.nil)))
end
theorem ring_keep {p : Pl} {g : Nat → En} : ∀ {k : Nat} {q : Pl}, (∀ j, j < k → (g j).k ≠ 6) → runP p g k = some q → q.r = p.r
  | 0, q, _, h => by
    unfold runP at h
    injection h with h
    rw [h]
  | k + 1, q, hk, h => by
    unfold runP at h
    cases h1 : runP p g k with
    | none => rw [h1] at h; cases h
    | some u =>
      rw [h1] at h
      dsimp only at h
      have ih := ring_keep (fun j hj => hk j (by omega)) h1
      split at h
      · rename_i h0
        injection h with h
        have e := (apR_ok h0).2.2
        rw [e] at h
        subst h
        rw [← ih]
        unfold nxP
        have h6 : ((g k).k == 6) = false := by simpa using hk k (by omega)
        rw [h6]
        rfl
      · cases h
theorem rem_kinds {p : Pl} {x y : Int} {l : List En} {er : Int} (h : remR p x y = (l, er)) : ∀ j, j < l.length → (gl l j).k ≠ 6 := by
  intro j hj
  unfold remR at h
  cases hf : findO p x y with
  | none =>
    rw [hf] at h
    injection h with h1 _
    subst h1
    simp at hj
  | some c =>
    rw [hf] at h
    dsimp only at h
    injection h with h1 _
    subst h1
    split at hj
    · rename_i hst
      rw [if_pos hst]
      rcases (by simp at hj; omega : j = 0 ∨ j = 1) with rfl | rfl
      · show (3 : Int) ≠ 6; decide
      · show (4 : Int) ≠ 6; decide
    · rename_i hst
      rw [if_neg hst]
      have : j = 0 := by simp at hj; omega
      subst this
      show (4 : Int) ≠ 6; decide
/-- Behind i turns of keys. -/
def Qt (e0 : Int) (c i : Nat) (q : Pl) : Prop := q.r.e = e0 + i ∧ (i < 3 → (q.s c).st = 4 ∧ (q.s c).si = e0) ∧ (3 ≤ i → (q.s c).st = 0)
theorem qt_step {e0 : Int} {c i : Nat} {q : Pl} (hc : c < 64) (hi : i < 3) (h : Qt e0 c i q) (y : Ky) : Qt e0 c (i + 1) (rotQ q y 64) := by
  obtain ⟨h1, h2, h3⟩ := h
  obtain ⟨h4, h5⟩ := h2 hi
  have hs := rotQ_s q y 64 c
  have hr := rotQ_r q y 64
  unfold goneS at hs
  rw [h4, h5, h1] at hs
  refine ⟨by rw [hr]; show q.r.e + 1 = _; omega, fun h => ?_, fun h => ?_⟩
  · rw [if_neg (by simp; omega)] at hs
    rw [hs]; exact ⟨h4, h5⟩
  · rw [if_pos (by simp; omega)] at hs
    rw [hs]; rfl
theorem qt_start {p r : Pl} {c : Nat} {l : List En} (hu : Uq p) (hc : c < 64) (ht : takesB (p.s c).st = true) (h : remR p (p.s c).ad (p.s c).po = (l, 0)) (hr : runP p (gl l) l.length = some r) : Qt p.r.e c 0 r := by
  have hf : findO p (p.s c).ad (p.s c).po = some c := findO_tk hu hc (by unfold tkS; rw [ht]; simp)
  obtain ⟨c', r', _, hf', _, _, _, hr', _, _, hs⟩ := rem_run h
  rw [hf] at hf'
  injection hf' with hf'
  subst hf'
  rw [hr] at hr'
  injection hr' with hr'
  subst hr'
  refine ⟨by rw [ring_keep (rem_kinds h) hr]; simp, fun _ => ?_, fun h => by omega⟩
  rw [hs c, if_pos rfl]
  exact ⟨rfl, rfl⟩
theorem rem_is {p : Pl} {c : Nat} (hu : Uq p) (hc : c < 64) (ht : takesB (p.s c).st = true) : ∃ l, remR p (p.s c).ad (p.s c).po = (l, 0) := by
  have hf : findO p (p.s c).ad (p.s c).po = some c := findO_tk hu hc (by unfold tkS; rw [ht]; simp)
  unfold remR
  rw [hf]
  exact ⟨_, rfl⟩
theorem rem_top (p : Pl) (hS : StI p) (a q : Int) (w : World) : Calls Tryz.prog 17 #[.agg (FA 330 (pc p)), .int .i64 a, .int .i64 q] w (Lst w (remR p a q).1 (remR p a q).2) := remove_any p hS a q w
theorem rot_top (p : Pl) (hp : PB p) (y : Ky) (w : World) : Calls Tryz.prog 19 #[.agg (FA 330 (pc p)), kyV y] w (Ls1 w (rotL p y 64)) := rotate_any p hp y w
theorem all_top (p : Pl) (g : Nat → En) (A : Option Addr) (n c : Nat) (w : World) (hA : Se w A n g) (hn : n ≤ 1000) (K : Int) (hp : Pinv p K) (hK : K ≤ 100000) (r : Pl) (hr : runP p g n = some r) : Calls Tryz.prog 18 #[.agg (FA 330 (pc p)), .slice A n c] w fun x w' => x = .returned (.tuple #[.agg (FA 330 (pc r)), .int .i64 (n : Int), .int .i64 0]) ∧ Below w.heap.size w w' := by
  refine (all_any p g A n c w hA hn K hp hK).mono ?_
  rintro x w' ⟨q, k, er, rfl, h, hb⟩
  obtain ⟨rfl, rfl, rfl⟩ := all_run hr h
  exact ⟨rfl, hb⟩
end Go.Proofs.YthgffpfigmibhaaGreat
