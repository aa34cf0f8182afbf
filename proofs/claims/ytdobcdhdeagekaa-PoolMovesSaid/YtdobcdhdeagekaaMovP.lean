/- From each state just these entries lead on: reckoned. -/
import Derived.Test.YtdobcdhdeagekaaPolMake
import Derived.Test.YtdobcdhdeagekaaPolInv
import Derived.Test.YtdobcdhdeagekaaPolSg
namespace Go.Proofs.Ytdobcdhdeagekaa
set_option linter.unusedVariables false
set_option linter.unusedSimpArgs false
open Go.RowKit Go.ChangeShapes Go.WideShapes Go.ChangeAt

def mvRot (i : Nat) : En := ⟨6, 0, 0, 0, 0, kyN (i : Int)⟩
def mvB (s : Int) : En := ⟨1, s, 3, 4, 5, zKy⟩
def mvO (s : Int) : En := ⟨2, s, 0, 0, 0, zKy⟩
def mvD (s : Int) : En := ⟨3, s, 0, 0, 0, zKy⟩
def mvS (s : Int) : En := ⟨4, s, 0, 0, 0, zKy⟩
/-- What brings a slot into a state. -/
def mvStl (st : Nat) (s : Int) : List En := match st with | 0 => [] | 1 => [mvB s] | 2 => [mvB s, mvO s] | 3 => [mvB s, mvO s, mvD s] | _ => [mvB s, mvS s]
def mvL (st t : Nat) (s : Int) : List En := (List.range t).map mvRot ++ (mvStl st s ++ (List.range (3 - t)).map fun i => mvRot (t + i))
def mvTab : List (List Int) := [[1, -1, -1, -1, -1], [-1, 2, -1, 2, -1], [-1, -1, 3, -1, -1], [-1, 4, -1, 4, -1], [-1, -1, -1, -1, 0], [0, 1, 2, 3, 4]]
def mvE (k : Nat) (s : Int) : En := if k = 1 then ⟨1, s, 1, 2, 3, zKy⟩ else if k = 6 then ⟨6, 0, 0, 0, 0, zKy⟩ else ⟨(k : Int), s, 0, 0, 0, zKy⟩
def mvTo (k : Nat) (x : Int) : Int := (mvTab.getD (k - 1) []).getD x.toNat 0
def mvOk (st t k s : Nat) : Bool :=
  match runP mkB (gl (mvL st t (s : Int))) (mvL st t (s : Int)).length with
  | none => false
  | some q =>
    let x := (q.s s).st
    let r := apR q (mvE k (s : Int))
    decide (0 ≤ x) && decide (x ≤ 4) && (if mvTo k x < 0 then r.2 == 12 else if k == 5 && decide (1 < (q.s s).si) then r.2 == 13 else r.2 == 0 && (r.1.s s).st == mvTo k x && r.1.v == q.v + 1)
theorem mv_ok : ((List.range 5).all fun st => (List.range 3).all fun t => (List.range 6).all fun k => (List.range 64).all fun s => mvOk st t (k + 1) s) = true := by decide +kernel
/-- What becomes of each. -/
theorem mv_all {st t k s : Nat} (h1 : st < 5) (h2 : t < 3) (h3 : k < 6) (h4 : s < 64) : ∃ q : Pl, runP mkB (gl (mvL st t (s : Int))) (mvL st t (s : Int)).length = some q ∧ 0 ≤ (q.s s).st ∧ (q.s s).st ≤ 4 ∧
    (if mvTo (k + 1) (q.s s).st < 0 then (apR q (mvE (k + 1) (s : Int))).2 = 12 else if k + 1 = 5 ∧ 1 < (q.s s).si then (apR q (mvE (k + 1) (s : Int))).2 = 13
      else (apR q (mvE (k + 1) (s : Int))).2 = 0 ∧ ((apR q (mvE (k + 1) (s : Int))).1.s s).st = mvTo (k + 1) (q.s s).st ∧ (apR q (mvE (k + 1) (s : Int))).1.v = q.v + 1) := by
  have h := List.all_eq_true.1 (List.all_eq_true.1 (List.all_eq_true.1 (List.all_eq_true.1 mv_ok st (by simpa using h1)) t (by simpa using h2)) k (by simpa using h3)) s (by simpa using h4)
  unfold mvOk at h
  cases hr : runP mkB (gl (mvL st t (s : Int))) (mvL st t (s : Int)).length with
  | none => rw [hr] at h; cases h
  | some q =>
    rw [hr] at h
    simp only [Bool.and_eq_true, decide_eq_true_eq] at h
    obtain ⟨⟨x0, x4⟩, h⟩ := h
    refine ⟨q, rfl, x0, x4, ?_⟩
    by_cases c1 : mvTo (k + 1) (q.s s).st < 0
    · rw [if_pos c1] at h ⊢
      exact eq_of_beq h
    · rw [if_neg c1] at h ⊢
      by_cases c2 : k + 1 = 5 ∧ 1 < (q.s s).si
      · rw [if_pos c2]
        rw [if_pos (by simp [c2.1, c2.2])] at h
        exact eq_of_beq h
      · rw [if_neg c2]
        rw [if_neg (by simp only [Bool.and_eq_true, beq_iff_eq, decide_eq_true_eq]; exact c2)] at h
        simp only [Bool.and_eq_true, beq_iff_eq] at h
        exact ⟨h.1.1, h.1.2, h.2⟩
theorem mvStl_len (st : Nat) (s : Int) : (mvStl st s).length ≤ 3 := by unfold mvStl; split <;> simp
theorem mvL_len {st t : Nat} (s : Int) (h : t ≤ 3) : (mvL st t s).length = 3 + (mvStl st s).length := by
  unfold mvL; simp; omega
theorem gl_rot1 {st t : Nat} (s : Int) {i : Nat} (h : i < t) : gl (mvL st t s) i = mvRot i := by
  unfold gl mvL
  rw [List.getD_eq_getElem?_getD, List.getElem?_append_left (by simpa using h)]
  simp [h]
theorem gl_mid {st t : Nat} (s : Int) {j : Nat} (h : j < (mvStl st s).length) : gl (mvL st t s) (t + j) = gl (mvStl st s) j := by
  unfold gl mvL
  rw [List.getD_eq_getElem?_getD, List.getElem?_append_right (by simp), List.length_map, List.length_range, Nat.add_sub_cancel_left, List.getElem?_append_left h, List.getD_eq_getElem?_getD]
theorem gl_rot2 {st t : Nat} (s : Int) {i : Nat} (h : t ≤ i) (h3 : i < 3) : gl (mvL st t s) ((mvStl st s).length + i) = mvRot i := by
  unfold gl mvL
  rw [List.getD_eq_getElem?_getD, List.getElem?_append_right (by simp; omega), List.length_map, List.length_range, List.getElem?_append_right (by omega), show (mvStl st s).length + i - t - (mvStl st s).length = i - t by omega]
  simp [show i - t < 3 - t by omega, show t + (i - t) = i by omega]
end Go.Proofs.Ytdobcdhdeagekaa
