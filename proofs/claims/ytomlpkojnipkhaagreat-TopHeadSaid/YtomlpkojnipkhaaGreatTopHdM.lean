/- A head of one unit that has heard all. -/
import Derived.Test.YtomlpkojnipkhaaGreatGa
import Derived.Test.YtomlpkojnipkhaaGreatHdMath
import Derived.Test.YtomlpkojnipkhaaGreatGr
import Derived.Test.YtomlpkojnipkhaaGreatGu
import Derived.BigQuiet
import Derived.Deep.RegionHeld3
import Derived.Deep.Cut
import Derived.IntWalk
namespace Go.Proofs.YtomlpkojnipkhaaGreat
set_option linter.unusedVariables false
set_option linter.unusedSimpArgs false
open Go.RowKit Go.ChangeShapes Go.WideShapes Go.ChangeAt
/-- A head of one unit, which has said the newest version. -/
def tpH (q : Pl) (e : En) : Hd := ⟨q, q, [], e, 1, setW (fun _ => ⟨0, -1⟩) 0 ⟨0, q.v⟩⟩
/-- Behind a wish that may be. -/
def tpW (q r : Pl) (e x : En) : Hd := ⟨q, r, [x], e, 1, setW (fun _ => ⟨0, -1⟩) 0 ⟨0, q.v⟩⟩
/-- Behind its sending. -/
def tpS (q r : Pl) (x : En) : Hd := ⟨r, r, [], x, 1, setW (fun _ => ⟨0, -1⟩) 0 ⟨0, q.v⟩⟩
def ackN (v : Int) : Nt := ⟨0, 0, v, false, true, zEn, zPl⟩
theorem nx_v1 (p : Pl) (e : En) : (nxP p e).v = p.v + 1 := by
  unfold nxP
  cases (e.k == 6) <;> rfl
theorem ap_v1 {p : Pl} {e : En} (h : (apR p e).2 = 0) : (apR p e).1.v = p.v + 1 ∧ e.k ≠ 0 := by
  obtain ⟨h1, _, h3⟩ := apR_ok h
  refine ⟨by rw [h3, nx_v1], ?_⟩
  have := chk_ok h1
  omega
theorem tp_new {p : Pl} (h0 : 0 ≤ p.v) : heardH (newH p 1) (ackN p.v) = tpH p zEn := by
  have h1 : mx p.v = p.v := by unfold mx; rw [if_neg (by omega)]
  have h2 : (-1 : Int) < p.v := by omega
  unfold heardH earB cntB newH tpH ackN
  simp [h1, h2]
theorem tp_send (q : Pl) (e : En) : sendH (tpH q e) = tpH q e := by
  unfold sendH
  split <;> rfl
theorem tp_note (q : Pl) (e : En) : notesK (tpH q e) 1 = [] := by
  rw [notesK_succ]
  rw [if_neg (by show ¬ q.v < q.v; omega)]
  rfl
theorem tp_sendW {q r : Pl} {e x : En} (h : (apR q x).2 = 0) (hr : r = (apR q x).1) : sendH (tpW q r e x) = tpS q r x := by
  subst hr
  have ha : allB (tpW q (apR q x).1 e x) = true := by
    unfold allB tpW setW
    simp
  unfold sendH
  rw [if_pos ha]
  show (if (apR q x).2 = 0 then _ else _) = _
  rw [if_pos h]
  rfl
theorem tp_noteS {q r : Pl} {x : En} (h : (apR q x).2 = 0) (hr : r = (apR q x).1) : notesK (tpS q r x) 1 = [⟨0, 0, r.v, false, false, x, zPl⟩] := by
  subst hr
  obtain ⟨hv, hk⟩ := ap_v1 h
  rw [notesK_succ]
  have e1 : ((tpS q (apR q x).1 x).wd 0).v = q.v := rfl
  have e2 : (tpS q (apR q x).1 x).pl = (apR q x).1 := rfl
  rw [if_pos (by rw [e1, e2, hv]; omega)]
  unfold noteH
  rw [if_pos (by unfold oneB; rw [e1, e2, hv]; show (x.k != 0 && _) = true; simp [hk])]
  rfl
theorem tp_heard {q r : Pl} {x : En} (h0 : 0 ≤ q.v) (h : r.v = q.v + 1) : heardH (tpS q r x) (ackN r.v) = tpH r x := by
  have h1 : mx r.v = r.v := by unfold mx; rw [if_neg (by omega)]
  have h2 : q.v < r.v := by omega
  have h3 : setW (setW (fun _ => (⟨0, -1⟩ : Wd)) 0 ⟨0, q.v⟩) 0 ⟨0, r.v⟩ = setW (fun _ => ⟨0, -1⟩) 0 ⟨0, r.v⟩ := by
    funext j; unfold setW; split <;> rfl
  have hE : earB (tpS q r x) (ackN r.v) = true := rfl
  have hC : cntB ((tpS q r x).wd (ackN r.v).u.toNat) ⟨(ackN r.v).b, mx (ackN r.v).v⟩ = true := by
    show cntB ⟨0, q.v⟩ ⟨0, mx r.v⟩ = true
    rw [h1]; unfold cntB; simp [h2]
  unfold heardH
  rw [if_pos hE, if_pos hC]
  show (⟨r, r, [], x, 1, setW (setW (fun _ => ⟨0, -1⟩) 0 ⟨0, q.v⟩) 0 ⟨0, mx r.v⟩⟩ : Hd) = _
  rw [h1, h3]
  rfl
/-- One wish: what All tells of a row of one. -/
theorem tp_all {p q : Pl} {x : En} {j : Nat} {er : Int} (h : AllOut p (gl [x]) 1 q j er) : er = (apR p x).2 ∧ (er = 0 → q = (apR p x).1) := by
  have e1 : runP p (gl [x]) 1 = if (apR p x).2 = 0 then some (apR p x).1 else none := rfl
  obtain ⟨h1, h2⟩ := h
  rcases h2 with ⟨rfl, rfl⟩ | ⟨hj, rfl, hne⟩
  · rw [e1] at h1
    by_cases h0 : (apR p x).2 = 0
    · rw [if_pos h0] at h1
      exact ⟨h0.symm, fun _ => by injection h1 with h1; exact h1.symm⟩
    · rw [if_neg h0] at h1; cases h1
  · obtain rfl : j = 0 := by omega
    obtain rfl : p = q := by
      have : runP p (gl [x]) 0 = some p := rfl
      rw [this] at h1; injection h1
    exact ⟨rfl, fun e => absurd e hne⟩
end Go.Proofs.YtomlpkojnipkhaaGreat

