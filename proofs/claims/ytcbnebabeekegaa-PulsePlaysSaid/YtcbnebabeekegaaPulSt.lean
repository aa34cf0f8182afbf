/- What a told answer does to a life. -/
import Derived.Test.YtcbnebabeekegaaPulKnown
import Derived.BigQuiet
import Derived.Deep.RegionHeld3
import Derived.Deep.Cut
namespace Go.Proofs.Ytcbnebabeekegaa
set_option linter.unusedVariables false
set_option linter.unusedSimpArgs false
open Go.RowKit Go.ChangeShapes Go.WideShapes Go.ChangeAt

theorem cur_upd (M : Int → Option Life) (s : Int) (l : Life) : cur (upd M s (some l)) s = l := by simp [cur, upd]
theorem rowUp_bd (wh : Bool) (lo : Int) (x : Bool) (k : Nat) (h0 : 0 ≤ lo) (h1 : lo ≤ k) : 0 ≤ rowUp wh lo x ∧ rowUp wh lo x ≤ (k + 1 : Nat) := by
  unfold rowUp
  split <;> omega
theorem st_ff (r f la lo now : Int) (wh : Bool) : toldV r f (false, la, wh, lo) now false = 0 ∧ toldL r f (false, la, wh, lo) now false = (false, now, false, rowUp wh lo false) := by
  simp [toldV, toldL, verd, lifeUp]
theorem st_tt (r f la lo now : Int) (wh : Bool) : toldV r f (true, la, wh, lo) now true = 0 ∧ toldL r f (true, la, wh, lo) now true = (true, now, true, rowUp wh lo true) := by
  simp [toldV, toldL, verd, lifeUp]
theorem st_ft (r f la lo now : Int) (wh : Bool) (h : rowUp wh lo true < r) : toldV r f (false, la, wh, lo) now true = 0 ∧ toldL r f (false, la, wh, lo) now true = (false, now, true, rowUp wh lo true) := by
  have h := Int.not_le.mpr h
  simp [toldV, toldL, verd, lifeUp, h]
theorem st_ft1 (r f la lo now : Int) (wh : Bool) (h : r ≤ rowUp wh lo true) : toldV r f (false, la, wh, lo) now true = 1 ∧ toldL r f (false, la, wh, lo) now true = (true, now, false, 0) := by
  simp [toldV, toldL, verd, lifeUp, h]
theorem bit_any (x : Bool) (w : World) : Calls Try.prog 25 #[.bool x] w fun e w' => e = .returned (.int .i64 (if x = true then 1 else 0)) ∧ w = w' := by
  cases x
  all_goals
    go_enter Try.func25, Try.ntmps25
    go_wp2
    go_ret
    exact ⟨rfl, rfl⟩
theorem rowUp_pos (wh : Bool) (lo : Int) (x : Bool) (h0 : 0 ≤ lo) : 1 ≤ rowUp wh lo x := by
  unfold rowUp
  split <;> omega
theorem st_tf (r f la lo now : Int) (wh : Bool) (h : rowUp wh lo false < f) : toldV r f (true, la, wh, lo) now false = 0 ∧ toldL r f (true, la, wh, lo) now false = (true, now, false, rowUp wh lo false) := by
  have h := Int.not_le.mpr h
  simp [toldV, toldL, verd, lifeUp, h]
theorem st_tf1 (r f la lo now : Int) (wh : Bool) (h : f ≤ rowUp wh lo false) : toldV r f (true, la, wh, lo) now false = 2 ∧ toldL r f (true, la, wh, lo) now false = (false, now, false, 0) := by
  simp [toldV, toldL, verd, lifeUp, h]
end Go.Proofs.Ytcbnebabeekegaa
