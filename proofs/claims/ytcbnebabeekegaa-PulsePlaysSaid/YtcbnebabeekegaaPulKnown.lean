/- The chapter's example. -/
import Derived.Test.YtcbnebabeekegaaPulDrop
import Derived.BigQuiet
import Derived.Deep.RegionHeld3
import Derived.Deep.Cut
namespace Go.Proofs.Ytcbnebabeekegaa
set_option linter.unusedVariables false
set_option linter.unusedSimpArgs false
open Go.RowKit Go.ChangeShapes Go.WideShapes Go.ChangeAt

theorem below_step {w a c : World} {B b : Nat} (h : Below B w a) (hg : a.grownBy c (some b)) (hb : B ≤ b) (hB : B ≤ w.heap.size) : Below B w c :=
  h.trans (below_of_grown hg hb (Nat.le_trans hB h.size))
theorem PulseAt.below {w w' : World} {p b n : Nat} {r f e : Int} {M : Int → Option Life} (h : PulseAt w p b n r f e M) (hb : Below w.heap.size w w') : PulseAt w' p b n r f e M :=
  ⟨h.1.below hb, h.2.1.kept (below_grown hb none) (by simp), h.2.2⟩
theorem PulseAt.other {w w' : World} {p b n : Nat} {r f e : Int} {M : Int → Option Life} {b2 : Nat} (h : PulseAt w p b n r f e M) (hg : w.grownBy w' (some b2)) (hp : p ≠ b2) (hb : b ≠ b2) : PulseAt w' p b n r f e M :=
  ⟨h.1.grown hg (fun e => hp (by injection e with e; exact e.symm)), h.2.1.kept hg (fun e => hb (by injection e)), h.2.2⟩
theorem told_ok {w : World} {p b n : Nat} {r f e : Int} {M : Int → Option Life} (h : PulseAt w p b n r f e M) (s now : Int) (ok : Bool) (l l' : Life) (v : Int) (hs : 0 ≤ s ∧ s < 64) (hn : n ≤ 1000000) (hl : cur M s = l) (h0 : 0 ≤ l.2.2.2) (h1 : l.2.2.2 ≤ 1000000)
    (hv : toldV r f l now ok = v) (hl' : toldL r f l now ok = l') :
    Calls Try.prog 17 #[.pointer (some ⟨p, 0, none⟩), .int .i64 s, .int .i64 now, .bool ok] w fun x w' => x = .returned (.int .i64 v) ∧ PulseAt w' p b (n + 1) r f e (upd M s (some l')) ∧ w.grownBy w' (some b) := by
  subst hl; subst hv; subst hl'
  exact told_any h s now ok (by unfold isSl; simp; omega) ⟨h0, h1⟩ hn
theorem up_ok {w : World} {p b n : Nat} {r f e : Int} {M : Int → Option Life} (h : PulseAt w p b n r f e M) (s : Int) (v : Bool) (hs : I64 s) (hv : (cur M s).1 = v) :
    Calls Try.prog 21 #[.pointer (some ⟨p, 0, none⟩), .int .i64 s] w fun x w' => x = .returned (.bool v) ∧ w = w' := hv ▸ up_any h s hs
theorem due_ok {w : World} {p b n : Nat} {r f e : Int} {M : Int → Option Life} (h : PulseAt w p b n r f e M) (s now : Int) (v : Bool) (hs : I64 s) (hl : 0 ≤ (cur M s).2.1 ∧ (cur M s).2.1 ≤ 9223372036854775807) (hn : 0 ≤ now ∧ now ≤ 1099511627776)
    (hv : (isSl s && (!(M s).isSome || decide (e ≤ now - (cur M s).2.1))) = v) :
    Calls Try.prog 19 #[.pointer (some ⟨p, 0, none⟩), .int .i64 s, .int .i64 now] w fun x w' => x = .returned (.bool v) ∧ Below w.heap.size w w' := hv ▸ due_any h s now hs ⟨by omega, hl.2⟩ hn hl.1
theorem drop_ok {w : World} {p b n : Nat} {r f e : Int} {M : Int → Option Life} (h : PulseAt w p b n r f e M) (s : Int) (v : Bool) (hs : I64 s) (hv : (M s).isSome = v) :
    Calls Try.prog 23 #[.pointer (some ⟨p, 0, none⟩), .int .i64 s] w fun x w' => x = .returned (.bool v) ∧ PulseAt w' p b n r f e (upd M s none) ∧ w.grownBy w' (some b) := hv ▸ drop_any h s hs
set_option maxRecDepth 100000 in
set_option maxHeartbeats 4000000 in
theorem known_any (w : World) : Calls Try.prog 13 #[] w fun x w' => x = .returned (.bool true) ∧ Below w.heap.size w w' := by
  go_enter Try.func13, Try.ntmps13
  go_wp2_with fail
  refine (new_ok 2 2 5 (by omega) (by omega) (by omega) _).mono ?_
  rintro x w1 ⟨p, b, rfl, hP, hp, hb, hB1⟩
  try go_simp
  have P1 := hid hP
  have B1 := hid hB1
  clear hP hB1
  go_wp2_with fail
  refine (told_ok P1.out 3 0 true zLife (false, 0, true, 1) 0 (by omega) (by omega) rfl (by decide) (by decide) rfl rfl).mono ?_
  rintro x w2 ⟨rfl, hP, hg⟩
  try go_simp
  have P2 := hid hP
  have B2 := hid (below_step B1.out hg hb (Nat.le_refl _))
  clear hP hg P1 B1
  go_wp2_with fail
  refine (told_ok P2.out 3 5 true (false, 0, true, 1) (true, 5, false, 0) 1 (by omega) (by omega) rfl (by decide) (by decide) rfl rfl).mono ?_
  rintro x w3 ⟨rfl, hP, hg⟩
  try go_simp
  have P3 := hid hP
  have B3 := hid (below_step B2.out hg hb (Nat.le_refl _))
  clear hP hg P2 B2
  go_wp2_with fail
  refine (up_ok P3.out 9 false ⟨by decide, by decide⟩ rfl).mono ?_
  rintro x w' ⟨rfl, rfl⟩
  try go_simp
  go_wp2_with fail
  refine (up_ok P3.out 3 true ⟨by decide, by decide⟩ rfl).mono ?_
  rintro x w' ⟨rfl, rfl⟩
  try go_simp
  go_wp2_with fail
  refine (due_ok P3.out 3 9 false ⟨by decide, by decide⟩ ⟨by decide, by decide⟩ ⟨by decide, by decide⟩ rfl).mono ?_
  rintro x w4 ⟨rfl, hB⟩
  try go_simp
  have P4 := hid (P3.out.below hB)
  have B4 := hid (B3.out.trans (hB.mono B3.out.size))
  clear hB P3 B3
  go_wp2_with fail
  refine (due_ok P4.out 3 10 true ⟨by decide, by decide⟩ ⟨by decide, by decide⟩ ⟨by decide, by decide⟩ rfl).mono ?_
  rintro x w5 ⟨rfl, hB⟩
  try go_simp
  have P5 := hid (P4.out.below hB)
  have B5 := hid (B4.out.trans (hB.mono B4.out.size))
  clear hB P4 B4
  go_wp2_with fail
  refine (due_ok P5.out 4 0 true ⟨by decide, by decide⟩ ⟨by decide, by decide⟩ ⟨by decide, by decide⟩ rfl).mono ?_
  rintro x w6 ⟨rfl, hB⟩
  try go_simp
  have P6 := hid (P5.out.below hB)
  have B6 := hid (B5.out.trans (hB.mono B5.out.size))
  clear hB P5 B5
  go_wp2_with fail
  refine (drop_ok P6.out 3 true ⟨by decide, by decide⟩ rfl).mono ?_
  rintro x w7 ⟨rfl, hP, hg⟩
  try go_simp
  have P7 := hid hP
  have B7 := hid (below_step B6.out hg hb (Nat.le_refl _))
  clear hP hg P6 B6
  go_wp2_with fail
  refine (up_ok P7.out 3 false ⟨by decide, by decide⟩ rfl).mono ?_
  rintro x w' ⟨rfl, rfl⟩
  try go_simp
  go_wp2_with fail
  go_ret
  exact ⟨rfl, B7.out⟩
end Go.Proofs.Ytcbnebabeekegaa
