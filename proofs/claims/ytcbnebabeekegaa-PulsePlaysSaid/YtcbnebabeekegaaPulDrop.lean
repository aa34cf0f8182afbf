/- Drop. -/
import Derived.Test.YtcbnebabeekegaaPulTold
namespace Go.Proofs.Ytcbnebabeekegaa
set_option linter.unusedVariables false
set_option linter.unusedSimpArgs false
open Go.RowKit Go.ChangeShapes Go.WideShapes Go.ChangeAt

theorem drop_any {w : World} {p b n : Nat} {r f e : Int} {M : Int → Option Life} (h : PulseAt w p b n r f e M) (s : Int) (hs : I64 s) :
    Calls Try.prog 23 #[.pointer (some ⟨p, 0, none⟩), .int .i64 s] w fun x w' => x = .returned (.bool (M s).isSome) ∧ PulseAt w' p b n r f e (upd M s none) ∧ w.grownBy w' (some b) := by
  obtain ⟨hC, hM, hne⟩ := h
  have c3 := hC.2.1 3 _ rfl
  have lk := hM.look_ok Try.underlying44 (zero_life w) hs
  generalize (M s).getD zLife = l at lk
  obtain ⟨u, a, wh, lo⟩ := l
  have hC2 := hC.alloc (.cells #[.bool u, .int .i64 a, .bool wh, .int .i64 lo] 55)
  have d3 := hC2.2.1 3 _ rfl
  have hM2 := hM.kept (World.grownBy_alloc w (.cells #[.bool u, .int .i64 a, .bool wh, .int .i64 lo] 55) none) (by simp)
  obtain ⟨D, h1, h2, h3⟩ := hM2
  generalize ho' : (M s).isSome = o at lk
  have HC := hid hC2
  have H1 := hid h1
  have H2 := hid h2
  have H3 := hid h3
  clear hC hC2 hM h1 h2 h3
  unfold lifeV at lk
  simp only at lk
  go_enter Try.func23, Try.ntmps23
  go_wp2_with (at_delete; refine wpList_delete_own _ rfl _ _ _ _ rfl _ keyed Try.underlying44 _ b n D rfl H1.out _ _ rfl (key_of hs) ?_; intro w1 hown1 hturn1; have HO := hid hown1; have HT := hid hturn1; clear hown1 hturn1)
  go_ret
  exact ⟨rfl, ⟨HC.out.grown HT.out.grown (fun x => hne (by injection x with x; exact x.symm)), MapAt.del_ H2.out H3.out s HO.out, hne⟩, (World.grownBy_alloc w _ (some b)).trans HT.out.grown⟩
/-- Blocks from B on may be other ones; what lay below is as it was. -/
theorem below_of_grown {w w' : World} {B b : Nat} (h : w.grownBy w' (some b)) (hb : B ≤ b) (hB : B ≤ w.heap.size) : Below B w w' :=
  ⟨h.os, h.tape, h.output, h.size, fun k hk => h.block k (Nat.lt_of_lt_of_le hk hB) (fun e => by injection e with e; omega)⟩
theorem new_bad (r f e : Int) (h : (inB r 10 && inB f 10 && inB e 1000) = false) (w : World) :
    Calls Try.prog 15 #[.int .i64 r, .int .i64 f, .int .i64 e] w fun x w' => x = .returned (.tuple #[.pointer none, .int .i64 14]) ∧ w = w' := by
  have W1 := hid (fun w => pwithin_any r 10 w)
  have W2 := hid (fun w => pwithin_any f 10 w)
  have W3 := hid (fun w => pwithin_any e 1000 w)
  generalize inB r 10 = x1 at *
  generalize inB f 10 = x2 at *
  generalize inB e 1000 = x3 at *
  cases x1
  · go_enter Try.func15, Try.ntmps15
    go_wp2_with fail
    refine (W1.out _).mono ?_
    rintro x w' ⟨rfl, rfl⟩
    go_wp2
    go_ret2
    exact ⟨rfl, rfl⟩
  cases x2
  · go_enter Try.func15, Try.ntmps15
    go_wp2_with fail
    refine (W1.out _).mono ?_
    rintro x w' ⟨rfl, rfl⟩
    go_wp2_with fail
    refine (W2.out _).mono ?_
    rintro x w' ⟨rfl, rfl⟩
    go_wp2
    go_ret2
    exact ⟨rfl, rfl⟩
  cases x3
  · go_enter Try.func15, Try.ntmps15
    go_wp2_with fail
    refine (W1.out _).mono ?_
    rintro x w' ⟨rfl, rfl⟩
    go_wp2_with fail
    refine (W2.out _).mono ?_
    rintro x w' ⟨rfl, rfl⟩
    go_wp2_with fail
    refine (W3.out _).mono ?_
    rintro x w' ⟨rfl, rfl⟩
    go_wp2
    go_ret2
    exact ⟨rfl, rfl⟩
  · cases h
end Go.Proofs.Ytcbnebabeekegaa
