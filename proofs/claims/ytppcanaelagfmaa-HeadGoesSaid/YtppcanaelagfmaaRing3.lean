/- The next ring; the laws' helpers Ring, kind. -/
import Derived.Test.YtppcanaelagfmaaRing2
namespace Go.Proofs.Ytppcanaelagfmaa
set_option linter.unusedVariables false
set_option linter.unusedSimpArgs false
open Go.RowKit Go.ChangeShapes Go.WideShapes Go.ChangeAt
theorem next_any (r : Rg) (k : Ky) (hr : Ep r.e) (w : World) :
    Calls Try.prog 46 #[rgV r, kyV k] w fun e' w' => e' = .returned (rgV ⟨r.e + 1, r.c, r.n, k⟩) ∧ Below w.heap.size w w' := by
  obtain ⟨hr1, hr2⟩ := hr
  have q2 : IntKind.i64.wrap (r.e + 1) = r.e + 1 := IntWalk.i64_in _ (by omega)
  unfold rgV kyV
  go_enter Try.func46, Try.ntmps46
  go_wp2_with fail
  have dA : w.heap.size + 1 + 1 ≠ w.heap.size := by omega
  have dK : w.heap.size + 1 + 1 ≠ w.heap.size + 1 := by omega
  have lR : w.heap.size ≤ w.heap.size + 1 + 1 := by omega
  have CA := Ce.made (w := w) (l := [.int .i64 r.e, .int .u64 r.p.a, .int .u64 r.p.b, .int .u64 r.c.a, .int .u64 r.c.b, .int .u64 r.n.a, .int .u64 r.n.b]) (T := 31) (g := w.heap.size) rfl
  replace CA := CA.alloc (.cells #[.int .u64 k.a, .int .u64 k.b] 29)
  have CK := Ce.made (w := (w.alloc (.cells #[.int .i64 r.e, .int .u64 r.p.a, .int .u64 r.p.b, .int .u64 r.c.a, .int .u64 r.c.b, .int .u64 r.n.a, .int .u64 r.n.b] 31))) (l := [.int .u64 k.a, .int .u64 k.b]) (T := 29) (g := w.heap.size + 1) (by simp)
  replace CA := CA.alloc (.cells #[.int .i64 0, .int .u64 0, .int .u64 0, .int .u64 0, .int .u64 0, .int .u64 0, .int .u64 0] 31)
  replace CK := CK.alloc (.cells #[.int .i64 0, .int .u64 0, .int .u64 0, .int .u64 0, .int .u64 0, .int .u64 0, .int .u64 0] 31)
  have CR := Ce.made (w := ((w.alloc (.cells #[.int .i64 r.e, .int .u64 r.p.a, .int .u64 r.p.b, .int .u64 r.c.a, .int .u64 r.c.b, .int .u64 r.n.a, .int .u64 r.n.b] 31)).alloc (.cells #[.int .u64 k.a, .int .u64 k.b] 29))) (l := [.int .i64 0, .int .u64 0, .int .u64 0, .int .u64 0, .int .u64 0, .int .u64 0, .int .u64 0]) (T := 31) (g := w.heap.size + 1 + 1) (by simp)
  replace CA := CA.alloc (.cells #[.int .u64 r.c.a, .int .u64 r.c.b, .int .u64 r.n.a, .int .u64 r.n.b, .int .u64 k.a, .int .u64 k.b] 29)
  replace CK := CK.alloc (.cells #[.int .u64 r.c.a, .int .u64 r.c.b, .int .u64 r.n.a, .int .u64 r.n.b, .int .u64 k.a, .int .u64 k.b] 29)
  replace CR := CR.alloc (.cells #[.int .u64 r.c.a, .int .u64 r.c.b, .int .u64 r.n.a, .int .u64 r.n.b, .int .u64 k.a, .int .u64 k.b] 29)
  have CX := Ce.made (w := (((w.alloc (.cells #[.int .i64 r.e, .int .u64 r.p.a, .int .u64 r.p.b, .int .u64 r.c.a, .int .u64 r.c.b, .int .u64 r.n.a, .int .u64 r.n.b] 31)).alloc (.cells #[.int .u64 k.a, .int .u64 k.b] 29)).alloc (.cells #[.int .i64 0, .int .u64 0, .int .u64 0, .int .u64 0, .int .u64 0, .int .u64 0, .int .u64 0] 31))) (l := [.int .u64 r.c.a, .int .u64 r.c.b, .int .u64 r.n.a, .int .u64 r.n.b, .int .u64 k.a, .int .u64 k.b]) (T := 29) (g := w.heap.size + 1 + 1 + 1) (by simp)
  have B : Below w.heap.size w ((((w.alloc (.cells #[.int .i64 r.e, .int .u64 r.p.a, .int .u64 r.p.b, .int .u64 r.c.a, .int .u64 r.c.b, .int .u64 r.n.a, .int .u64 r.n.b] 31)).alloc (.cells #[.int .u64 k.a, .int .u64 k.b] 29)).alloc (.cells #[.int .i64 0, .int .u64 0, .int .u64 0, .int .u64 0, .int .u64 0, .int .u64 0, .int .u64 0] 31)).alloc (.cells #[.int .u64 r.c.a, .int .u64 r.c.b, .int .u64 r.n.a, .int .u64 r.n.b, .int .u64 k.a, .int .u64 k.b] 29)) := (((((Below.refl w.heap.size w).alloc (by first | exact Nat.le_refl _ | (simp; done) | (simp; omega)) (.cells #[.int .i64 r.e, .int .u64 r.p.a, .int .u64 r.p.b, .int .u64 r.c.a, .int .u64 r.c.b, .int .u64 r.n.a, .int .u64 r.n.b] 31)).alloc (by first | exact Nat.le_refl _ | (simp; done) | (simp; omega)) (.cells #[.int .u64 k.a, .int .u64 k.b] 29)).alloc (by first | exact Nat.le_refl _ | (simp; done) | (simp; omega)) (.cells #[.int .i64 0, .int .u64 0, .int .u64 0, .int .u64 0, .int .u64 0, .int .u64 0, .int .u64 0] 31)).alloc (by first | exact Nat.le_refl _ | (simp; done) | (simp; omega)) (.cells #[.int .u64 r.c.a, .int .u64 r.c.b, .int .u64 r.n.a, .int .u64 r.n.b, .int .u64 k.a, .int .u64 k.b] 29))
  generalize (((w.alloc (.cells #[.int .i64 r.e, .int .u64 r.p.a, .int .u64 r.p.b, .int .u64 r.c.a, .int .u64 r.c.b, .int .u64 r.n.a, .int .u64 r.n.b] 31)).alloc (.cells #[.int .u64 k.a, .int .u64 k.b] 29)).alloc (.cells #[.int .i64 0, .int .u64 0, .int .u64 0, .int .u64 0, .int .u64 0, .int .u64 0, .int .u64 0] 31)).alloc (.cells #[.int .u64 r.c.a, .int .u64 r.c.b, .int .u64 r.n.a, .int .u64 r.n.b, .int .u64 k.a, .int .u64 k.b] 29) = w1 at *
  generalize w.heap.size + 1 + 1 + 1 = X at *
  generalize w.heap.size + 1 + 1 = R at *
  generalize w.heap.size + 1 = K at *
  generalize hK : w.heap.size = A at *
  refine (re_v (cring_any (r.e + 1) (some ⟨X, 0, none⟩) 3 3 _ w1 (Ce.slu [r.c.a, r.c.b, r.n.a, r.n.b, k.a, k.b] CX) (by omega)) (b := .agg #[.int .i64 (r.e + 1), .int .u64 r.c.a, .int .u64 r.c.b, .int .u64 r.n.a, .int .u64 r.n.b, .int .u64 k.a, .int .u64 k.b]) rfl).mono ?_
  rintro e' w2 ⟨rfl, hb⟩
  replace B := B.trans (hb.mono (Nat.le_of_lt CA.1))
  replace CR := CR.below hb
  clear CA CK CX hb
  have fR0 := CR.2.2 0
  have fR1 := CR.2.2 1
  have fR2 := CR.2.2 2
  have fR3 := CR.2.2 3
  have fR4 := CR.2.2 4
  have fR5 := CR.2.2 5
  have fR6 := CR.2.2 6
  obtain ⟨kR, qR, zR⟩ := id CR
  have cR0 := qR 0 _ rfl
  have cR1 := qR 1 _ rfl
  have cR2 := qR 2 _ rfl
  have cR3 := qR 3 _ rfl
  have cR4 := qR 4 _ rfl
  have cR5 := qR 5 _ rfl
  have cR6 := qR 6 _ rfl
  clear qR zR
  go_wp2_with fail
  refine bodyPost_ret (by simp [results, Try.results46, go_sem, cR0, cR1, cR2, cR3, cR4, cR5, cR6]) rfl ⟨rfl, ?_⟩
  try rw [hK]
  repeat' (first | with_reducible exact B | refine Below.setCell ?_ (by first | exact Nat.le_refl _ | omega) _)
theorem rnext_any (r : Rg) (k : Ky) (hr : Ep r.e) (w : World) :
    Calls Try.prog 39 #[rgV r, kyV k] w fun e' w' => e' = .returned (rgV ⟨r.e + 1, r.c, r.n, k⟩) ∧ Below w.heap.size w w' := by
  obtain ⟨hr1, hr2⟩ := hr
  have q2 : IntKind.i64.wrap (r.e + 1) = r.e + 1 := IntWalk.i64_in _ (by omega)
  unfold rgV kyV
  go_enter Try.func39, Try.ntmps39
  go_wp2_with fail
  refine bodyPost_ret (by simp [results, Try.results39, go_sem]) rfl ⟨rfl, ?_⟩
  repeat' (first | with_reducible exact Below.refl _ _ | with_reducible refine Below.drew ?_ | with_reducible refine Below.alloc ?_ ?_ _ | with_reducible refine Below.setCell ?_ ?_ _ | (simp; done) | (simp; omega))

end Go.Proofs.Ytppcanaelagfmaa
