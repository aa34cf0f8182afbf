/- The next ring; the laws' helpers Ring, kind. -/
import Derived.Test.YtfokkmemjkfifabRing2
namespace Go.Proofs.Ytfokkmemjkfifab
set_option linter.unusedVariables false
set_option linter.unusedSimpArgs false
open Go.RowKit Go.ChangeShapes Go.WideShapes Go.ChangeAt
theorem next_any (r : Rg) (k : Ky) (hr : Ep r.e) (w : World) :
    Calls Try.prog 15 #[rgV r, kyV k] w fun e' w' => e' = .returned (rgV ⟨r.e + 1, r.c, r.n, k⟩) ∧ Below w.heap.size w w' := by
  obtain ⟨hr1, hr2⟩ := hr
  have q2 : IntKind.i64.wrap (r.e + 1) = r.e + 1 := IntWalk.i64_in _ (by omega)
  unfold rgV kyV
  go_enter Try.func15, Try.ntmps15
  go_wp2_with fail
  have dA : w.heap.size + 1 + 1 ≠ w.heap.size := by omega
  have dK : w.heap.size + 1 + 1 ≠ w.heap.size + 1 := by omega
  have lR : w.heap.size ≤ w.heap.size + 1 + 1 := by omega
  have CA := Ce.made (w := w) (l := [.int .i64 r.e, .int .u64 r.p.a, .int .u64 r.p.b, .int .u64 r.c.a, .int .u64 r.c.b, .int .u64 r.n.a, .int .u64 r.n.b]) (T := 27) (g := w.heap.size) rfl
  replace CA := CA.alloc (.cells #[.int .u64 k.a, .int .u64 k.b] 25)
  have CK := Ce.made (w := (w.alloc (.cells #[.int .i64 r.e, .int .u64 r.p.a, .int .u64 r.p.b, .int .u64 r.c.a, .int .u64 r.c.b, .int .u64 r.n.a, .int .u64 r.n.b] 27))) (l := [.int .u64 k.a, .int .u64 k.b]) (T := 25) (g := w.heap.size + 1) (by simp)
  replace CA := CA.alloc (.cells #[.int .i64 0, .int .u64 0, .int .u64 0, .int .u64 0, .int .u64 0, .int .u64 0, .int .u64 0] 27)
  replace CK := CK.alloc (.cells #[.int .i64 0, .int .u64 0, .int .u64 0, .int .u64 0, .int .u64 0, .int .u64 0, .int .u64 0] 27)
  have CR := Ce.made (w := ((w.alloc (.cells #[.int .i64 r.e, .int .u64 r.p.a, .int .u64 r.p.b, .int .u64 r.c.a, .int .u64 r.c.b, .int .u64 r.n.a, .int .u64 r.n.b] 27)).alloc (.cells #[.int .u64 k.a, .int .u64 k.b] 25))) (l := [.int .i64 0, .int .u64 0, .int .u64 0, .int .u64 0, .int .u64 0, .int .u64 0, .int .u64 0]) (T := 27) (g := w.heap.size + 1 + 1) (by simp)
  replace CA := CA.alloc (.cells #[.int .u64 r.c.a, .int .u64 r.c.b, .int .u64 r.n.a, .int .u64 r.n.b, .int .u64 k.a, .int .u64 k.b] 25)
  replace CK := CK.alloc (.cells #[.int .u64 r.c.a, .int .u64 r.c.b, .int .u64 r.n.a, .int .u64 r.n.b, .int .u64 k.a, .int .u64 k.b] 25)
  replace CR := CR.alloc (.cells #[.int .u64 r.c.a, .int .u64 r.c.b, .int .u64 r.n.a, .int .u64 r.n.b, .int .u64 k.a, .int .u64 k.b] 25)
  have CX := Ce.made (w := (((w.alloc (.cells #[.int .i64 r.e, .int .u64 r.p.a, .int .u64 r.p.b, .int .u64 r.c.a, .int .u64 r.c.b, .int .u64 r.n.a, .int .u64 r.n.b] 27)).alloc (.cells #[.int .u64 k.a, .int .u64 k.b] 25)).alloc (.cells #[.int .i64 0, .int .u64 0, .int .u64 0, .int .u64 0, .int .u64 0, .int .u64 0, .int .u64 0] 27))) (l := [.int .u64 r.c.a, .int .u64 r.c.b, .int .u64 r.n.a, .int .u64 r.n.b, .int .u64 k.a, .int .u64 k.b]) (T := 25) (g := w.heap.size + 1 + 1 + 1) (by simp)
  have B : Below w.heap.size w ((((w.alloc (.cells #[.int .i64 r.e, .int .u64 r.p.a, .int .u64 r.p.b, .int .u64 r.c.a, .int .u64 r.c.b, .int .u64 r.n.a, .int .u64 r.n.b] 27)).alloc (.cells #[.int .u64 k.a, .int .u64 k.b] 25)).alloc (.cells #[.int .i64 0, .int .u64 0, .int .u64 0, .int .u64 0, .int .u64 0, .int .u64 0, .int .u64 0] 27)).alloc (.cells #[.int .u64 r.c.a, .int .u64 r.c.b, .int .u64 r.n.a, .int .u64 r.n.b, .int .u64 k.a, .int .u64 k.b] 25)) := (((((Below.refl w.heap.size w).alloc (by first | exact Nat.le_refl _ | (simp; done) | (simp; omega)) (.cells #[.int .i64 r.e, .int .u64 r.p.a, .int .u64 r.p.b, .int .u64 r.c.a, .int .u64 r.c.b, .int .u64 r.n.a, .int .u64 r.n.b] 27)).alloc (by first | exact Nat.le_refl _ | (simp; done) | (simp; omega)) (.cells #[.int .u64 k.a, .int .u64 k.b] 25)).alloc (by first | exact Nat.le_refl _ | (simp; done) | (simp; omega)) (.cells #[.int .i64 0, .int .u64 0, .int .u64 0, .int .u64 0, .int .u64 0, .int .u64 0, .int .u64 0] 27)).alloc (by first | exact Nat.le_refl _ | (simp; done) | (simp; omega)) (.cells #[.int .u64 r.c.a, .int .u64 r.c.b, .int .u64 r.n.a, .int .u64 r.n.b, .int .u64 k.a, .int .u64 k.b] 25))
  generalize (((w.alloc (.cells #[.int .i64 r.e, .int .u64 r.p.a, .int .u64 r.p.b, .int .u64 r.c.a, .int .u64 r.c.b, .int .u64 r.n.a, .int .u64 r.n.b] 27)).alloc (.cells #[.int .u64 k.a, .int .u64 k.b] 25)).alloc (.cells #[.int .i64 0, .int .u64 0, .int .u64 0, .int .u64 0, .int .u64 0, .int .u64 0, .int .u64 0] 27)).alloc (.cells #[.int .u64 r.c.a, .int .u64 r.c.b, .int .u64 r.n.a, .int .u64 r.n.b, .int .u64 k.a, .int .u64 k.b] 25) = w1 at *
  generalize w.heap.size + 1 + 1 + 1 = X at *
  generalize w.heap.size + 1 + 1 = R at *
  generalize w.heap.size + 1 = K at *
  generalize hK : w.heap.size = A at *
  refine (re_v (cring_any (r.e + 1) (some ⟨X, 0, none⟩) 3 3 _ w1 (Ce.slu [r.c.a, r.c.b, r.n.a, r.n.b, k.a, k.b] CX) (by omega)) (b := .agg #[.int .i64 (r.e + 1), .int .u64 r.c.a, .int .u64 r.c.b, .int .u64 r.n.a, .int .u64 r.n.b, .int .u64 k.a, .int .u64 k.b]) rfl).mono ?_
  rintro e' w2 ⟨rfl, hb⟩
  replace B := B.trans (hb.mono (Nat.le_of_lt CA.1))
  replace CR := CR.below hb
  clear CA CK CX hb
  have fR0 := CR.2.2 0
  have fR1 := CR.2.2 1
  have fR2 := CR.2.2 2
  have fR3 := CR.2.2 3
  have fR4 := CR.2.2 4
  have fR5 := CR.2.2 5
  have fR6 := CR.2.2 6
  obtain ⟨kR, qR, zR⟩ := id CR
  have cR0 := qR 0 _ rfl
  have cR1 := qR 1 _ rfl
  have cR2 := qR 2 _ rfl
  have cR3 := qR 3 _ rfl
  have cR4 := qR 4 _ rfl
  have cR5 := qR 5 _ rfl
  have cR6 := qR 6 _ rfl
  clear qR zR
  go_wp2_with fail
  refine bodyPost_ret (by simp [results, Try.results15, go_sem, cR0, cR1, cR2, cR3, cR4, cR5, cR6]) rfl ⟨rfl, ?_⟩
  try rw [hK]
  repeat' (first | with_reducible exact B | refine Below.setCell ?_ (by first | exact Nat.le_refl _ | omega) _)
/-- The ring of two numbers. -/
def rgE (e a : Int) : Rg := ⟨wi e 1073741824, kyN a, kyN (wrap64 (a + 1)), kyN (a.tdiv 3)⟩
theorem rgE_ep (e a : Int) : Ep (rgE e a).e ∧ 0 ≤ (rgE e a).e := by
  have := wi_bd e 1073741824 (by omega)
  unfold rgE Ep
  simp only
  omega
theorem lring_any (e a : Int) (he : I64 e) (ha : I64 a) (w : World) :
    Calls Try.prog 5 #[.int .i64 e, .int .i64 a] w fun e' w' => e' = .returned (rgV (rgE e a)) ∧ Below w.heap.size w w' := by
  obtain ⟨he1, he2⟩ := he
  obtain ⟨ha1, ha2⟩ := ha
  have LK := fun n w => lkey_any n w
  unfold kyV at LK
  replace LK := hid LK
  obtain ⟨x, hx⟩ : ∃ x, x = wi e 1073741824 := ⟨_, rfl⟩
  obtain ⟨a1, ha1'⟩ : ∃ a1, a1 = wrap64 (a + 1) := ⟨_, rfl⟩
  unfold rgV rgE
  rw [← hx, ← ha1']
  have HX := hid hx.symm
  have h1 := ha1'.symm
  clear hx ha1'
  go_enter Try.func5, Try.ntmps5
  go_wp2_with fail
  have CR := Ce.made (w := w) (l := [.int .i64 0, .int .u64 0, .int .u64 0, .int .u64 0, .int .u64 0, .int .u64 0, .int .u64 0]) (T := 27) (g := w.heap.size) rfl
  have B : Below w.heap.size w (w.alloc (.cells #[.int .i64 0, .int .u64 0, .int .u64 0, .int .u64 0, .int .u64 0, .int .u64 0, .int .u64 0] 27)) := ((Below.refl w.heap.size w).alloc (by first | exact Nat.le_refl _ | (simp; done) | (simp; omega)) (.cells #[.int .i64 0, .int .u64 0, .int .u64 0, .int .u64 0, .int .u64 0, .int .u64 0, .int .u64 0] 27))
  generalize w.alloc (.cells #[.int .i64 0, .int .u64 0, .int .u64 0, .int .u64 0, .int .u64 0, .int .u64 0, .int .u64 0] 27) = w1 at *
  generalize hK : w.heap.size = R at *
  refine (re_i64 (within_any _ _ _ (by omega) (by omega)) HX.out).mono ?_
  rintro e' w2 ⟨rfl, rfl⟩
  go_wp2_with fail
  refine (LK.out _ _).mono ?_
  rintro e' v0 ⟨rfl, hb⟩
  replace B := B.trans (hb.mono (Nat.le_of_lt CR.1))
  replace CR := CR.below hb
  clear hb
  go_wp2_with fail
  refine (LK.out _ _).mono ?_
  rintro e' v1 ⟨rfl, hb⟩
  replace B := B.trans (hb.mono (Nat.le_of_lt CR.1))
  replace CR := CR.below hb
  clear hb
  go_wp2_with fail
  refine (LK.out _ _).mono ?_
  rintro e' v2 ⟨rfl, hb⟩
  replace B := B.trans (hb.mono (Nat.le_of_lt CR.1))
  replace CR := CR.below hb
  clear hb
  go_wp2_with fail
  have CX := Ce.made (w := v2) (l := [.int .u64 (kyN a).a, .int .u64 (kyN a).b, .int .u64 (kyN a1).a, .int .u64 (kyN a1).b, .int .u64 (kyN (a.tdiv 3)).a, .int .u64 (kyN (a.tdiv 3)).b]) (T := 25) (g := v2.heap.size) rfl
  replace B := B.alloc (Nat.le_of_lt CR.1) (.cells #[.int .u64 (kyN a).a, .int .u64 (kyN a).b, .int .u64 (kyN a1).a, .int .u64 (kyN a1).b, .int .u64 (kyN (a.tdiv 3)).a, .int .u64 (kyN (a.tdiv 3)).b] 25)
  replace CR := CR.alloc (.cells #[.int .u64 (kyN a).a, .int .u64 (kyN a).b, .int .u64 (kyN a1).a, .int .u64 (kyN a1).b, .int .u64 (kyN (a.tdiv 3)).a, .int .u64 (kyN (a.tdiv 3)).b] 25)
  generalize v2.alloc (.cells #[.int .u64 (kyN a).a, .int .u64 (kyN a).b, .int .u64 (kyN a1).a, .int .u64 (kyN a1).b, .int .u64 (kyN (a.tdiv 3)).a, .int .u64 (kyN (a.tdiv 3)).b] 25) = w5 at *
  generalize v2.heap.size = X at *
  refine (re_v (rring_any x (some ⟨X, 0, none⟩) 3 3 _ w5 (Ce.slu [(kyN a).a, (kyN a).b, (kyN a1).a, (kyN a1).b, (kyN (a.tdiv 3)).a, (kyN (a.tdiv 3)).b] CX) (by omega)) (b := .agg #[.int .i64 x, .int .u64 (kyN a).a, .int .u64 (kyN a).b, .int .u64 (kyN a1).a, .int .u64 (kyN a1).b, .int .u64 (kyN (a.tdiv 3)).a, .int .u64 (kyN (a.tdiv 3)).b]) rfl).mono ?_
  rintro e' w6 ⟨rfl, hb⟩
  replace B := B.trans (hb.mono (Nat.le_of_lt CR.1))
  replace CR := CR.below hb
  clear CX hb
  have fR0 := CR.2.2 0
  have fR1 := CR.2.2 1
  have fR2 := CR.2.2 2
  have fR3 := CR.2.2 3
  have fR4 := CR.2.2 4
  have fR5 := CR.2.2 5
  have fR6 := CR.2.2 6
  obtain ⟨kR, qR, zR⟩ := id CR
  have cR0 := qR 0 _ rfl
  have cR1 := qR 1 _ rfl
  have cR2 := qR 2 _ rfl
  have cR3 := qR 3 _ rfl
  have cR4 := qR 4 _ rfl
  have cR5 := qR 5 _ rfl
  have cR6 := qR 6 _ rfl
  clear qR zR
  go_wp2_with fail
  refine bodyPost_ret (by simp [results, Try.results5, go_sem, cR0, cR1, cR2, cR3, cR4, cR5, cR6]) rfl ⟨rfl, ?_⟩
  try rw [hK]
  repeat' (first | with_reducible exact B | refine Below.setCell ?_ (by first | exact Nat.le_refl _ | omega) _)

end Go.Proofs.Ytfokkmemjkfifab
