/- Cookies read, of both packages. -/
import Derived.Test.YtfokkmemjkfifabCook5
namespace Go.Proofs.Ytfokkmemjkfifab
set_option linter.unusedVariables false
set_option linter.unusedSimpArgs false
open Go.RowKit Go.ChangeShapes Go.WideShapes Go.ChangeAt

theorem cok_iff (T : Int) (k : Ky) (kd : Int) (f : Fl) (c : Int) (hT : T = 4096 ∨ T = 256) (h0 : 0 ≤ c) (h1 : c < 256 * T) : cok T k kd f (slotOf T k kd f c) (c / (64 * T)) = c ↔ W7 k kd f (slotOf T k kd f c) (c / (64 * T)) % T = c % T := by
  have hm : xr (slotOf T k kd f c) (W7 k kd f 64 (c / (64 * T)) % 64) = c / T % 64 := by
    unfold slotOf
    rw [xr_back _ _ (by omega)]
  unfold cok
  rw [hm]
  generalize W7 k kd f (slotOf T k kd f c) (c / (64 * T)) = x
  rcases hT with rfl | rfl <;> omega
def rdO (o : Option Int) : Value := .tuple #[.int .i64 (o.getD 0), .bool o.isSome]
set_option maxHeartbeats 2000000 in
theorem read1 (r : Rg) (f : Fl) (c : Int) (hf : f.I) (hr : Ep r.e) (w : World) :
    Calls Try.prog 9 #[rgV r, .int .i64 1, flV f, .int .i64 c] w fun e' w' => e' = .returned (rdO (readC 4096 r 1 f c)) ∧ Below w.heap.size w w' := by
  have hkI : I64 1 := ⟨by omega, by omega⟩
  have BY := fun w => beyond_any 4096 w (by exact .inl rfl)
  have AP := fun w => apart1 c w
  have KY := fun e w => key_any r e hr w
  have MK := fun k e he w => mask_any k 1 f e hf hkI he w
  have MD := fun k x e hx he w => made1 k 1 f x e hf hkI hx he w
  have HI := cok_iff 4096 (f := f) (kd := 1) (c := c) (hT := (by exact .inl rfl))
  obtain ⟨o, ho⟩ : ∃ o, o = readC 4096 r 1 f c := ⟨_, rfl⟩
  rw [← ho]
  unfold readC at ho
  rw [shV1] at BY AP MD
  unfold rgV flV kyV ptV rdO kyO kyV at *
  replace BY := hid BY
  replace AP := hid AP
  replace KY := hid KY
  replace MK := hid MK
  replace MD := hid MD
  replace HI := hid HI
  by_cases h0 : c < 0
  · rw [if_pos (Or.inl h0)] at ho
    subst ho
    go_enter Try.func9, Try.ntmps9
    go_wp2_with fail
    have CA := Ce.made (w := w) (l := [.int .i64 r.e, .int .u64 r.p.a, .int .u64 r.p.b, .int .u64 r.c.a, .int .u64 r.c.b, .int .u64 r.n.a, .int .u64 r.n.b]) (T := 27) (g := w.heap.size) rfl
    replace CA := CA.alloc (.cells #[.int .i64 f.a, .int .i64 f.p, .int .i64 f.ta, .int .i64 f.tp] 30)
    have CF := Ce.made (w := (w.alloc (.cells #[.int .i64 r.e, .int .u64 r.p.a, .int .u64 r.p.b, .int .u64 r.c.a, .int .u64 r.c.b, .int .u64 r.n.a, .int .u64 r.n.b] 27))) (l := [.int .i64 f.a, .int .i64 f.p, .int .i64 f.ta, .int .i64 f.tp]) (T := 30) (g := w.heap.size + 1) (by simp)
    have B : Below w.heap.size w ((w.alloc (.cells #[.int .i64 r.e, .int .u64 r.p.a, .int .u64 r.p.b, .int .u64 r.c.a, .int .u64 r.c.b, .int .u64 r.n.a, .int .u64 r.n.b] 27)).alloc (.cells #[.int .i64 f.a, .int .i64 f.p, .int .i64 f.ta, .int .i64 f.tp] 30)) := (((Below.refl w.heap.size w).alloc (by first | exact Nat.le_refl _ | (simp; done) | (simp; omega)) (.cells #[.int .i64 r.e, .int .u64 r.p.a, .int .u64 r.p.b, .int .u64 r.c.a, .int .u64 r.c.b, .int .u64 r.n.a, .int .u64 r.n.b] 27)).alloc (by first | exact Nat.le_refl _ | (simp; done) | (simp; omega)) (.cells #[.int .i64 f.a, .int .i64 f.p, .int .i64 f.ta, .int .i64 f.tp] 30))
    generalize (w.alloc (.cells #[.int .i64 r.e, .int .u64 r.p.a, .int .u64 r.p.b, .int .u64 r.c.a, .int .u64 r.c.b, .int .u64 r.n.a, .int .u64 r.n.b] 27)).alloc (.cells #[.int .i64 f.a, .int .i64 f.p, .int .i64 f.ta, .int .i64 f.tp] 30) = w1 at *
    generalize w.heap.size + 1 = F at *
    generalize hK : w.heap.size = A at *
    refine (shapeOf_any 1 4096 _ (by exact .inl ⟨rfl, rfl⟩)).mono ?_
    rintro e' w2 ⟨rfl, hb⟩
    replace B := B.trans (hb.mono (Nat.le_of_lt CA.1))
    replace CA := CA.below hb
    replace CF := CF.below hb
    clear hb
    rw [shV1]
    obtain ⟨kA, qA, zA⟩ := id CA
    have cA0 := qA 0 _ rfl
    have cA1 := qA 1 _ rfl
    have cA2 := qA 2 _ rfl
    have cA3 := qA 3 _ rfl
    have cA4 := qA 4 _ rfl
    have cA5 := qA 5 _ rfl
    have cA6 := qA 6 _ rfl
    clear qA zA
    obtain ⟨kF, qF, zF⟩ := id CF
    have cF0 := qF 0 _ rfl
    have cF1 := qF 1 _ rfl
    have cF2 := qF 2 _ rfl
    have cF3 := qF 3 _ rfl
    clear qF zF
    go_wp2_with fail
    clear kA cA0 cA1 cA2 cA3 cA4 cA5 cA6
    clear kF cF0 cF1 cF2 cF3
    have CS := Ce.made (w := w2) (l := [.int .u64 18, .int .u64 2, .int .u64 12, .int .u64 6, .int .u64 0, .int .u64 12]) (T := 50) (g := w2.heap.size) rfl
    replace B := B.alloc (Nat.le_of_lt CA.1) (.cells #[.int .u64 18, .int .u64 2, .int .u64 12, .int .u64 6, .int .u64 0, .int .u64 12] 50)
    replace CA := CA.alloc (.cells #[.int .u64 18, .int .u64 2, .int .u64 12, .int .u64 6, .int .u64 0, .int .u64 12] 50)
    replace CF := CF.alloc (.cells #[.int .u64 18, .int .u64 2, .int .u64 12, .int .u64 6, .int .u64 0, .int .u64 12] 50)
    generalize w2.alloc (.cells #[.int .u64 18, .int .u64 2, .int .u64 12, .int .u64 6, .int .u64 0, .int .u64 12] 50) = w3 at *
    generalize w2.heap.size = S at *
    obtain ⟨kA, qA, zA⟩ := id CA
    have cA0 := qA 0 _ rfl
    have cA1 := qA 1 _ rfl
    have cA2 := qA 2 _ rfl
    have cA3 := qA 3 _ rfl
    have cA4 := qA 4 _ rfl
    have cA5 := qA 5 _ rfl
    have cA6 := qA 6 _ rfl
    clear qA zA
    obtain ⟨kF, qF, zF⟩ := id CF
    have cF0 := qF 0 _ rfl
    have cF1 := qF 1 _ rfl
    have cF2 := qF 2 _ rfl
    have cF3 := qF 3 _ rfl
    clear qF zF
    obtain ⟨kS, qS, zS⟩ := id CS
    have cS0 := qS 0 _ rfl
    have cS1 := qS 1 _ rfl
    have cS2 := qS 2 _ rfl
    have cS3 := qS 3 _ rfl
    have cS4 := qS 4 _ rfl
    have cS5 := qS 5 _ rfl
    clear qS zS
    go_wp2
    refine bodyPost_ret (by simp [results, Try.results9, go_sem]) rfl ⟨rfl, ?_⟩
    rw [hK]
    exact B
  · by_cases h1 : 1048576 ≤ c
    · rw [if_pos (Or.inr (by omega))] at ho
      subst ho
      have g0 : 0 ≤ c := by omega
      go_enter Try.func9, Try.ntmps9
      go_wp2_with fail
      have CA := Ce.made (w := w) (l := [.int .i64 r.e, .int .u64 r.p.a, .int .u64 r.p.b, .int .u64 r.c.a, .int .u64 r.c.b, .int .u64 r.n.a, .int .u64 r.n.b]) (T := 27) (g := w.heap.size) rfl
      replace CA := CA.alloc (.cells #[.int .i64 f.a, .int .i64 f.p, .int .i64 f.ta, .int .i64 f.tp] 30)
      have CF := Ce.made (w := (w.alloc (.cells #[.int .i64 r.e, .int .u64 r.p.a, .int .u64 r.p.b, .int .u64 r.c.a, .int .u64 r.c.b, .int .u64 r.n.a, .int .u64 r.n.b] 27))) (l := [.int .i64 f.a, .int .i64 f.p, .int .i64 f.ta, .int .i64 f.tp]) (T := 30) (g := w.heap.size + 1) (by simp)
      have B : Below w.heap.size w ((w.alloc (.cells #[.int .i64 r.e, .int .u64 r.p.a, .int .u64 r.p.b, .int .u64 r.c.a, .int .u64 r.c.b, .int .u64 r.n.a, .int .u64 r.n.b] 27)).alloc (.cells #[.int .i64 f.a, .int .i64 f.p, .int .i64 f.ta, .int .i64 f.tp] 30)) := (((Below.refl w.heap.size w).alloc (by first | exact Nat.le_refl _ | (simp; done) | (simp; omega)) (.cells #[.int .i64 r.e, .int .u64 r.p.a, .int .u64 r.p.b, .int .u64 r.c.a, .int .u64 r.c.b, .int .u64 r.n.a, .int .u64 r.n.b] 27)).alloc (by first | exact Nat.le_refl _ | (simp; done) | (simp; omega)) (.cells #[.int .i64 f.a, .int .i64 f.p, .int .i64 f.ta, .int .i64 f.tp] 30))
      generalize (w.alloc (.cells #[.int .i64 r.e, .int .u64 r.p.a, .int .u64 r.p.b, .int .u64 r.c.a, .int .u64 r.c.b, .int .u64 r.n.a, .int .u64 r.n.b] 27)).alloc (.cells #[.int .i64 f.a, .int .i64 f.p, .int .i64 f.ta, .int .i64 f.tp] 30) = w1 at *
      generalize w.heap.size + 1 = F at *
      generalize hK : w.heap.size = A at *
      refine (shapeOf_any 1 4096 _ (by exact .inl ⟨rfl, rfl⟩)).mono ?_
      rintro e' w2 ⟨rfl, hb⟩
      replace B := B.trans (hb.mono (Nat.le_of_lt CA.1))
      replace CA := CA.below hb
      replace CF := CF.below hb
      clear hb
      rw [shV1]
      obtain ⟨kA, qA, zA⟩ := id CA
      have cA0 := qA 0 _ rfl
      have cA1 := qA 1 _ rfl
      have cA2 := qA 2 _ rfl
      have cA3 := qA 3 _ rfl
      have cA4 := qA 4 _ rfl
      have cA5 := qA 5 _ rfl
      have cA6 := qA 6 _ rfl
      clear qA zA
      obtain ⟨kF, qF, zF⟩ := id CF
      have cF0 := qF 0 _ rfl
      have cF1 := qF 1 _ rfl
      have cF2 := qF 2 _ rfl
      have cF3 := qF 3 _ rfl
      clear qF zF
      go_wp2_with fail
      clear kA cA0 cA1 cA2 cA3 cA4 cA5 cA6
      clear kF cF0 cF1 cF2 cF3
      have CS := Ce.made (w := w2) (l := [.int .u64 18, .int .u64 2, .int .u64 12, .int .u64 6, .int .u64 0, .int .u64 12]) (T := 50) (g := w2.heap.size) rfl
      replace B := B.alloc (Nat.le_of_lt CA.1) (.cells #[.int .u64 18, .int .u64 2, .int .u64 12, .int .u64 6, .int .u64 0, .int .u64 12] 50)
      replace CA := CA.alloc (.cells #[.int .u64 18, .int .u64 2, .int .u64 12, .int .u64 6, .int .u64 0, .int .u64 12] 50)
      replace CF := CF.alloc (.cells #[.int .u64 18, .int .u64 2, .int .u64 12, .int .u64 6, .int .u64 0, .int .u64 12] 50)
      generalize w2.alloc (.cells #[.int .u64 18, .int .u64 2, .int .u64 12, .int .u64 6, .int .u64 0, .int .u64 12] 50) = w3 at *
      generalize w2.heap.size = S at *
      obtain ⟨kA, qA, zA⟩ := id CA
      have cA0 := qA 0 _ rfl
      have cA1 := qA 1 _ rfl
      have cA2 := qA 2 _ rfl
      have cA3 := qA 3 _ rfl
      have cA4 := qA 4 _ rfl
      have cA5 := qA 5 _ rfl
      have cA6 := qA 6 _ rfl
      clear qA zA
      obtain ⟨kF, qF, zF⟩ := id CF
      have cF0 := qF 0 _ rfl
      have cF1 := qF 1 _ rfl
      have cF2 := qF 2 _ rfl
      have cF3 := qF 3 _ rfl
      clear qF zF
      obtain ⟨kS, qS, zS⟩ := id CS
      have cS0 := qS 0 _ rfl
      have cS1 := qS 1 _ rfl
      have cS2 := qS 2 _ rfl
      have cS3 := qS 3 _ rfl
      have cS4 := qS 4 _ rfl
      have cS5 := qS 5 _ rfl
      clear qS zS
      go_wp2_with fail
      refine (BY.out _).mono ?_
      rintro e' w4 ⟨rfl, hb⟩
      clear kA cA0 cA1 cA2 cA3 cA4 cA5 cA6
      clear kF cF0 cF1 cF2 cF3
      clear kS cS0 cS1 cS2 cS3 cS4 cS5
      replace B := B.trans (hb.mono (Nat.le_of_lt CA.1))
      replace CA := CA.below hb
      replace CF := CF.below hb
      replace CS := CS.below hb
      clear hb
      obtain ⟨kA, qA, zA⟩ := id CA
      have cA0 := qA 0 _ rfl
      have cA1 := qA 1 _ rfl
      have cA2 := qA 2 _ rfl
      have cA3 := qA 3 _ rfl
      have cA4 := qA 4 _ rfl
      have cA5 := qA 5 _ rfl
      have cA6 := qA 6 _ rfl
      clear qA zA
      obtain ⟨kF, qF, zF⟩ := id CF
      have cF0 := qF 0 _ rfl
      have cF1 := qF 1 _ rfl
      have cF2 := qF 2 _ rfl
      have cF3 := qF 3 _ rfl
      clear qF zF
      obtain ⟨kS, qS, zS⟩ := id CS
      have cS0 := qS 0 _ rfl
      have cS1 := qS 1 _ rfl
      have cS2 := qS 2 _ rfl
      have cS3 := qS 3 _ rfl
      have cS4 := qS 4 _ rfl
      have cS5 := qS 5 _ rfl
      clear qS zS
      go_wp2
      refine bodyPost_ret (by simp [results, Try.results9, go_sem]) rfl ⟨rfl, ?_⟩
      rw [hK]
      exact B
    · rw [if_neg (by omega)] at ho
      have g0 : 0 ≤ c := by omega
      have g1 : ¬ 1048576 ≤ c := h1
      obtain ⟨e, he⟩ : ∃ e, e = c / (64 * 4096) := ⟨_, rfl⟩
      obtain ⟨m, hm⟩ : ∃ m, m = c / 4096 % 64 := ⟨_, rfl⟩
      obtain ⟨t, ht⟩ : ∃ t, t = c % 4096 := ⟨_, rfl⟩
      have he4 : c / (64 * 4096) % 4 = e := by omega
      have heb : I64 e := ⟨by omega, by omega⟩
      replace HI := fun k => HI.out k g0 (by omega)
      replace AP := AP.out
      have hmb : m % 64 = m := by omega
      rw [he4, ← hm, ← ht] at AP
      unfold slotOf at ho HI
      rw [← he, ← hm] at ho HI
      rw [← ht] at HI
      replace AP := hid AP
      replace HI := hid HI
      have KE := KY.out e
      clear KY h1
      have HE := hid he
      have HM := hid hm
      have HT := hid ht
      have HE4 := hid he4
      clear he hm ht he4
      cases hk : keyOf r e with
      | none =>
        rw [hk] at ho KE
        subst ho
        have KY := hid KE
        clear KE
        go_enter Try.func9, Try.ntmps9
        go_wp2_with fail
        have CA := Ce.made (w := w) (l := [.int .i64 r.e, .int .u64 r.p.a, .int .u64 r.p.b, .int .u64 r.c.a, .int .u64 r.c.b, .int .u64 r.n.a, .int .u64 r.n.b]) (T := 27) (g := w.heap.size) rfl
        replace CA := CA.alloc (.cells #[.int .i64 f.a, .int .i64 f.p, .int .i64 f.ta, .int .i64 f.tp] 30)
        have CF := Ce.made (w := (w.alloc (.cells #[.int .i64 r.e, .int .u64 r.p.a, .int .u64 r.p.b, .int .u64 r.c.a, .int .u64 r.c.b, .int .u64 r.n.a, .int .u64 r.n.b] 27))) (l := [.int .i64 f.a, .int .i64 f.p, .int .i64 f.ta, .int .i64 f.tp]) (T := 30) (g := w.heap.size + 1) (by simp)
        have B : Below w.heap.size w ((w.alloc (.cells #[.int .i64 r.e, .int .u64 r.p.a, .int .u64 r.p.b, .int .u64 r.c.a, .int .u64 r.c.b, .int .u64 r.n.a, .int .u64 r.n.b] 27)).alloc (.cells #[.int .i64 f.a, .int .i64 f.p, .int .i64 f.ta, .int .i64 f.tp] 30)) := (((Below.refl w.heap.size w).alloc (by first | exact Nat.le_refl _ | (simp; done) | (simp; omega)) (.cells #[.int .i64 r.e, .int .u64 r.p.a, .int .u64 r.p.b, .int .u64 r.c.a, .int .u64 r.c.b, .int .u64 r.n.a, .int .u64 r.n.b] 27)).alloc (by first | exact Nat.le_refl _ | (simp; done) | (simp; omega)) (.cells #[.int .i64 f.a, .int .i64 f.p, .int .i64 f.ta, .int .i64 f.tp] 30))
        generalize (w.alloc (.cells #[.int .i64 r.e, .int .u64 r.p.a, .int .u64 r.p.b, .int .u64 r.c.a, .int .u64 r.c.b, .int .u64 r.n.a, .int .u64 r.n.b] 27)).alloc (.cells #[.int .i64 f.a, .int .i64 f.p, .int .i64 f.ta, .int .i64 f.tp] 30) = w1 at *
        generalize w.heap.size + 1 = F at *
        generalize hK : w.heap.size = A at *
        refine (shapeOf_any 1 4096 _ (by exact .inl ⟨rfl, rfl⟩)).mono ?_
        rintro e' w2 ⟨rfl, hb⟩
        replace B := B.trans (hb.mono (Nat.le_of_lt CA.1))
        replace CA := CA.below hb
        replace CF := CF.below hb
        clear hb
        rw [shV1]
        obtain ⟨kA, qA, zA⟩ := id CA
        have cA0 := qA 0 _ rfl
        have cA1 := qA 1 _ rfl
        have cA2 := qA 2 _ rfl
        have cA3 := qA 3 _ rfl
        have cA4 := qA 4 _ rfl
        have cA5 := qA 5 _ rfl
        have cA6 := qA 6 _ rfl
        clear qA zA
        obtain ⟨kF, qF, zF⟩ := id CF
        have cF0 := qF 0 _ rfl
        have cF1 := qF 1 _ rfl
        have cF2 := qF 2 _ rfl
        have cF3 := qF 3 _ rfl
        clear qF zF
        go_wp2_with fail
        clear kA cA0 cA1 cA2 cA3 cA4 cA5 cA6
        clear kF cF0 cF1 cF2 cF3
        have CS := Ce.made (w := w2) (l := [.int .u64 18, .int .u64 2, .int .u64 12, .int .u64 6, .int .u64 0, .int .u64 12]) (T := 50) (g := w2.heap.size) rfl
        replace B := B.alloc (Nat.le_of_lt CA.1) (.cells #[.int .u64 18, .int .u64 2, .int .u64 12, .int .u64 6, .int .u64 0, .int .u64 12] 50)
        replace CA := CA.alloc (.cells #[.int .u64 18, .int .u64 2, .int .u64 12, .int .u64 6, .int .u64 0, .int .u64 12] 50)
        replace CF := CF.alloc (.cells #[.int .u64 18, .int .u64 2, .int .u64 12, .int .u64 6, .int .u64 0, .int .u64 12] 50)
        generalize w2.alloc (.cells #[.int .u64 18, .int .u64 2, .int .u64 12, .int .u64 6, .int .u64 0, .int .u64 12] 50) = w3 at *
        generalize w2.heap.size = S at *
        obtain ⟨kA, qA, zA⟩ := id CA
        have cA0 := qA 0 _ rfl
        have cA1 := qA 1 _ rfl
        have cA2 := qA 2 _ rfl
        have cA3 := qA 3 _ rfl
        have cA4 := qA 4 _ rfl
        have cA5 := qA 5 _ rfl
        have cA6 := qA 6 _ rfl
        clear qA zA
        obtain ⟨kF, qF, zF⟩ := id CF
        have cF0 := qF 0 _ rfl
        have cF1 := qF 1 _ rfl
        have cF2 := qF 2 _ rfl
        have cF3 := qF 3 _ rfl
        clear qF zF
        obtain ⟨kS, qS, zS⟩ := id CS
        have cS0 := qS 0 _ rfl
        have cS1 := qS 1 _ rfl
        have cS2 := qS 2 _ rfl
        have cS3 := qS 3 _ rfl
        have cS4 := qS 4 _ rfl
        have cS5 := qS 5 _ rfl
        clear qS zS
        go_wp2_with fail
        refine (BY.out _).mono ?_
        rintro e' w4 ⟨rfl, hb⟩
        clear kA cA0 cA1 cA2 cA3 cA4 cA5 cA6
        clear kF cF0 cF1 cF2 cF3
        clear kS cS0 cS1 cS2 cS3 cS4 cS5
        replace B := B.trans (hb.mono (Nat.le_of_lt CA.1))
        replace CA := CA.below hb
        replace CF := CF.below hb
        replace CS := CS.below hb
        clear hb
        obtain ⟨kA, qA, zA⟩ := id CA
        have cA0 := qA 0 _ rfl
        have cA1 := qA 1 _ rfl
        have cA2 := qA 2 _ rfl
        have cA3 := qA 3 _ rfl
        have cA4 := qA 4 _ rfl
        have cA5 := qA 5 _ rfl
        have cA6 := qA 6 _ rfl
        clear qA zA
        obtain ⟨kF, qF, zF⟩ := id CF
        have cF0 := qF 0 _ rfl
        have cF1 := qF 1 _ rfl
        have cF2 := qF 2 _ rfl
        have cF3 := qF 3 _ rfl
        clear qF zF
        obtain ⟨kS, qS, zS⟩ := id CS
        have cS0 := qS 0 _ rfl
        have cS1 := qS 1 _ rfl
        have cS2 := qS 2 _ rfl
        have cS3 := qS 3 _ rfl
        have cS4 := qS 4 _ rfl
        have cS5 := qS 5 _ rfl
        clear qS zS
        go_wp2_with fail
        refine (AP.out _).mono ?_
        rintro e' w5 ⟨rfl, hb⟩
        replace B := B.trans (hb.mono (Nat.le_of_lt CA.1))
        replace CA := CA.below hb
        replace CF := CF.below hb
        replace CS := CS.below hb
        clear hb
        clear kA cA0 cA1 cA2 cA3 cA4 cA5 cA6
        clear kF cF0 cF1 cF2 cF3
        clear kS cS0 cS1 cS2 cS3 cS4 cS5
        obtain ⟨kA, qA, zA⟩ := id CA
        have cA0 := qA 0 _ rfl
        have cA1 := qA 1 _ rfl
        have cA2 := qA 2 _ rfl
        have cA3 := qA 3 _ rfl
        have cA4 := qA 4 _ rfl
        have cA5 := qA 5 _ rfl
        have cA6 := qA 6 _ rfl
        clear qA zA
        obtain ⟨kF, qF, zF⟩ := id CF
        have cF0 := qF 0 _ rfl
        have cF1 := qF 1 _ rfl
        have cF2 := qF 2 _ rfl
        have cF3 := qF 3 _ rfl
        clear qF zF
        obtain ⟨kS, qS, zS⟩ := id CS
        have cS0 := qS 0 _ rfl
        have cS1 := qS 1 _ rfl
        have cS2 := qS 2 _ rfl
        have cS3 := qS 3 _ rfl
        have cS4 := qS 4 _ rfl
        have cS5 := qS 5 _ rfl
        clear qS zS
        go_wp2_with fail
        clear kA cA0 cA1 cA2 cA3 cA4 cA5 cA6
        clear kF cF0 cF1 cF2 cF3
        clear kS cS0 cS1 cS2 cS3 cS4 cS5
        have CG := Ce.made (w := w5) (l := [.int .i64 e, .int .i64 m, .int .i64 t]) (T := 54) (g := w5.heap.size) rfl
        replace B := B.alloc (Nat.le_of_lt CA.1) (.cells #[.int .i64 e, .int .i64 m, .int .i64 t] 54)
        replace CA := CA.alloc (.cells #[.int .i64 e, .int .i64 m, .int .i64 t] 54)
        replace CF := CF.alloc (.cells #[.int .i64 e, .int .i64 m, .int .i64 t] 54)
        replace CS := CS.alloc (.cells #[.int .i64 e, .int .i64 m, .int .i64 t] 54)
        generalize w5.alloc (.cells #[.int .i64 e, .int .i64 m, .int .i64 t] 54) = w6 at *
        generalize w5.heap.size = G at *
        obtain ⟨kA, qA, zA⟩ := id CA
        have cA0 := qA 0 _ rfl
        have cA1 := qA 1 _ rfl
        have cA2 := qA 2 _ rfl
        have cA3 := qA 3 _ rfl
        have cA4 := qA 4 _ rfl
        have cA5 := qA 5 _ rfl
        have cA6 := qA 6 _ rfl
        clear qA zA
        obtain ⟨kF, qF, zF⟩ := id CF
        have cF0 := qF 0 _ rfl
        have cF1 := qF 1 _ rfl
        have cF2 := qF 2 _ rfl
        have cF3 := qF 3 _ rfl
        clear qF zF
        obtain ⟨kS, qS, zS⟩ := id CS
        have cS0 := qS 0 _ rfl
        have cS1 := qS 1 _ rfl
        have cS2 := qS 2 _ rfl
        have cS3 := qS 3 _ rfl
        have cS4 := qS 4 _ rfl
        have cS5 := qS 5 _ rfl
        clear qS zS
        obtain ⟨kG, qG, zG⟩ := id CG
        have cG0 := qG 0 _ rfl
        have cG1 := qG 1 _ rfl
        have cG2 := qG 2 _ rfl
        clear qG zG
        go_wp2_with fail
        refine (KY.out _).mono ?_
        rintro e' w7 ⟨rfl, hb⟩
        replace B := B.trans (hb.mono (Nat.le_of_lt CA.1))
        replace CA := CA.below hb
        replace CF := CF.below hb
        replace CS := CS.below hb
        replace CG := CG.below hb
        clear hb
        clear kA cA0 cA1 cA2 cA3 cA4 cA5 cA6
        clear kF cF0 cF1 cF2 cF3
        clear kS cS0 cS1 cS2 cS3 cS4 cS5
        clear kG cG0 cG1 cG2
        obtain ⟨kA, qA, zA⟩ := id CA
        have cA0 := qA 0 _ rfl
        have cA1 := qA 1 _ rfl
        have cA2 := qA 2 _ rfl
        have cA3 := qA 3 _ rfl
        have cA4 := qA 4 _ rfl
        have cA5 := qA 5 _ rfl
        have cA6 := qA 6 _ rfl
        clear qA zA
        obtain ⟨kF, qF, zF⟩ := id CF
        have cF0 := qF 0 _ rfl
        have cF1 := qF 1 _ rfl
        have cF2 := qF 2 _ rfl
        have cF3 := qF 3 _ rfl
        clear qF zF
        obtain ⟨kS, qS, zS⟩ := id CS
        have cS0 := qS 0 _ rfl
        have cS1 := qS 1 _ rfl
        have cS2 := qS 2 _ rfl
        have cS3 := qS 3 _ rfl
        have cS4 := qS 4 _ rfl
        have cS5 := qS 5 _ rfl
        clear qS zS
        obtain ⟨kG, qG, zG⟩ := id CG
        have cG0 := qG 0 _ rfl
        have cG1 := qG 1 _ rfl
        have cG2 := qG 2 _ rfl
        clear qG zG
        go_wp2_with fail
        refine bodyPost_ret (by simp [results, Try.results9, go_sem]) rfl ⟨rfl, ?_⟩
        rw [hK]
        exact B.alloc (Nat.le_of_lt CA.1) _
      | some k =>
        rw [hk] at ho KE
        simp only at ho
        obtain ⟨sl, hsl⟩ : ∃ sl, sl = xr m (W7 k 1 f 64 e % 64) := ⟨_, rfl⟩
        rw [← hsl] at ho
        have hslb : 0 ≤ sl ∧ sl < 64 := by rw [hsl]; exact xr_bd _ _ ⟨by omega, by omega⟩ ⟨by omega, by omega⟩
        have HI2 := HI.out k
        rw [← hsl] at HI2
        have hx : bits .xor .i64 m (wrap64 (W7 k 1 f 64 e)) % 64 = sl := by
          rw [xor64, show wrap64 (W7 k 1 f 64 e) % 64 = W7 k 1 f 64 e % 64 from w64_mod _ 6 (by omega), hmb, hsl]
        have hback : xr (sl % 64) (W7 k 1 f 64 e % 64) = m := by
          rw [show sl % 64 = sl from by omega, hsl, xr_back _ _ (by omega)]
        have MK2 := hid (MK.out k e heb)
        have MD2 := MD.out k sl e ⟨by omega, by omega⟩ heb
        rw [hback] at MD2
        obtain ⟨tv, htv⟩ : ∃ tv, tv = W7 k 1 f sl e % 4096 := ⟨_, rfl⟩
        rw [← htv] at MD2 HI2
        replace MD2 := hid MD2
        clear htv hback hsl MD MK HI hk hslb
        by_cases htt : tv = t
        · rw [if_pos (HI2.2 htt)] at ho
          subst ho
          have HT2 := hid htt
          subst htt
          clear HI2 HT2
          have KY := hid KE
          clear KE
          go_enter Try.func9, Try.ntmps9
          go_wp2_with fail
          have CA := Ce.made (w := w) (l := [.int .i64 r.e, .int .u64 r.p.a, .int .u64 r.p.b, .int .u64 r.c.a, .int .u64 r.c.b, .int .u64 r.n.a, .int .u64 r.n.b]) (T := 27) (g := w.heap.size) rfl
          replace CA := CA.alloc (.cells #[.int .i64 f.a, .int .i64 f.p, .int .i64 f.ta, .int .i64 f.tp] 30)
          have CF := Ce.made (w := (w.alloc (.cells #[.int .i64 r.e, .int .u64 r.p.a, .int .u64 r.p.b, .int .u64 r.c.a, .int .u64 r.c.b, .int .u64 r.n.a, .int .u64 r.n.b] 27))) (l := [.int .i64 f.a, .int .i64 f.p, .int .i64 f.ta, .int .i64 f.tp]) (T := 30) (g := w.heap.size + 1) (by simp)
          have B : Below w.heap.size w ((w.alloc (.cells #[.int .i64 r.e, .int .u64 r.p.a, .int .u64 r.p.b, .int .u64 r.c.a, .int .u64 r.c.b, .int .u64 r.n.a, .int .u64 r.n.b] 27)).alloc (.cells #[.int .i64 f.a, .int .i64 f.p, .int .i64 f.ta, .int .i64 f.tp] 30)) := (((Below.refl w.heap.size w).alloc (by first | exact Nat.le_refl _ | (simp; done) | (simp; omega)) (.cells #[.int .i64 r.e, .int .u64 r.p.a, .int .u64 r.p.b, .int .u64 r.c.a, .int .u64 r.c.b, .int .u64 r.n.a, .int .u64 r.n.b] 27)).alloc (by first | exact Nat.le_refl _ | (simp; done) | (simp; omega)) (.cells #[.int .i64 f.a, .int .i64 f.p, .int .i64 f.ta, .int .i64 f.tp] 30))
          generalize (w.alloc (.cells #[.int .i64 r.e, .int .u64 r.p.a, .int .u64 r.p.b, .int .u64 r.c.a, .int .u64 r.c.b, .int .u64 r.n.a, .int .u64 r.n.b] 27)).alloc (.cells #[.int .i64 f.a, .int .i64 f.p, .int .i64 f.ta, .int .i64 f.tp] 30) = w1 at *
          generalize w.heap.size + 1 = F at *
          generalize hK : w.heap.size = A at *
          refine (shapeOf_any 1 4096 _ (by exact .inl ⟨rfl, rfl⟩)).mono ?_
          rintro e' w2 ⟨rfl, hb⟩
          replace B := B.trans (hb.mono (Nat.le_of_lt CA.1))
          replace CA := CA.below hb
          replace CF := CF.below hb
          clear hb
          rw [shV1]
          obtain ⟨kA, qA, zA⟩ := id CA
          have cA0 := qA 0 _ rfl
          have cA1 := qA 1 _ rfl
          have cA2 := qA 2 _ rfl
          have cA3 := qA 3 _ rfl
          have cA4 := qA 4 _ rfl
          have cA5 := qA 5 _ rfl
          have cA6 := qA 6 _ rfl
          clear qA zA
          obtain ⟨kF, qF, zF⟩ := id CF
          have cF0 := qF 0 _ rfl
          have cF1 := qF 1 _ rfl
          have cF2 := qF 2 _ rfl
          have cF3 := qF 3 _ rfl
          clear qF zF
          go_wp2_with fail
          clear kA cA0 cA1 cA2 cA3 cA4 cA5 cA6
          clear kF cF0 cF1 cF2 cF3
          have CS := Ce.made (w := w2) (l := [.int .u64 18, .int .u64 2, .int .u64 12, .int .u64 6, .int .u64 0, .int .u64 12]) (T := 50) (g := w2.heap.size) rfl
          replace B := B.alloc (Nat.le_of_lt CA.1) (.cells #[.int .u64 18, .int .u64 2, .int .u64 12, .int .u64 6, .int .u64 0, .int .u64 12] 50)
          replace CA := CA.alloc (.cells #[.int .u64 18, .int .u64 2, .int .u64 12, .int .u64 6, .int .u64 0, .int .u64 12] 50)
          replace CF := CF.alloc (.cells #[.int .u64 18, .int .u64 2, .int .u64 12, .int .u64 6, .int .u64 0, .int .u64 12] 50)
          generalize w2.alloc (.cells #[.int .u64 18, .int .u64 2, .int .u64 12, .int .u64 6, .int .u64 0, .int .u64 12] 50) = w3 at *
          generalize w2.heap.size = S at *
          obtain ⟨kA, qA, zA⟩ := id CA
          have cA0 := qA 0 _ rfl
          have cA1 := qA 1 _ rfl
          have cA2 := qA 2 _ rfl
          have cA3 := qA 3 _ rfl
          have cA4 := qA 4 _ rfl
          have cA5 := qA 5 _ rfl
          have cA6 := qA 6 _ rfl
          clear qA zA
          obtain ⟨kF, qF, zF⟩ := id CF
          have cF0 := qF 0 _ rfl
          have cF1 := qF 1 _ rfl
          have cF2 := qF 2 _ rfl
          have cF3 := qF 3 _ rfl
          clear qF zF
          obtain ⟨kS, qS, zS⟩ := id CS
          have cS0 := qS 0 _ rfl
          have cS1 := qS 1 _ rfl
          have cS2 := qS 2 _ rfl
          have cS3 := qS 3 _ rfl
          have cS4 := qS 4 _ rfl
          have cS5 := qS 5 _ rfl
          clear qS zS
          go_wp2_with fail
          refine (BY.out _).mono ?_
          rintro e' w4 ⟨rfl, hb⟩
          clear kA cA0 cA1 cA2 cA3 cA4 cA5 cA6
          clear kF cF0 cF1 cF2 cF3
          clear kS cS0 cS1 cS2 cS3 cS4 cS5
          replace B := B.trans (hb.mono (Nat.le_of_lt CA.1))
          replace CA := CA.below hb
          replace CF := CF.below hb
          replace CS := CS.below hb
          clear hb
          obtain ⟨kA, qA, zA⟩ := id CA
          have cA0 := qA 0 _ rfl
          have cA1 := qA 1 _ rfl
          have cA2 := qA 2 _ rfl
          have cA3 := qA 3 _ rfl
          have cA4 := qA 4 _ rfl
          have cA5 := qA 5 _ rfl
          have cA6 := qA 6 _ rfl
          clear qA zA
          obtain ⟨kF, qF, zF⟩ := id CF
          have cF0 := qF 0 _ rfl
          have cF1 := qF 1 _ rfl
          have cF2 := qF 2 _ rfl
          have cF3 := qF 3 _ rfl
          clear qF zF
          obtain ⟨kS, qS, zS⟩ := id CS
          have cS0 := qS 0 _ rfl
          have cS1 := qS 1 _ rfl
          have cS2 := qS 2 _ rfl
          have cS3 := qS 3 _ rfl
          have cS4 := qS 4 _ rfl
          have cS5 := qS 5 _ rfl
          clear qS zS
          go_wp2_with fail
          refine (AP.out _).mono ?_
          rintro e' w5 ⟨rfl, hb⟩
          replace B := B.trans (hb.mono (Nat.le_of_lt CA.1))
          replace CA := CA.below hb
          replace CF := CF.below hb
          replace CS := CS.below hb
          clear hb
          clear kA cA0 cA1 cA2 cA3 cA4 cA5 cA6
          clear kF cF0 cF1 cF2 cF3
          clear kS cS0 cS1 cS2 cS3 cS4 cS5
          obtain ⟨kA, qA, zA⟩ := id CA
          have cA0 := qA 0 _ rfl
          have cA1 := qA 1 _ rfl
          have cA2 := qA 2 _ rfl
          have cA3 := qA 3 _ rfl
          have cA4 := qA 4 _ rfl
          have cA5 := qA 5 _ rfl
          have cA6 := qA 6 _ rfl
          clear qA zA
          obtain ⟨kF, qF, zF⟩ := id CF
          have cF0 := qF 0 _ rfl
          have cF1 := qF 1 _ rfl
          have cF2 := qF 2 _ rfl
          have cF3 := qF 3 _ rfl
          clear qF zF
          obtain ⟨kS, qS, zS⟩ := id CS
          have cS0 := qS 0 _ rfl
          have cS1 := qS 1 _ rfl
          have cS2 := qS 2 _ rfl
          have cS3 := qS 3 _ rfl
          have cS4 := qS 4 _ rfl
          have cS5 := qS 5 _ rfl
          clear qS zS
          go_wp2_with fail
          clear kA cA0 cA1 cA2 cA3 cA4 cA5 cA6
          clear kF cF0 cF1 cF2 cF3
          clear kS cS0 cS1 cS2 cS3 cS4 cS5
          have CG := Ce.made (w := w5) (l := [.int .i64 e, .int .i64 m, .int .i64 tv]) (T := 54) (g := w5.heap.size) rfl
          replace B := B.alloc (Nat.le_of_lt CA.1) (.cells #[.int .i64 e, .int .i64 m, .int .i64 tv] 54)
          replace CA := CA.alloc (.cells #[.int .i64 e, .int .i64 m, .int .i64 tv] 54)
          replace CF := CF.alloc (.cells #[.int .i64 e, .int .i64 m, .int .i64 tv] 54)
          replace CS := CS.alloc (.cells #[.int .i64 e, .int .i64 m, .int .i64 tv] 54)
          generalize w5.alloc (.cells #[.int .i64 e, .int .i64 m, .int .i64 tv] 54) = w6 at *
          generalize w5.heap.size = G at *
          obtain ⟨kA, qA, zA⟩ := id CA
          have cA0 := qA 0 _ rfl
          have cA1 := qA 1 _ rfl
          have cA2 := qA 2 _ rfl
          have cA3 := qA 3 _ rfl
          have cA4 := qA 4 _ rfl
          have cA5 := qA 5 _ rfl
          have cA6 := qA 6 _ rfl
          clear qA zA
          obtain ⟨kF, qF, zF⟩ := id CF
          have cF0 := qF 0 _ rfl
          have cF1 := qF 1 _ rfl
          have cF2 := qF 2 _ rfl
          have cF3 := qF 3 _ rfl
          clear qF zF
          obtain ⟨kS, qS, zS⟩ := id CS
          have cS0 := qS 0 _ rfl
          have cS1 := qS 1 _ rfl
          have cS2 := qS 2 _ rfl
          have cS3 := qS 3 _ rfl
          have cS4 := qS 4 _ rfl
          have cS5 := qS 5 _ rfl
          clear qS zS
          obtain ⟨kG, qG, zG⟩ := id CG
          have cG0 := qG 0 _ rfl
          have cG1 := qG 1 _ rfl
          have cG2 := qG 2 _ rfl
          clear qG zG
          go_wp2_with fail
          refine (KY.out _).mono ?_
          rintro e' w7 ⟨rfl, hb⟩
          replace B := B.trans (hb.mono (Nat.le_of_lt CA.1))
          replace CA := CA.below hb
          replace CF := CF.below hb
          replace CS := CS.below hb
          replace CG := CG.below hb
          clear hb
          clear kA cA0 cA1 cA2 cA3 cA4 cA5 cA6
          clear kF cF0 cF1 cF2 cF3
          clear kS cS0 cS1 cS2 cS3 cS4 cS5
          clear kG cG0 cG1 cG2
          obtain ⟨kA, qA, zA⟩ := id CA
          have cA0 := qA 0 _ rfl
          have cA1 := qA 1 _ rfl
          have cA2 := qA 2 _ rfl
          have cA3 := qA 3 _ rfl
          have cA4 := qA 4 _ rfl
          have cA5 := qA 5 _ rfl
          have cA6 := qA 6 _ rfl
          clear qA zA
          obtain ⟨kF, qF, zF⟩ := id CF
          have cF0 := qF 0 _ rfl
          have cF1 := qF 1 _ rfl
          have cF2 := qF 2 _ rfl
          have cF3 := qF 3 _ rfl
          clear qF zF
          obtain ⟨kS, qS, zS⟩ := id CS
          have cS0 := qS 0 _ rfl
          have cS1 := qS 1 _ rfl
          have cS2 := qS 2 _ rfl
          have cS3 := qS 3 _ rfl
          have cS4 := qS 4 _ rfl
          have cS5 := qS 5 _ rfl
          clear qS zS
          obtain ⟨kG, qG, zG⟩ := id CG
          have cG0 := qG 0 _ rfl
          have cG1 := qG 1 _ rfl
          have cG2 := qG 2 _ rfl
          clear qG zG
          go_wp2_with fail
          clear kA cA0 cA1 cA2 cA3 cA4 cA5 cA6
          clear kF cF0 cF1 cF2 cF3
          clear kS cS0 cS1 cS2 cS3 cS4 cS5
          clear kG cG0 cG1 cG2
          have CD := Ce.made (w := w7) (l := [.int .u64 k.a, .int .u64 k.b]) (T := 25) (g := w7.heap.size) rfl
          replace B := B.alloc (Nat.le_of_lt CA.1) (.cells #[.int .u64 k.a, .int .u64 k.b] 25)
          replace CA := CA.alloc (.cells #[.int .u64 k.a, .int .u64 k.b] 25)
          replace CF := CF.alloc (.cells #[.int .u64 k.a, .int .u64 k.b] 25)
          replace CS := CS.alloc (.cells #[.int .u64 k.a, .int .u64 k.b] 25)
          replace CG := CG.alloc (.cells #[.int .u64 k.a, .int .u64 k.b] 25)
          generalize w7.alloc (.cells #[.int .u64 k.a, .int .u64 k.b] 25) = w8 at *
          generalize w7.heap.size = D at *
          obtain ⟨kA, qA, zA⟩ := id CA
          have cA0 := qA 0 _ rfl
          have cA1 := qA 1 _ rfl
          have cA2 := qA 2 _ rfl
          have cA3 := qA 3 _ rfl
          have cA4 := qA 4 _ rfl
          have cA5 := qA 5 _ rfl
          have cA6 := qA 6 _ rfl
          clear qA zA
          obtain ⟨kF, qF, zF⟩ := id CF
          have cF0 := qF 0 _ rfl
          have cF1 := qF 1 _ rfl
          have cF2 := qF 2 _ rfl
          have cF3 := qF 3 _ rfl
          clear qF zF
          obtain ⟨kS, qS, zS⟩ := id CS
          have cS0 := qS 0 _ rfl
          have cS1 := qS 1 _ rfl
          have cS2 := qS 2 _ rfl
          have cS3 := qS 3 _ rfl
          have cS4 := qS 4 _ rfl
          have cS5 := qS 5 _ rfl
          clear qS zS
          obtain ⟨kG, qG, zG⟩ := id CG
          have cG0 := qG 0 _ rfl
          have cG1 := qG 1 _ rfl
          have cG2 := qG 2 _ rfl
          clear qG zG
          obtain ⟨kD, qD, zD⟩ := id CD
          have cD0 := qD 0 _ rfl
          have cD1 := qD 1 _ rfl
          clear qD zD
          go_region_held3 (fun w' => w'.cell? ⟨F, 0, none⟩ = some (.int .i64 f.a) ∧ w'.cell? ⟨F, 1, none⟩ = some (.int .i64 f.p) ∧ w'.cell? ⟨F, 2, none⟩ = some (.int .i64 f.ta) ∧ w'.cell? ⟨F, 3, none⟩ = some (.int .i64 f.tp) ∧ w'.cell? ⟨S, 0, none⟩ = some (.int .u64 18) ∧ w'.cell? ⟨S, 1, none⟩ = some (.int .u64 2) ∧ w'.cell? ⟨S, 2, none⟩ = some (.int .u64 12) ∧ w'.cell? ⟨S, 3, none⟩ = some (.int .u64 6) ∧ w'.cell? ⟨S, 4, none⟩ = some (.int .u64 0) ∧ w'.cell? ⟨S, 5, none⟩ = some (.int .u64 12) ∧ w'.cell? ⟨G, 0, none⟩ = some (.int .i64 e) ∧ w'.cell? ⟨G, 1, none⟩ = some (.int .i64 m) ∧ w'.cell? ⟨G, 2, none⟩ = some (.int .i64 tv) ∧ w'.cell? ⟨D, 0, none⟩ = some (.int .u64 k.a) ∧ w'.cell? ⟨D, 1, none⟩ = some (.int .u64 k.b) ∧ F < w'.heap.size ∧ S < w'.heap.size ∧ G < w'.heap.size ∧ D < w'.heap.size ∧ A < w'.heap.size ∧ Below A w w')
            (first
              | (go_split_ands; refine ⟨?_, ?_, ?_, ?_, ?_, ?_, ?_, ?_, ?_, ?_, ?_, ?_, ?_, ?_, ?_, ?_, ?_, ?_, ?_, ?_, ?_⟩; exact (hb5.cell (p := ⟨F, 0, none⟩) (by assumption)).trans (by assumption); exact (hb5.cell (p := ⟨F, 1, none⟩) (by assumption)).trans (by assumption); exact (hb5.cell (p := ⟨F, 2, none⟩) (by assumption)).trans (by assumption); exact (hb5.cell (p := ⟨F, 3, none⟩) (by assumption)).trans (by assumption); exact (hb5.cell (p := ⟨S, 0, none⟩) (by assumption)).trans (by assumption); exact (hb5.cell (p := ⟨S, 1, none⟩) (by assumption)).trans (by assumption); exact (hb5.cell (p := ⟨S, 2, none⟩) (by assumption)).trans (by assumption); exact (hb5.cell (p := ⟨S, 3, none⟩) (by assumption)).trans (by assumption); exact (hb5.cell (p := ⟨S, 4, none⟩) (by assumption)).trans (by assumption); exact (hb5.cell (p := ⟨S, 5, none⟩) (by assumption)).trans (by assumption); exact (hb5.cell (p := ⟨G, 0, none⟩) (by assumption)).trans (by assumption); exact (hb5.cell (p := ⟨G, 1, none⟩) (by assumption)).trans (by assumption); exact (hb5.cell (p := ⟨G, 2, none⟩) (by assumption)).trans (by assumption); exact (hb5.cell (p := ⟨D, 0, none⟩) (by assumption)).trans (by assumption); exact (hb5.cell (p := ⟨D, 1, none⟩) (by assumption)).trans (by assumption); exact Nat.lt_of_lt_of_le (by assumption) hb5.size; exact Nat.lt_of_lt_of_le (by assumption) hb5.size; exact Nat.lt_of_lt_of_le (by assumption) hb5.size; exact Nat.lt_of_lt_of_le (by assumption) hb5.size; exact Nat.lt_of_lt_of_le (by assumption) hb5.size; exact Below.trans (by assumption) (hb5.mono (by first | exact Nat.le_of_lt (by assumption) | exact Below.size (by assumption))))
              | (refine ⟨?_, ?_, ?_, ?_, ?_, ?_, ?_, ?_, ?_, ?_, ?_, ?_, ?_, ?_, ?_, ?_, ?_, ?_, ?_, ?_, ?_⟩; assumption; assumption; assumption; assumption; assumption; assumption; assumption; assumption; assumption; assumption; assumption; assumption; assumption; assumption; assumption; assumption; assumption; assumption; assumption; assumption; exact Below.drew (by assumption))
              | (go_split_ands; refine ⟨?_, ?_, ?_, ?_, ?_, ?_, ?_, ?_, ?_, ?_, ?_, ?_, ?_, ?_, ?_, ?_, ?_, ?_, ?_, ?_, ?_⟩; exact (World.cell?_alloc_lt _ _ ⟨F, 0, none⟩ (by assumption)).trans (by assumption); exact (World.cell?_alloc_lt _ _ ⟨F, 1, none⟩ (by assumption)).trans (by assumption); exact (World.cell?_alloc_lt _ _ ⟨F, 2, none⟩ (by assumption)).trans (by assumption); exact (World.cell?_alloc_lt _ _ ⟨F, 3, none⟩ (by assumption)).trans (by assumption); exact (World.cell?_alloc_lt _ _ ⟨S, 0, none⟩ (by assumption)).trans (by assumption); exact (World.cell?_alloc_lt _ _ ⟨S, 1, none⟩ (by assumption)).trans (by assumption); exact (World.cell?_alloc_lt _ _ ⟨S, 2, none⟩ (by assumption)).trans (by assumption); exact (World.cell?_alloc_lt _ _ ⟨S, 3, none⟩ (by assumption)).trans (by assumption); exact (World.cell?_alloc_lt _ _ ⟨S, 4, none⟩ (by assumption)).trans (by assumption); exact (World.cell?_alloc_lt _ _ ⟨S, 5, none⟩ (by assumption)).trans (by assumption); exact (World.cell?_alloc_lt _ _ ⟨G, 0, none⟩ (by assumption)).trans (by assumption); exact (World.cell?_alloc_lt _ _ ⟨G, 1, none⟩ (by assumption)).trans (by assumption); exact (World.cell?_alloc_lt _ _ ⟨G, 2, none⟩ (by assumption)).trans (by assumption); exact (World.cell?_alloc_lt _ _ ⟨D, 0, none⟩ (by assumption)).trans (by assumption); exact (World.cell?_alloc_lt _ _ ⟨D, 1, none⟩ (by assumption)).trans (by assumption); (simp; omega); (simp; omega); (simp; omega); (simp; omega); (simp; omega); exact Below.alloc (by assumption) (by first | exact Nat.le_of_lt (by assumption) | exact Below.size (by assumption)) _)
              | (go_split_ands; refine ⟨?_, ?_, ?_, ?_, ?_, ?_, ?_, ?_, ?_, ?_, ?_, ?_, ?_, ?_, ?_, ?_, ?_, ?_, ?_, ?_, ?_⟩; exact (World.cell?_alloc_lt _ _ ⟨F, 0, none⟩ (by assumption)).trans (by assumption); exact (World.cell?_alloc_lt _ _ ⟨F, 1, none⟩ (by assumption)).trans (by assumption); exact (World.cell?_alloc_lt _ _ ⟨F, 2, none⟩ (by assumption)).trans (by assumption); exact (World.cell?_alloc_lt _ _ ⟨F, 3, none⟩ (by assumption)).trans (by assumption); exact (World.cell?_alloc_lt _ _ ⟨S, 0, none⟩ (by assumption)).trans (by assumption); exact (World.cell?_alloc_lt _ _ ⟨S, 1, none⟩ (by assumption)).trans (by assumption); exact (World.cell?_alloc_lt _ _ ⟨S, 2, none⟩ (by assumption)).trans (by assumption); exact (World.cell?_alloc_lt _ _ ⟨S, 3, none⟩ (by assumption)).trans (by assumption); exact (World.cell?_alloc_lt _ _ ⟨S, 4, none⟩ (by assumption)).trans (by assumption); exact (World.cell?_alloc_lt _ _ ⟨S, 5, none⟩ (by assumption)).trans (by assumption); exact (World.cell?_alloc_lt _ _ ⟨G, 0, none⟩ (by assumption)).trans (by assumption); exact (World.cell?_alloc_lt _ _ ⟨G, 1, none⟩ (by assumption)).trans (by assumption); exact (World.cell?_alloc_lt _ _ ⟨G, 2, none⟩ (by assumption)).trans (by assumption); exact (World.cell?_alloc_lt _ _ ⟨D, 0, none⟩ (by assumption)).trans (by assumption); exact (World.cell?_alloc_lt _ _ ⟨D, 1, none⟩ (by assumption)).trans (by assumption); exact Nat.lt_of_lt_of_le (by assumption) (Below.drew (Below.alloc (Below.refl _ _) (Nat.le_refl _) _)).size; exact Nat.lt_of_lt_of_le (by assumption) (Below.drew (Below.alloc (Below.refl _ _) (Nat.le_refl _) _)).size; exact Nat.lt_of_lt_of_le (by assumption) (Below.drew (Below.alloc (Below.refl _ _) (Nat.le_refl _) _)).size; exact Nat.lt_of_lt_of_le (by assumption) (Below.drew (Below.alloc (Below.refl _ _) (Nat.le_refl _) _)).size; exact Nat.lt_of_lt_of_le (by assumption) (Below.drew (Below.alloc (Below.refl _ _) (Nat.le_refl _) _)).size; exact Below.drew (Below.alloc (by assumption) (Below.size (by assumption)) _))
              | (go_split_ands; refine ⟨?_, ?_, ?_, ?_, ?_, ?_, ?_, ?_, ?_, ?_, ?_, ?_, ?_, ?_, ?_, ?_, ?_, ?_, ?_, ?_, ?_⟩; assumption; assumption; assumption; assumption; assumption; assumption; assumption; assumption; assumption; assumption; assumption; assumption; assumption; assumption; assumption; assumption; assumption; assumption; assumption; assumption; assumption)
              | go_keep)
            ((first
              | (go_at_call 26
                 go_split_ands
                 with_reducible refine (MK2.out _).mono ?_
                 rintro e w5 ⟨rfl, hb5⟩)
              | (go_at_call 25
                 go_split_ands
                 with_reducible refine (cutI 12 6 _ _ ?_).mono ?_
                 · decide
                 rintro e w5 ⟨rfl, hb5⟩)))
          go_split_ands
          go_wp2_with fail
          go_region_held3 (fun w' => w'.cell? ⟨F, 0, none⟩ = some (.int .i64 f.a) ∧ w'.cell? ⟨F, 1, none⟩ = some (.int .i64 f.p) ∧ w'.cell? ⟨F, 2, none⟩ = some (.int .i64 f.ta) ∧ w'.cell? ⟨F, 3, none⟩ = some (.int .i64 f.tp) ∧ w'.cell? ⟨S, 0, none⟩ = some (.int .u64 18) ∧ w'.cell? ⟨S, 1, none⟩ = some (.int .u64 2) ∧ w'.cell? ⟨S, 2, none⟩ = some (.int .u64 12) ∧ w'.cell? ⟨S, 3, none⟩ = some (.int .u64 6) ∧ w'.cell? ⟨S, 4, none⟩ = some (.int .u64 0) ∧ w'.cell? ⟨S, 5, none⟩ = some (.int .u64 12) ∧ w'.cell? ⟨G, 0, none⟩ = some (.int .i64 e) ∧ w'.cell? ⟨G, 1, none⟩ = some (.int .i64 m) ∧ w'.cell? ⟨G, 2, none⟩ = some (.int .i64 tv) ∧ w'.cell? ⟨D, 0, none⟩ = some (.int .u64 k.a) ∧ w'.cell? ⟨D, 1, none⟩ = some (.int .u64 k.b) ∧ F < w'.heap.size ∧ S < w'.heap.size ∧ G < w'.heap.size ∧ D < w'.heap.size ∧ A < w'.heap.size ∧ Below A w w')
            (first
              | (go_split_ands; refine ⟨?_, ?_, ?_, ?_, ?_, ?_, ?_, ?_, ?_, ?_, ?_, ?_, ?_, ?_, ?_, ?_, ?_, ?_, ?_, ?_, ?_⟩; exact (hb5.cell (p := ⟨F, 0, none⟩) (by assumption)).trans (by assumption); exact (hb5.cell (p := ⟨F, 1, none⟩) (by assumption)).trans (by assumption); exact (hb5.cell (p := ⟨F, 2, none⟩) (by assumption)).trans (by assumption); exact (hb5.cell (p := ⟨F, 3, none⟩) (by assumption)).trans (by assumption); exact (hb5.cell (p := ⟨S, 0, none⟩) (by assumption)).trans (by assumption); exact (hb5.cell (p := ⟨S, 1, none⟩) (by assumption)).trans (by assumption); exact (hb5.cell (p := ⟨S, 2, none⟩) (by assumption)).trans (by assumption); exact (hb5.cell (p := ⟨S, 3, none⟩) (by assumption)).trans (by assumption); exact (hb5.cell (p := ⟨S, 4, none⟩) (by assumption)).trans (by assumption); exact (hb5.cell (p := ⟨S, 5, none⟩) (by assumption)).trans (by assumption); exact (hb5.cell (p := ⟨G, 0, none⟩) (by assumption)).trans (by assumption); exact (hb5.cell (p := ⟨G, 1, none⟩) (by assumption)).trans (by assumption); exact (hb5.cell (p := ⟨G, 2, none⟩) (by assumption)).trans (by assumption); exact (hb5.cell (p := ⟨D, 0, none⟩) (by assumption)).trans (by assumption); exact (hb5.cell (p := ⟨D, 1, none⟩) (by assumption)).trans (by assumption); exact Nat.lt_of_lt_of_le (by assumption) hb5.size; exact Nat.lt_of_lt_of_le (by assumption) hb5.size; exact Nat.lt_of_lt_of_le (by assumption) hb5.size; exact Nat.lt_of_lt_of_le (by assumption) hb5.size; exact Nat.lt_of_lt_of_le (by assumption) hb5.size; exact Below.trans (by assumption) (hb5.mono (by first | exact Nat.le_of_lt (by assumption) | exact Below.size (by assumption))))
              | (refine ⟨?_, ?_, ?_, ?_, ?_, ?_, ?_, ?_, ?_, ?_, ?_, ?_, ?_, ?_, ?_, ?_, ?_, ?_, ?_, ?_, ?_⟩; assumption; assumption; assumption; assumption; assumption; assumption; assumption; assumption; assumption; assumption; assumption; assumption; assumption; assumption; assumption; assumption; assumption; assumption; assumption; assumption; exact Below.drew (by assumption))
              | (go_split_ands; refine ⟨?_, ?_, ?_, ?_, ?_, ?_, ?_, ?_, ?_, ?_, ?_, ?_, ?_, ?_, ?_, ?_, ?_, ?_, ?_, ?_, ?_⟩; exact (World.cell?_alloc_lt _ _ ⟨F, 0, none⟩ (by assumption)).trans (by assumption); exact (World.cell?_alloc_lt _ _ ⟨F, 1, none⟩ (by assumption)).trans (by assumption); exact (World.cell?_alloc_lt _ _ ⟨F, 2, none⟩ (by assumption)).trans (by assumption); exact (World.cell?_alloc_lt _ _ ⟨F, 3, none⟩ (by assumption)).trans (by assumption); exact (World.cell?_alloc_lt _ _ ⟨S, 0, none⟩ (by assumption)).trans (by assumption); exact (World.cell?_alloc_lt _ _ ⟨S, 1, none⟩ (by assumption)).trans (by assumption); exact (World.cell?_alloc_lt _ _ ⟨S, 2, none⟩ (by assumption)).trans (by assumption); exact (World.cell?_alloc_lt _ _ ⟨S, 3, none⟩ (by assumption)).trans (by assumption); exact (World.cell?_alloc_lt _ _ ⟨S, 4, none⟩ (by assumption)).trans (by assumption); exact (World.cell?_alloc_lt _ _ ⟨S, 5, none⟩ (by assumption)).trans (by assumption); exact (World.cell?_alloc_lt _ _ ⟨G, 0, none⟩ (by assumption)).trans (by assumption); exact (World.cell?_alloc_lt _ _ ⟨G, 1, none⟩ (by assumption)).trans (by assumption); exact (World.cell?_alloc_lt _ _ ⟨G, 2, none⟩ (by assumption)).trans (by assumption); exact (World.cell?_alloc_lt _ _ ⟨D, 0, none⟩ (by assumption)).trans (by assumption); exact (World.cell?_alloc_lt _ _ ⟨D, 1, none⟩ (by assumption)).trans (by assumption); (simp; omega); (simp; omega); (simp; omega); (simp; omega); (simp; omega); exact Below.alloc (by assumption) (by first | exact Nat.le_of_lt (by assumption) | exact Below.size (by assumption)) _)
              | (go_split_ands; refine ⟨?_, ?_, ?_, ?_, ?_, ?_, ?_, ?_, ?_, ?_, ?_, ?_, ?_, ?_, ?_, ?_, ?_, ?_, ?_, ?_, ?_⟩; exact (World.cell?_alloc_lt _ _ ⟨F, 0, none⟩ (by assumption)).trans (by assumption); exact (World.cell?_alloc_lt _ _ ⟨F, 1, none⟩ (by assumption)).trans (by assumption); exact (World.cell?_alloc_lt _ _ ⟨F, 2, none⟩ (by assumption)).trans (by assumption); exact (World.cell?_alloc_lt _ _ ⟨F, 3, none⟩ (by assumption)).trans (by assumption); exact (World.cell?_alloc_lt _ _ ⟨S, 0, none⟩ (by assumption)).trans (by assumption); exact (World.cell?_alloc_lt _ _ ⟨S, 1, none⟩ (by assumption)).trans (by assumption); exact (World.cell?_alloc_lt _ _ ⟨S, 2, none⟩ (by assumption)).trans (by assumption); exact (World.cell?_alloc_lt _ _ ⟨S, 3, none⟩ (by assumption)).trans (by assumption); exact (World.cell?_alloc_lt _ _ ⟨S, 4, none⟩ (by assumption)).trans (by assumption); exact (World.cell?_alloc_lt _ _ ⟨S, 5, none⟩ (by assumption)).trans (by assumption); exact (World.cell?_alloc_lt _ _ ⟨G, 0, none⟩ (by assumption)).trans (by assumption); exact (World.cell?_alloc_lt _ _ ⟨G, 1, none⟩ (by assumption)).trans (by assumption); exact (World.cell?_alloc_lt _ _ ⟨G, 2, none⟩ (by assumption)).trans (by assumption); exact (World.cell?_alloc_lt _ _ ⟨D, 0, none⟩ (by assumption)).trans (by assumption); exact (World.cell?_alloc_lt _ _ ⟨D, 1, none⟩ (by assumption)).trans (by assumption); exact Nat.lt_of_lt_of_le (by assumption) (Below.drew (Below.alloc (Below.refl _ _) (Nat.le_refl _) _)).size; exact Nat.lt_of_lt_of_le (by assumption) (Below.drew (Below.alloc (Below.refl _ _) (Nat.le_refl _) _)).size; exact Nat.lt_of_lt_of_le (by assumption) (Below.drew (Below.alloc (Below.refl _ _) (Nat.le_refl _) _)).size; exact Nat.lt_of_lt_of_le (by assumption) (Below.drew (Below.alloc (Below.refl _ _) (Nat.le_refl _) _)).size; exact Nat.lt_of_lt_of_le (by assumption) (Below.drew (Below.alloc (Below.refl _ _) (Nat.le_refl _) _)).size; exact Below.drew (Below.alloc (by assumption) (Below.size (by assumption)) _))
              | (go_split_ands; refine ⟨?_, ?_, ?_, ?_, ?_, ?_, ?_, ?_, ?_, ?_, ?_, ?_, ?_, ?_, ?_, ?_, ?_, ?_, ?_, ?_, ?_⟩; assumption; assumption; assumption; assumption; assumption; assumption; assumption; assumption; assumption; assumption; assumption; assumption; assumption; assumption; assumption; assumption; assumption; assumption; assumption; assumption; assumption)
              | go_keep)
            ((first
              | (go_at_call 20
                 go_split_ands
                 with_reducible refine (MD2.out _).mono ?_
                 rintro e w5 ⟨rfl, hb5⟩)))
          go_split_ands
          go_wp2_with fail
          refine bodyPost_ret (by simp [results, Try.results9, go_sem]) rfl ⟨rfl, ?_⟩
          first | assumption | (rw [hK]; assumption)
        · rw [if_neg (fun h => htt (HI2.1 h))] at ho
          subst ho
          have hb1 : (tv == t) = false := by simp [htt]
          clear HI2
          have KY := hid KE
          clear KE
          go_enter Try.func9, Try.ntmps9
          go_wp2_with fail
          have CA := Ce.made (w := w) (l := [.int .i64 r.e, .int .u64 r.p.a, .int .u64 r.p.b, .int .u64 r.c.a, .int .u64 r.c.b, .int .u64 r.n.a, .int .u64 r.n.b]) (T := 27) (g := w.heap.size) rfl
          replace CA := CA.alloc (.cells #[.int .i64 f.a, .int .i64 f.p, .int .i64 f.ta, .int .i64 f.tp] 30)
          have CF := Ce.made (w := (w.alloc (.cells #[.int .i64 r.e, .int .u64 r.p.a, .int .u64 r.p.b, .int .u64 r.c.a, .int .u64 r.c.b, .int .u64 r.n.a, .int .u64 r.n.b] 27))) (l := [.int .i64 f.a, .int .i64 f.p, .int .i64 f.ta, .int .i64 f.tp]) (T := 30) (g := w.heap.size + 1) (by simp)
          have B : Below w.heap.size w ((w.alloc (.cells #[.int .i64 r.e, .int .u64 r.p.a, .int .u64 r.p.b, .int .u64 r.c.a, .int .u64 r.c.b, .int .u64 r.n.a, .int .u64 r.n.b] 27)).alloc (.cells #[.int .i64 f.a, .int .i64 f.p, .int .i64 f.ta, .int .i64 f.tp] 30)) := (((Below.refl w.heap.size w).alloc (by first | exact Nat.le_refl _ | (simp; done) | (simp; omega)) (.cells #[.int .i64 r.e, .int .u64 r.p.a, .int .u64 r.p.b, .int .u64 r.c.a, .int .u64 r.c.b, .int .u64 r.n.a, .int .u64 r.n.b] 27)).alloc (by first | exact Nat.le_refl _ | (simp; done) | (simp; omega)) (.cells #[.int .i64 f.a, .int .i64 f.p, .int .i64 f.ta, .int .i64 f.tp] 30))
          generalize (w.alloc (.cells #[.int .i64 r.e, .int .u64 r.p.a, .int .u64 r.p.b, .int .u64 r.c.a, .int .u64 r.c.b, .int .u64 r.n.a, .int .u64 r.n.b] 27)).alloc (.cells #[.int .i64 f.a, .int .i64 f.p, .int .i64 f.ta, .int .i64 f.tp] 30) = w1 at *
          generalize w.heap.size + 1 = F at *
          generalize hK : w.heap.size = A at *
          refine (shapeOf_any 1 4096 _ (by exact .inl ⟨rfl, rfl⟩)).mono ?_
          rintro e' w2 ⟨rfl, hb⟩
          replace B := B.trans (hb.mono (Nat.le_of_lt CA.1))
          replace CA := CA.below hb
          replace CF := CF.below hb
          clear hb
          rw [shV1]
          obtain ⟨kA, qA, zA⟩ := id CA
          have cA0 := qA 0 _ rfl
          have cA1 := qA 1 _ rfl
          have cA2 := qA 2 _ rfl
          have cA3 := qA 3 _ rfl
          have cA4 := qA 4 _ rfl
          have cA5 := qA 5 _ rfl
          have cA6 := qA 6 _ rfl
          clear qA zA
          obtain ⟨kF, qF, zF⟩ := id CF
          have cF0 := qF 0 _ rfl
          have cF1 := qF 1 _ rfl
          have cF2 := qF 2 _ rfl
          have cF3 := qF 3 _ rfl
          clear qF zF
          go_wp2_with fail
          clear kA cA0 cA1 cA2 cA3 cA4 cA5 cA6
          clear kF cF0 cF1 cF2 cF3
          have CS := Ce.made (w := w2) (l := [.int .u64 18, .int .u64 2, .int .u64 12, .int .u64 6, .int .u64 0, .int .u64 12]) (T := 50) (g := w2.heap.size) rfl
          replace B := B.alloc (Nat.le_of_lt CA.1) (.cells #[.int .u64 18, .int .u64 2, .int .u64 12, .int .u64 6, .int .u64 0, .int .u64 12] 50)
          replace CA := CA.alloc (.cells #[.int .u64 18, .int .u64 2, .int .u64 12, .int .u64 6, .int .u64 0, .int .u64 12] 50)
          replace CF := CF.alloc (.cells #[.int .u64 18, .int .u64 2, .int .u64 12, .int .u64 6, .int .u64 0, .int .u64 12] 50)
          generalize w2.alloc (.cells #[.int .u64 18, .int .u64 2, .int .u64 12, .int .u64 6, .int .u64 0, .int .u64 12] 50) = w3 at *
          generalize w2.heap.size = S at *
          obtain ⟨kA, qA, zA⟩ := id CA
          have cA0 := qA 0 _ rfl
          have cA1 := qA 1 _ rfl
          have cA2 := qA 2 _ rfl
          have cA3 := qA 3 _ rfl
          have cA4 := qA 4 _ rfl
          have cA5 := qA 5 _ rfl
          have cA6 := qA 6 _ rfl
          clear qA zA
          obtain ⟨kF, qF, zF⟩ := id CF
          have cF0 := qF 0 _ rfl
          have cF1 := qF 1 _ rfl
          have cF2 := qF 2 _ rfl
          have cF3 := qF 3 _ rfl
          clear qF zF
          obtain ⟨kS, qS, zS⟩ := id CS
          have cS0 := qS 0 _ rfl
          have cS1 := qS 1 _ rfl
          have cS2 := qS 2 _ rfl
          have cS3 := qS 3 _ rfl
          have cS4 := qS 4 _ rfl
          have cS5 := qS 5 _ rfl
          clear qS zS
          go_wp2_with fail
          refine (BY.out _).mono ?_
          rintro e' w4 ⟨rfl, hb⟩
          clear kA cA0 cA1 cA2 cA3 cA4 cA5 cA6
          clear kF cF0 cF1 cF2 cF3
          clear kS cS0 cS1 cS2 cS3 cS4 cS5
          replace B := B.trans (hb.mono (Nat.le_of_lt CA.1))
          replace CA := CA.below hb
          replace CF := CF.below hb
          replace CS := CS.below hb
          clear hb
          obtain ⟨kA, qA, zA⟩ := id CA
          have cA0 := qA 0 _ rfl
          have cA1 := qA 1 _ rfl
          have cA2 := qA 2 _ rfl
          have cA3 := qA 3 _ rfl
          have cA4 := qA 4 _ rfl
          have cA5 := qA 5 _ rfl
          have cA6 := qA 6 _ rfl
          clear qA zA
          obtain ⟨kF, qF, zF⟩ := id CF
          have cF0 := qF 0 _ rfl
          have cF1 := qF 1 _ rfl
          have cF2 := qF 2 _ rfl
          have cF3 := qF 3 _ rfl
          clear qF zF
          obtain ⟨kS, qS, zS⟩ := id CS
          have cS0 := qS 0 _ rfl
          have cS1 := qS 1 _ rfl
          have cS2 := qS 2 _ rfl
          have cS3 := qS 3 _ rfl
          have cS4 := qS 4 _ rfl
          have cS5 := qS 5 _ rfl
          clear qS zS
          go_wp2_with fail
          refine (AP.out _).mono ?_
          rintro e' w5 ⟨rfl, hb⟩
          replace B := B.trans (hb.mono (Nat.le_of_lt CA.1))
          replace CA := CA.below hb
          replace CF := CF.below hb
          replace CS := CS.below hb
          clear hb
          clear kA cA0 cA1 cA2 cA3 cA4 cA5 cA6
          clear kF cF0 cF1 cF2 cF3
          clear kS cS0 cS1 cS2 cS3 cS4 cS5
          obtain ⟨kA, qA, zA⟩ := id CA
          have cA0 := qA 0 _ rfl
          have cA1 := qA 1 _ rfl
          have cA2 := qA 2 _ rfl
          have cA3 := qA 3 _ rfl
          have cA4 := qA 4 _ rfl
          have cA5 := qA 5 _ rfl
          have cA6 := qA 6 _ rfl
          clear qA zA
          obtain ⟨kF, qF, zF⟩ := id CF
          have cF0 := qF 0 _ rfl
          have cF1 := qF 1 _ rfl
          have cF2 := qF 2 _ rfl
          have cF3 := qF 3 _ rfl
          clear qF zF
          obtain ⟨kS, qS, zS⟩ := id CS
          have cS0 := qS 0 _ rfl
          have cS1 := qS 1 _ rfl
          have cS2 := qS 2 _ rfl
          have cS3 := qS 3 _ rfl
          have cS4 := qS 4 _ rfl
          have cS5 := qS 5 _ rfl
          clear qS zS
          go_wp2_with fail
          clear kA cA0 cA1 cA2 cA3 cA4 cA5 cA6
          clear kF cF0 cF1 cF2 cF3
          clear kS cS0 cS1 cS2 cS3 cS4 cS5
          have CG := Ce.made (w := w5) (l := [.int .i64 e, .int .i64 m, .int .i64 t]) (T := 54) (g := w5.heap.size) rfl
          replace B := B.alloc (Nat.le_of_lt CA.1) (.cells #[.int .i64 e, .int .i64 m, .int .i64 t] 54)
          replace CA := CA.alloc (.cells #[.int .i64 e, .int .i64 m, .int .i64 t] 54)
          replace CF := CF.alloc (.cells #[.int .i64 e, .int .i64 m, .int .i64 t] 54)
          replace CS := CS.alloc (.cells #[.int .i64 e, .int .i64 m, .int .i64 t] 54)
          generalize w5.alloc (.cells #[.int .i64 e, .int .i64 m, .int .i64 t] 54) = w6 at *
          generalize w5.heap.size = G at *
          obtain ⟨kA, qA, zA⟩ := id CA
          have cA0 := qA 0 _ rfl
          have cA1 := qA 1 _ rfl
          have cA2 := qA 2 _ rfl
          have cA3 := qA 3 _ rfl
          have cA4 := qA 4 _ rfl
          have cA5 := qA 5 _ rfl
          have cA6 := qA 6 _ rfl
          clear qA zA
          obtain ⟨kF, qF, zF⟩ := id CF
          have cF0 := qF 0 _ rfl
          have cF1 := qF 1 _ rfl
          have cF2 := qF 2 _ rfl
          have cF3 := qF 3 _ rfl
          clear qF zF
          obtain ⟨kS, qS, zS⟩ := id CS
          have cS0 := qS 0 _ rfl
          have cS1 := qS 1 _ rfl
          have cS2 := qS 2 _ rfl
          have cS3 := qS 3 _ rfl
          have cS4 := qS 4 _ rfl
          have cS5 := qS 5 _ rfl
          clear qS zS
          obtain ⟨kG, qG, zG⟩ := id CG
          have cG0 := qG 0 _ rfl
          have cG1 := qG 1 _ rfl
          have cG2 := qG 2 _ rfl
          clear qG zG
          go_wp2_with fail
          refine (KY.out _).mono ?_
          rintro e' w7 ⟨rfl, hb⟩
          replace B := B.trans (hb.mono (Nat.le_of_lt CA.1))
          replace CA := CA.below hb
          replace CF := CF.below hb
          replace CS := CS.below hb
          replace CG := CG.below hb
          clear hb
          clear kA cA0 cA1 cA2 cA3 cA4 cA5 cA6
          clear kF cF0 cF1 cF2 cF3
          clear kS cS0 cS1 cS2 cS3 cS4 cS5
          clear kG cG0 cG1 cG2
          obtain ⟨kA, qA, zA⟩ := id CA
          have cA0 := qA 0 _ rfl
          have cA1 := qA 1 _ rfl
          have cA2 := qA 2 _ rfl
          have cA3 := qA 3 _ rfl
          have cA4 := qA 4 _ rfl
          have cA5 := qA 5 _ rfl
          have cA6 := qA 6 _ rfl
          clear qA zA
          obtain ⟨kF, qF, zF⟩ := id CF
          have cF0 := qF 0 _ rfl
          have cF1 := qF 1 _ rfl
          have cF2 := qF 2 _ rfl
          have cF3 := qF 3 _ rfl
          clear qF zF
          obtain ⟨kS, qS, zS⟩ := id CS
          have cS0 := qS 0 _ rfl
          have cS1 := qS 1 _ rfl
          have cS2 := qS 2 _ rfl
          have cS3 := qS 3 _ rfl
          have cS4 := qS 4 _ rfl
          have cS5 := qS 5 _ rfl
          clear qS zS
          obtain ⟨kG, qG, zG⟩ := id CG
          have cG0 := qG 0 _ rfl
          have cG1 := qG 1 _ rfl
          have cG2 := qG 2 _ rfl
          clear qG zG
          go_wp2_with fail
          clear kA cA0 cA1 cA2 cA3 cA4 cA5 cA6
          clear kF cF0 cF1 cF2 cF3
          clear kS cS0 cS1 cS2 cS3 cS4 cS5
          clear kG cG0 cG1 cG2
          have CD := Ce.made (w := w7) (l := [.int .u64 k.a, .int .u64 k.b]) (T := 25) (g := w7.heap.size) rfl
          replace B := B.alloc (Nat.le_of_lt CA.1) (.cells #[.int .u64 k.a, .int .u64 k.b] 25)
          replace CA := CA.alloc (.cells #[.int .u64 k.a, .int .u64 k.b] 25)
          replace CF := CF.alloc (.cells #[.int .u64 k.a, .int .u64 k.b] 25)
          replace CS := CS.alloc (.cells #[.int .u64 k.a, .int .u64 k.b] 25)
          replace CG := CG.alloc (.cells #[.int .u64 k.a, .int .u64 k.b] 25)
          generalize w7.alloc (.cells #[.int .u64 k.a, .int .u64 k.b] 25) = w8 at *
          generalize w7.heap.size = D at *
          obtain ⟨kA, qA, zA⟩ := id CA
          have cA0 := qA 0 _ rfl
          have cA1 := qA 1 _ rfl
          have cA2 := qA 2 _ rfl
          have cA3 := qA 3 _ rfl
          have cA4 := qA 4 _ rfl
          have cA5 := qA 5 _ rfl
          have cA6 := qA 6 _ rfl
          clear qA zA
          obtain ⟨kF, qF, zF⟩ := id CF
          have cF0 := qF 0 _ rfl
          have cF1 := qF 1 _ rfl
          have cF2 := qF 2 _ rfl
          have cF3 := qF 3 _ rfl
          clear qF zF
          obtain ⟨kS, qS, zS⟩ := id CS
          have cS0 := qS 0 _ rfl
          have cS1 := qS 1 _ rfl
          have cS2 := qS 2 _ rfl
          have cS3 := qS 3 _ rfl
          have cS4 := qS 4 _ rfl
          have cS5 := qS 5 _ rfl
          clear qS zS
          obtain ⟨kG, qG, zG⟩ := id CG
          have cG0 := qG 0 _ rfl
          have cG1 := qG 1 _ rfl
          have cG2 := qG 2 _ rfl
          clear qG zG
          obtain ⟨kD, qD, zD⟩ := id CD
          have cD0 := qD 0 _ rfl
          have cD1 := qD 1 _ rfl
          clear qD zD
          go_region_held3 (fun w' => w'.cell? ⟨F, 0, none⟩ = some (.int .i64 f.a) ∧ w'.cell? ⟨F, 1, none⟩ = some (.int .i64 f.p) ∧ w'.cell? ⟨F, 2, none⟩ = some (.int .i64 f.ta) ∧ w'.cell? ⟨F, 3, none⟩ = some (.int .i64 f.tp) ∧ w'.cell? ⟨S, 0, none⟩ = some (.int .u64 18) ∧ w'.cell? ⟨S, 1, none⟩ = some (.int .u64 2) ∧ w'.cell? ⟨S, 2, none⟩ = some (.int .u64 12) ∧ w'.cell? ⟨S, 3, none⟩ = some (.int .u64 6) ∧ w'.cell? ⟨S, 4, none⟩ = some (.int .u64 0) ∧ w'.cell? ⟨S, 5, none⟩ = some (.int .u64 12) ∧ w'.cell? ⟨G, 0, none⟩ = some (.int .i64 e) ∧ w'.cell? ⟨G, 1, none⟩ = some (.int .i64 m) ∧ w'.cell? ⟨G, 2, none⟩ = some (.int .i64 t) ∧ w'.cell? ⟨D, 0, none⟩ = some (.int .u64 k.a) ∧ w'.cell? ⟨D, 1, none⟩ = some (.int .u64 k.b) ∧ F < w'.heap.size ∧ S < w'.heap.size ∧ G < w'.heap.size ∧ D < w'.heap.size ∧ A < w'.heap.size ∧ Below A w w')
            (first
              | (go_split_ands; refine ⟨?_, ?_, ?_, ?_, ?_, ?_, ?_, ?_, ?_, ?_, ?_, ?_, ?_, ?_, ?_, ?_, ?_, ?_, ?_, ?_, ?_⟩; exact (hb5.cell (p := ⟨F, 0, none⟩) (by assumption)).trans (by assumption); exact (hb5.cell (p := ⟨F, 1, none⟩) (by assumption)).trans (by assumption); exact (hb5.cell (p := ⟨F, 2, none⟩) (by assumption)).trans (by assumption); exact (hb5.cell (p := ⟨F, 3, none⟩) (by assumption)).trans (by assumption); exact (hb5.cell (p := ⟨S, 0, none⟩) (by assumption)).trans (by assumption); exact (hb5.cell (p := ⟨S, 1, none⟩) (by assumption)).trans (by assumption); exact (hb5.cell (p := ⟨S, 2, none⟩) (by assumption)).trans (by assumption); exact (hb5.cell (p := ⟨S, 3, none⟩) (by assumption)).trans (by assumption); exact (hb5.cell (p := ⟨S, 4, none⟩) (by assumption)).trans (by assumption); exact (hb5.cell (p := ⟨S, 5, none⟩) (by assumption)).trans (by assumption); exact (hb5.cell (p := ⟨G, 0, none⟩) (by assumption)).trans (by assumption); exact (hb5.cell (p := ⟨G, 1, none⟩) (by assumption)).trans (by assumption); exact (hb5.cell (p := ⟨G, 2, none⟩) (by assumption)).trans (by assumption); exact (hb5.cell (p := ⟨D, 0, none⟩) (by assumption)).trans (by assumption); exact (hb5.cell (p := ⟨D, 1, none⟩) (by assumption)).trans (by assumption); exact Nat.lt_of_lt_of_le (by assumption) hb5.size; exact Nat.lt_of_lt_of_le (by assumption) hb5.size; exact Nat.lt_of_lt_of_le (by assumption) hb5.size; exact Nat.lt_of_lt_of_le (by assumption) hb5.size; exact Nat.lt_of_lt_of_le (by assumption) hb5.size; exact Below.trans (by assumption) (hb5.mono (by first | exact Nat.le_of_lt (by assumption) | exact Below.size (by assumption))))
              | (refine ⟨?_, ?_, ?_, ?_, ?_, ?_, ?_, ?_, ?_, ?_, ?_, ?_, ?_, ?_, ?_, ?_, ?_, ?_, ?_, ?_, ?_⟩; assumption; assumption; assumption; assumption; assumption; assumption; assumption; assumption; assumption; assumption; assumption; assumption; assumption; assumption; assumption; assumption; assumption; assumption; assumption; assumption; exact Below.drew (by assumption))
              | (go_split_ands; refine ⟨?_, ?_, ?_, ?_, ?_, ?_, ?_, ?_, ?_, ?_, ?_, ?_, ?_, ?_, ?_, ?_, ?_, ?_, ?_, ?_, ?_⟩; exact (World.cell?_alloc_lt _ _ ⟨F, 0, none⟩ (by assumption)).trans (by assumption); exact (World.cell?_alloc_lt _ _ ⟨F, 1, none⟩ (by assumption)).trans (by assumption); exact (World.cell?_alloc_lt _ _ ⟨F, 2, none⟩ (by assumption)).trans (by assumption); exact (World.cell?_alloc_lt _ _ ⟨F, 3, none⟩ (by assumption)).trans (by assumption); exact (World.cell?_alloc_lt _ _ ⟨S, 0, none⟩ (by assumption)).trans (by assumption); exact (World.cell?_alloc_lt _ _ ⟨S, 1, none⟩ (by assumption)).trans (by assumption); exact (World.cell?_alloc_lt _ _ ⟨S, 2, none⟩ (by assumption)).trans (by assumption); exact (World.cell?_alloc_lt _ _ ⟨S, 3, none⟩ (by assumption)).trans (by assumption); exact (World.cell?_alloc_lt _ _ ⟨S, 4, none⟩ (by assumption)).trans (by assumption); exact (World.cell?_alloc_lt _ _ ⟨S, 5, none⟩ (by assumption)).trans (by assumption); exact (World.cell?_alloc_lt _ _ ⟨G, 0, none⟩ (by assumption)).trans (by assumption); exact (World.cell?_alloc_lt _ _ ⟨G, 1, none⟩ (by assumption)).trans (by assumption); exact (World.cell?_alloc_lt _ _ ⟨G, 2, none⟩ (by assumption)).trans (by assumption); exact (World.cell?_alloc_lt _ _ ⟨D, 0, none⟩ (by assumption)).trans (by assumption); exact (World.cell?_alloc_lt _ _ ⟨D, 1, none⟩ (by assumption)).trans (by assumption); (simp; omega); (simp; omega); (simp; omega); (simp; omega); (simp; omega); exact Below.alloc (by assumption) (by first | exact Nat.le_of_lt (by assumption) | exact Below.size (by assumption)) _)
              | (go_split_ands; refine ⟨?_, ?_, ?_, ?_, ?_, ?_, ?_, ?_, ?_, ?_, ?_, ?_, ?_, ?_, ?_, ?_, ?_, ?_, ?_, ?_, ?_⟩; exact (World.cell?_alloc_lt _ _ ⟨F, 0, none⟩ (by assumption)).trans (by assumption); exact (World.cell?_alloc_lt _ _ ⟨F, 1, none⟩ (by assumption)).trans (by assumption); exact (World.cell?_alloc_lt _ _ ⟨F, 2, none⟩ (by assumption)).trans (by assumption); exact (World.cell?_alloc_lt _ _ ⟨F, 3, none⟩ (by assumption)).trans (by assumption); exact (World.cell?_alloc_lt _ _ ⟨S, 0, none⟩ (by assumption)).trans (by assumption); exact (World.cell?_alloc_lt _ _ ⟨S, 1, none⟩ (by assumption)).trans (by assumption); exact (World.cell?_alloc_lt _ _ ⟨S, 2, none⟩ (by assumption)).trans (by assumption); exact (World.cell?_alloc_lt _ _ ⟨S, 3, none⟩ (by assumption)).trans (by assumption); exact (World.cell?_alloc_lt _ _ ⟨S, 4, none⟩ (by assumption)).trans (by assumption); exact (World.cell?_alloc_lt _ _ ⟨S, 5, none⟩ (by assumption)).trans (by assumption); exact (World.cell?_alloc_lt _ _ ⟨G, 0, none⟩ (by assumption)).trans (by assumption); exact (World.cell?_alloc_lt _ _ ⟨G, 1, none⟩ (by assumption)).trans (by assumption); exact (World.cell?_alloc_lt _ _ ⟨G, 2, none⟩ (by assumption)).trans (by assumption); exact (World.cell?_alloc_lt _ _ ⟨D, 0, none⟩ (by assumption)).trans (by assumption); exact (World.cell?_alloc_lt _ _ ⟨D, 1, none⟩ (by assumption)).trans (by assumption); exact Nat.lt_of_lt_of_le (by assumption) (Below.drew (Below.alloc (Below.refl _ _) (Nat.le_refl _) _)).size; exact Nat.lt_of_lt_of_le (by assumption) (Below.drew (Below.alloc (Below.refl _ _) (Nat.le_refl _) _)).size; exact Nat.lt_of_lt_of_le (by assumption) (Below.drew (Below.alloc (Below.refl _ _) (Nat.le_refl _) _)).size; exact Nat.lt_of_lt_of_le (by assumption) (Below.drew (Below.alloc (Below.refl _ _) (Nat.le_refl _) _)).size; exact Nat.lt_of_lt_of_le (by assumption) (Below.drew (Below.alloc (Below.refl _ _) (Nat.le_refl _) _)).size; exact Below.drew (Below.alloc (by assumption) (Below.size (by assumption)) _))
              | (go_split_ands; refine ⟨?_, ?_, ?_, ?_, ?_, ?_, ?_, ?_, ?_, ?_, ?_, ?_, ?_, ?_, ?_, ?_, ?_, ?_, ?_, ?_, ?_⟩; assumption; assumption; assumption; assumption; assumption; assumption; assumption; assumption; assumption; assumption; assumption; assumption; assumption; assumption; assumption; assumption; assumption; assumption; assumption; assumption; assumption)
              | go_keep)
            ((first
              | (go_at_call 26
                 go_split_ands
                 with_reducible refine (MK2.out _).mono ?_
                 rintro e w5 ⟨rfl, hb5⟩)
              | (go_at_call 25
                 go_split_ands
                 with_reducible refine (cutI 12 6 _ _ ?_).mono ?_
                 · decide
                 rintro e w5 ⟨rfl, hb5⟩)))
          go_split_ands
          go_wp2_with fail
          go_region_held3 (fun w' => w'.cell? ⟨F, 0, none⟩ = some (.int .i64 f.a) ∧ w'.cell? ⟨F, 1, none⟩ = some (.int .i64 f.p) ∧ w'.cell? ⟨F, 2, none⟩ = some (.int .i64 f.ta) ∧ w'.cell? ⟨F, 3, none⟩ = some (.int .i64 f.tp) ∧ w'.cell? ⟨S, 0, none⟩ = some (.int .u64 18) ∧ w'.cell? ⟨S, 1, none⟩ = some (.int .u64 2) ∧ w'.cell? ⟨S, 2, none⟩ = some (.int .u64 12) ∧ w'.cell? ⟨S, 3, none⟩ = some (.int .u64 6) ∧ w'.cell? ⟨S, 4, none⟩ = some (.int .u64 0) ∧ w'.cell? ⟨S, 5, none⟩ = some (.int .u64 12) ∧ w'.cell? ⟨G, 0, none⟩ = some (.int .i64 e) ∧ w'.cell? ⟨G, 1, none⟩ = some (.int .i64 m) ∧ w'.cell? ⟨G, 2, none⟩ = some (.int .i64 t) ∧ w'.cell? ⟨D, 0, none⟩ = some (.int .u64 k.a) ∧ w'.cell? ⟨D, 1, none⟩ = some (.int .u64 k.b) ∧ F < w'.heap.size ∧ S < w'.heap.size ∧ G < w'.heap.size ∧ D < w'.heap.size ∧ A < w'.heap.size ∧ Below A w w')
            (first
              | (go_split_ands; refine ⟨?_, ?_, ?_, ?_, ?_, ?_, ?_, ?_, ?_, ?_, ?_, ?_, ?_, ?_, ?_, ?_, ?_, ?_, ?_, ?_, ?_⟩; exact (hb5.cell (p := ⟨F, 0, none⟩) (by assumption)).trans (by assumption); exact (hb5.cell (p := ⟨F, 1, none⟩) (by assumption)).trans (by assumption); exact (hb5.cell (p := ⟨F, 2, none⟩) (by assumption)).trans (by assumption); exact (hb5.cell (p := ⟨F, 3, none⟩) (by assumption)).trans (by assumption); exact (hb5.cell (p := ⟨S, 0, none⟩) (by assumption)).trans (by assumption); exact (hb5.cell (p := ⟨S, 1, none⟩) (by assumption)).trans (by assumption); exact (hb5.cell (p := ⟨S, 2, none⟩) (by assumption)).trans (by assumption); exact (hb5.cell (p := ⟨S, 3, none⟩) (by assumption)).trans (by assumption); exact (hb5.cell (p := ⟨S, 4, none⟩) (by assumption)).trans (by assumption); exact (hb5.cell (p := ⟨S, 5, none⟩) (by assumption)).trans (by assumption); exact (hb5.cell (p := ⟨G, 0, none⟩) (by assumption)).trans (by assumption); exact (hb5.cell (p := ⟨G, 1, none⟩) (by assumption)).trans (by assumption); exact (hb5.cell (p := ⟨G, 2, none⟩) (by assumption)).trans (by assumption); exact (hb5.cell (p := ⟨D, 0, none⟩) (by assumption)).trans (by assumption); exact (hb5.cell (p := ⟨D, 1, none⟩) (by assumption)).trans (by assumption); exact Nat.lt_of_lt_of_le (by assumption) hb5.size; exact Nat.lt_of_lt_of_le (by assumption) hb5.size; exact Nat.lt_of_lt_of_le (by assumption) hb5.size; exact Nat.lt_of_lt_of_le (by assumption) hb5.size; exact Nat.lt_of_lt_of_le (by assumption) hb5.size; exact Below.trans (by assumption) (hb5.mono (by first | exact Nat.le_of_lt (by assumption) | exact Below.size (by assumption))))
              | (refine ⟨?_, ?_, ?_, ?_, ?_, ?_, ?_, ?_, ?_, ?_, ?_, ?_, ?_, ?_, ?_, ?_, ?_, ?_, ?_, ?_, ?_⟩; assumption; assumption; assumption; assumption; assumption; assumption; assumption; assumption; assumption; assumption; assumption; assumption; assumption; assumption; assumption; assumption; assumption; assumption; assumption; assumption; exact Below.drew (by assumption))
              | (go_split_ands; refine ⟨?_, ?_, ?_, ?_, ?_, ?_, ?_, ?_, ?_, ?_, ?_, ?_, ?_, ?_, ?_, ?_, ?_, ?_, ?_, ?_, ?_⟩; exact (World.cell?_alloc_lt _ _ ⟨F, 0, none⟩ (by assumption)).trans (by assumption); exact (World.cell?_alloc_lt _ _ ⟨F, 1, none⟩ (by assumption)).trans (by assumption); exact (World.cell?_alloc_lt _ _ ⟨F, 2, none⟩ (by assumption)).trans (by assumption); exact (World.cell?_alloc_lt _ _ ⟨F, 3, none⟩ (by assumption)).trans (by assumption); exact (World.cell?_alloc_lt _ _ ⟨S, 0, none⟩ (by assumption)).trans (by assumption); exact (World.cell?_alloc_lt _ _ ⟨S, 1, none⟩ (by assumption)).trans (by assumption); exact (World.cell?_alloc_lt _ _ ⟨S, 2, none⟩ (by assumption)).trans (by assumption); exact (World.cell?_alloc_lt _ _ ⟨S, 3, none⟩ (by assumption)).trans (by assumption); exact (World.cell?_alloc_lt _ _ ⟨S, 4, none⟩ (by assumption)).trans (by assumption); exact (World.cell?_alloc_lt _ _ ⟨S, 5, none⟩ (by assumption)).trans (by assumption); exact (World.cell?_alloc_lt _ _ ⟨G, 0, none⟩ (by assumption)).trans (by assumption); exact (World.cell?_alloc_lt _ _ ⟨G, 1, none⟩ (by assumption)).trans (by assumption); exact (World.cell?_alloc_lt _ _ ⟨G, 2, none⟩ (by assumption)).trans (by assumption); exact (World.cell?_alloc_lt _ _ ⟨D, 0, none⟩ (by assumption)).trans (by assumption); exact (World.cell?_alloc_lt _ _ ⟨D, 1, none⟩ (by assumption)).trans (by assumption); (simp; omega); (simp; omega); (simp; omega); (simp; omega); (simp; omega); exact Below.alloc (by assumption) (by first | exact Nat.le_of_lt (by assumption) | exact Below.size (by assumption)) _)
              | (go_split_ands; refine ⟨?_, ?_, ?_, ?_, ?_, ?_, ?_, ?_, ?_, ?_, ?_, ?_, ?_, ?_, ?_, ?_, ?_, ?_, ?_, ?_, ?_⟩; exact (World.cell?_alloc_lt _ _ ⟨F, 0, none⟩ (by assumption)).trans (by assumption); exact (World.cell?_alloc_lt _ _ ⟨F, 1, none⟩ (by assumption)).trans (by assumption); exact (World.cell?_alloc_lt _ _ ⟨F, 2, none⟩ (by assumption)).trans (by assumption); exact (World.cell?_alloc_lt _ _ ⟨F, 3, none⟩ (by assumption)).trans (by assumption); exact (World.cell?_alloc_lt _ _ ⟨S, 0, none⟩ (by assumption)).trans (by assumption); exact (World.cell?_alloc_lt _ _ ⟨S, 1, none⟩ (by assumption)).trans (by assumption); exact (World.cell?_alloc_lt _ _ ⟨S, 2, none⟩ (by assumption)).trans (by assumption); exact (World.cell?_alloc_lt _ _ ⟨S, 3, none⟩ (by assumption)).trans (by assumption); exact (World.cell?_alloc_lt _ _ ⟨S, 4, none⟩ (by assumption)).trans (by assumption); exact (World.cell?_alloc_lt _ _ ⟨S, 5, none⟩ (by assumption)).trans (by assumption); exact (World.cell?_alloc_lt _ _ ⟨G, 0, none⟩ (by assumption)).trans (by assumption); exact (World.cell?_alloc_lt _ _ ⟨G, 1, none⟩ (by assumption)).trans (by assumption); exact (World.cell?_alloc_lt _ _ ⟨G, 2, none⟩ (by assumption)).trans (by assumption); exact (World.cell?_alloc_lt _ _ ⟨D, 0, none⟩ (by assumption)).trans (by assumption); exact (World.cell?_alloc_lt _ _ ⟨D, 1, none⟩ (by assumption)).trans (by assumption); exact Nat.lt_of_lt_of_le (by assumption) (Below.drew (Below.alloc (Below.refl _ _) (Nat.le_refl _) _)).size; exact Nat.lt_of_lt_of_le (by assumption) (Below.drew (Below.alloc (Below.refl _ _) (Nat.le_refl _) _)).size; exact Nat.lt_of_lt_of_le (by assumption) (Below.drew (Below.alloc (Below.refl _ _) (Nat.le_refl _) _)).size; exact Nat.lt_of_lt_of_le (by assumption) (Below.drew (Below.alloc (Below.refl _ _) (Nat.le_refl _) _)).size; exact Nat.lt_of_lt_of_le (by assumption) (Below.drew (Below.alloc (Below.refl _ _) (Nat.le_refl _) _)).size; exact Below.drew (Below.alloc (by assumption) (Below.size (by assumption)) _))
              | (go_split_ands; refine ⟨?_, ?_, ?_, ?_, ?_, ?_, ?_, ?_, ?_, ?_, ?_, ?_, ?_, ?_, ?_, ?_, ?_, ?_, ?_, ?_, ?_⟩; assumption; assumption; assumption; assumption; assumption; assumption; assumption; assumption; assumption; assumption; assumption; assumption; assumption; assumption; assumption; assumption; assumption; assumption; assumption; assumption; assumption)
              | go_keep)
            ((first
              | (go_at_call 20
                 go_split_ands
                 with_reducible refine (MD2.out _).mono ?_
                 rintro e w5 ⟨rfl, hb5⟩)))
          go_split_ands
          go_wp2_with fail
          refine bodyPost_ret (by simp [results, Try.results9, go_sem]) rfl ⟨rfl, ?_⟩
          first | assumption | (rw [hK]; assumption)
set_option maxHeartbeats 2000000 in
theorem read2 (r : Rg) (f : Fl) (c : Int) (hf : f.I) (hr : Ep r.e) (w : World) :
    Calls Try.prog 9 #[rgV r, .int .i64 2, flV f, .int .i64 c] w fun e' w' => e' = .returned (rdO (readC 256 r 2 f c)) ∧ Below w.heap.size w w' := by
  have hkI : I64 2 := ⟨by omega, by omega⟩
  have BY := fun w => beyond_any 256 w (by exact .inr rfl)
  have AP := fun w => apart2 c w
  have KY := fun e w => key_any r e hr w
  have MK := fun k e he w => mask_any k 2 f e hf hkI he w
  have MD := fun k x e hx he w => made2 k 2 f x e hf hkI hx he w
  have HI := cok_iff 256 (f := f) (kd := 2) (c := c) (hT := (by exact .inr rfl))
  obtain ⟨o, ho⟩ : ∃ o, o = readC 256 r 2 f c := ⟨_, rfl⟩
  rw [← ho]
  unfold readC at ho
  rw [shV2] at BY AP MD
  unfold rgV flV kyV ptV rdO kyO kyV at *
  replace BY := hid BY
  replace AP := hid AP
  replace KY := hid KY
  replace MK := hid MK
  replace MD := hid MD
  replace HI := hid HI
  by_cases h0 : c < 0
  · rw [if_pos (Or.inl h0)] at ho
    subst ho
    go_enter Try.func9, Try.ntmps9
    go_wp2_with fail
    have CA := Ce.made (w := w) (l := [.int .i64 r.e, .int .u64 r.p.a, .int .u64 r.p.b, .int .u64 r.c.a, .int .u64 r.c.b, .int .u64 r.n.a, .int .u64 r.n.b]) (T := 27) (g := w.heap.size) rfl
    replace CA := CA.alloc (.cells #[.int .i64 f.a, .int .i64 f.p, .int .i64 f.ta, .int .i64 f.tp] 30)
    have CF := Ce.made (w := (w.alloc (.cells #[.int .i64 r.e, .int .u64 r.p.a, .int .u64 r.p.b, .int .u64 r.c.a, .int .u64 r.c.b, .int .u64 r.n.a, .int .u64 r.n.b] 27))) (l := [.int .i64 f.a, .int .i64 f.p, .int .i64 f.ta, .int .i64 f.tp]) (T := 30) (g := w.heap.size + 1) (by simp)
    have B : Below w.heap.size w ((w.alloc (.cells #[.int .i64 r.e, .int .u64 r.p.a, .int .u64 r.p.b, .int .u64 r.c.a, .int .u64 r.c.b, .int .u64 r.n.a, .int .u64 r.n.b] 27)).alloc (.cells #[.int .i64 f.a, .int .i64 f.p, .int .i64 f.ta, .int .i64 f.tp] 30)) := (((Below.refl w.heap.size w).alloc (by first | exact Nat.le_refl _ | (simp; done) | (simp; omega)) (.cells #[.int .i64 r.e, .int .u64 r.p.a, .int .u64 r.p.b, .int .u64 r.c.a, .int .u64 r.c.b, .int .u64 r.n.a, .int .u64 r.n.b] 27)).alloc (by first | exact Nat.le_refl _ | (simp; done) | (simp; omega)) (.cells #[.int .i64 f.a, .int .i64 f.p, .int .i64 f.ta, .int .i64 f.tp] 30))
    generalize (w.alloc (.cells #[.int .i64 r.e, .int .u64 r.p.a, .int .u64 r.p.b, .int .u64 r.c.a, .int .u64 r.c.b, .int .u64 r.n.a, .int .u64 r.n.b] 27)).alloc (.cells #[.int .i64 f.a, .int .i64 f.p, .int .i64 f.ta, .int .i64 f.tp] 30) = w1 at *
    generalize w.heap.size + 1 = F at *
    generalize hK : w.heap.size = A at *
    refine (shapeOf_any 2 256 _ (by exact .inr ⟨rfl, rfl⟩)).mono ?_
    rintro e' w2 ⟨rfl, hb⟩
    replace B := B.trans (hb.mono (Nat.le_of_lt CA.1))
    replace CA := CA.below hb
    replace CF := CF.below hb
    clear hb
    rw [shV2]
    obtain ⟨kA, qA, zA⟩ := id CA
    have cA0 := qA 0 _ rfl
    have cA1 := qA 1 _ rfl
    have cA2 := qA 2 _ rfl
    have cA3 := qA 3 _ rfl
    have cA4 := qA 4 _ rfl
    have cA5 := qA 5 _ rfl
    have cA6 := qA 6 _ rfl
    clear qA zA
    obtain ⟨kF, qF, zF⟩ := id CF
    have cF0 := qF 0 _ rfl
    have cF1 := qF 1 _ rfl
    have cF2 := qF 2 _ rfl
    have cF3 := qF 3 _ rfl
    clear qF zF
    go_wp2_with fail
    clear kA cA0 cA1 cA2 cA3 cA4 cA5 cA6
    clear kF cF0 cF1 cF2 cF3
    have CS := Ce.made (w := w2) (l := [.int .u64 14, .int .u64 2, .int .u64 8, .int .u64 6, .int .u64 0, .int .u64 8]) (T := 50) (g := w2.heap.size) rfl
    replace B := B.alloc (Nat.le_of_lt CA.1) (.cells #[.int .u64 14, .int .u64 2, .int .u64 8, .int .u64 6, .int .u64 0, .int .u64 8] 50)
    replace CA := CA.alloc (.cells #[.int .u64 14, .int .u64 2, .int .u64 8, .int .u64 6, .int .u64 0, .int .u64 8] 50)
    replace CF := CF.alloc (.cells #[.int .u64 14, .int .u64 2, .int .u64 8, .int .u64 6, .int .u64 0, .int .u64 8] 50)
    generalize w2.alloc (.cells #[.int .u64 14, .int .u64 2, .int .u64 8, .int .u64 6, .int .u64 0, .int .u64 8] 50) = w3 at *
    generalize w2.heap.size = S at *
    obtain ⟨kA, qA, zA⟩ := id CA
    have cA0 := qA 0 _ rfl
    have cA1 := qA 1 _ rfl
    have cA2 := qA 2 _ rfl
    have cA3 := qA 3 _ rfl
    have cA4 := qA 4 _ rfl
    have cA5 := qA 5 _ rfl
    have cA6 := qA 6 _ rfl
    clear qA zA
    obtain ⟨kF, qF, zF⟩ := id CF
    have cF0 := qF 0 _ rfl
    have cF1 := qF 1 _ rfl
    have cF2 := qF 2 _ rfl
    have cF3 := qF 3 _ rfl
    clear qF zF
    obtain ⟨kS, qS, zS⟩ := id CS
    have cS0 := qS 0 _ rfl
    have cS1 := qS 1 _ rfl
    have cS2 := qS 2 _ rfl
    have cS3 := qS 3 _ rfl
    have cS4 := qS 4 _ rfl
    have cS5 := qS 5 _ rfl
    clear qS zS
    go_wp2
    refine bodyPost_ret (by simp [results, Try.results9, go_sem]) rfl ⟨rfl, ?_⟩
    rw [hK]
    exact B
  · by_cases h1 : 65536 ≤ c
    · rw [if_pos (Or.inr (by omega))] at ho
      subst ho
      have g0 : 0 ≤ c := by omega
      go_enter Try.func9, Try.ntmps9
      go_wp2_with fail
      have CA := Ce.made (w := w) (l := [.int .i64 r.e, .int .u64 r.p.a, .int .u64 r.p.b, .int .u64 r.c.a, .int .u64 r.c.b, .int .u64 r.n.a, .int .u64 r.n.b]) (T := 27) (g := w.heap.size) rfl
      replace CA := CA.alloc (.cells #[.int .i64 f.a, .int .i64 f.p, .int .i64 f.ta, .int .i64 f.tp] 30)
      have CF := Ce.made (w := (w.alloc (.cells #[.int .i64 r.e, .int .u64 r.p.a, .int .u64 r.p.b, .int .u64 r.c.a, .int .u64 r.c.b, .int .u64 r.n.a, .int .u64 r.n.b] 27))) (l := [.int .i64 f.a, .int .i64 f.p, .int .i64 f.ta, .int .i64 f.tp]) (T := 30) (g := w.heap.size + 1) (by simp)
      have B : Below w.heap.size w ((w.alloc (.cells #[.int .i64 r.e, .int .u64 r.p.a, .int .u64 r.p.b, .int .u64 r.c.a, .int .u64 r.c.b, .int .u64 r.n.a, .int .u64 r.n.b] 27)).alloc (.cells #[.int .i64 f.a, .int .i64 f.p, .int .i64 f.ta, .int .i64 f.tp] 30)) := (((Below.refl w.heap.size w).alloc (by first | exact Nat.le_refl _ | (simp; done) | (simp; omega)) (.cells #[.int .i64 r.e, .int .u64 r.p.a, .int .u64 r.p.b, .int .u64 r.c.a, .int .u64 r.c.b, .int .u64 r.n.a, .int .u64 r.n.b] 27)).alloc (by first | exact Nat.le_refl _ | (simp; done) | (simp; omega)) (.cells #[.int .i64 f.a, .int .i64 f.p, .int .i64 f.ta, .int .i64 f.tp] 30))
      generalize (w.alloc (.cells #[.int .i64 r.e, .int .u64 r.p.a, .int .u64 r.p.b, .int .u64 r.c.a, .int .u64 r.c.b, .int .u64 r.n.a, .int .u64 r.n.b] 27)).alloc (.cells #[.int .i64 f.a, .int .i64 f.p, .int .i64 f.ta, .int .i64 f.tp] 30) = w1 at *
      generalize w.heap.size + 1 = F at *
      generalize hK : w.heap.size = A at *
      refine (shapeOf_any 2 256 _ (by exact .inr ⟨rfl, rfl⟩)).mono ?_
      rintro e' w2 ⟨rfl, hb⟩
      replace B := B.trans (hb.mono (Nat.le_of_lt CA.1))
      replace CA := CA.below hb
      replace CF := CF.below hb
      clear hb
      rw [shV2]
      obtain ⟨kA, qA, zA⟩ := id CA
      have cA0 := qA 0 _ rfl
      have cA1 := qA 1 _ rfl
      have cA2 := qA 2 _ rfl
      have cA3 := qA 3 _ rfl
      have cA4 := qA 4 _ rfl
      have cA5 := qA 5 _ rfl
      have cA6 := qA 6 _ rfl
      clear qA zA
      obtain ⟨kF, qF, zF⟩ := id CF
      have cF0 := qF 0 _ rfl
      have cF1 := qF 1 _ rfl
      have cF2 := qF 2 _ rfl
      have cF3 := qF 3 _ rfl
      clear qF zF
      go_wp2_with fail
      clear kA cA0 cA1 cA2 cA3 cA4 cA5 cA6
      clear kF cF0 cF1 cF2 cF3
      have CS := Ce.made (w := w2) (l := [.int .u64 14, .int .u64 2, .int .u64 8, .int .u64 6, .int .u64 0, .int .u64 8]) (T := 50) (g := w2.heap.size) rfl
      replace B := B.alloc (Nat.le_of_lt CA.1) (.cells #[.int .u64 14, .int .u64 2, .int .u64 8, .int .u64 6, .int .u64 0, .int .u64 8] 50)
      replace CA := CA.alloc (.cells #[.int .u64 14, .int .u64 2, .int .u64 8, .int .u64 6, .int .u64 0, .int .u64 8] 50)
      replace CF := CF.alloc (.cells #[.int .u64 14, .int .u64 2, .int .u64 8, .int .u64 6, .int .u64 0, .int .u64 8] 50)
      generalize w2.alloc (.cells #[.int .u64 14, .int .u64 2, .int .u64 8, .int .u64 6, .int .u64 0, .int .u64 8] 50) = w3 at *
      generalize w2.heap.size = S at *
      obtain ⟨kA, qA, zA⟩ := id CA
      have cA0 := qA 0 _ rfl
      have cA1 := qA 1 _ rfl
      have cA2 := qA 2 _ rfl
      have cA3 := qA 3 _ rfl
      have cA4 := qA 4 _ rfl
      have cA5 := qA 5 _ rfl
      have cA6 := qA 6 _ rfl
      clear qA zA
      obtain ⟨kF, qF, zF⟩ := id CF
      have cF0 := qF 0 _ rfl
      have cF1 := qF 1 _ rfl
      have cF2 := qF 2 _ rfl
      have cF3 := qF 3 _ rfl
      clear qF zF
      obtain ⟨kS, qS, zS⟩ := id CS
      have cS0 := qS 0 _ rfl
      have cS1 := qS 1 _ rfl
      have cS2 := qS 2 _ rfl
      have cS3 := qS 3 _ rfl
      have cS4 := qS 4 _ rfl
      have cS5 := qS 5 _ rfl
      clear qS zS
      go_wp2_with fail
      refine (BY.out _).mono ?_
      rintro e' w4 ⟨rfl, hb⟩
      clear kA cA0 cA1 cA2 cA3 cA4 cA5 cA6
      clear kF cF0 cF1 cF2 cF3
      clear kS cS0 cS1 cS2 cS3 cS4 cS5
      replace B := B.trans (hb.mono (Nat.le_of_lt CA.1))
      replace CA := CA.below hb
      replace CF := CF.below hb
      replace CS := CS.below hb
      clear hb
      obtain ⟨kA, qA, zA⟩ := id CA
      have cA0 := qA 0 _ rfl
      have cA1 := qA 1 _ rfl
      have cA2 := qA 2 _ rfl
      have cA3 := qA 3 _ rfl
      have cA4 := qA 4 _ rfl
      have cA5 := qA 5 _ rfl
      have cA6 := qA 6 _ rfl
      clear qA zA
      obtain ⟨kF, qF, zF⟩ := id CF
      have cF0 := qF 0 _ rfl
      have cF1 := qF 1 _ rfl
      have cF2 := qF 2 _ rfl
      have cF3 := qF 3 _ rfl
      clear qF zF
      obtain ⟨kS, qS, zS⟩ := id CS
      have cS0 := qS 0 _ rfl
      have cS1 := qS 1 _ rfl
      have cS2 := qS 2 _ rfl
      have cS3 := qS 3 _ rfl
      have cS4 := qS 4 _ rfl
      have cS5 := qS 5 _ rfl
      clear qS zS
      go_wp2
      refine bodyPost_ret (by simp [results, Try.results9, go_sem]) rfl ⟨rfl, ?_⟩
      rw [hK]
      exact B
    · rw [if_neg (by omega)] at ho
      have g0 : 0 ≤ c := by omega
      have g1 : ¬ 65536 ≤ c := h1
      obtain ⟨e, he⟩ : ∃ e, e = c / (64 * 256) := ⟨_, rfl⟩
      obtain ⟨m, hm⟩ : ∃ m, m = c / 256 % 64 := ⟨_, rfl⟩
      obtain ⟨t, ht⟩ : ∃ t, t = c % 256 := ⟨_, rfl⟩
      have he4 : c / (64 * 256) % 4 = e := by omega
      have heb : I64 e := ⟨by omega, by omega⟩
      replace HI := fun k => HI.out k g0 (by omega)
      replace AP := AP.out
      have hmb : m % 64 = m := by omega
      rw [he4, ← hm, ← ht] at AP
      unfold slotOf at ho HI
      rw [← he, ← hm] at ho HI
      rw [← ht] at HI
      replace AP := hid AP
      replace HI := hid HI
      have KE := KY.out e
      clear KY h1
      have HE := hid he
      have HM := hid hm
      have HT := hid ht
      have HE4 := hid he4
      clear he hm ht he4
      cases hk : keyOf r e with
      | none =>
        rw [hk] at ho KE
        subst ho
        have KY := hid KE
        clear KE
        go_enter Try.func9, Try.ntmps9
        go_wp2_with fail
        have CA := Ce.made (w := w) (l := [.int .i64 r.e, .int .u64 r.p.a, .int .u64 r.p.b, .int .u64 r.c.a, .int .u64 r.c.b, .int .u64 r.n.a, .int .u64 r.n.b]) (T := 27) (g := w.heap.size) rfl
        replace CA := CA.alloc (.cells #[.int .i64 f.a, .int .i64 f.p, .int .i64 f.ta, .int .i64 f.tp] 30)
        have CF := Ce.made (w := (w.alloc (.cells #[.int .i64 r.e, .int .u64 r.p.a, .int .u64 r.p.b, .int .u64 r.c.a, .int .u64 r.c.b, .int .u64 r.n.a, .int .u64 r.n.b] 27))) (l := [.int .i64 f.a, .int .i64 f.p, .int .i64 f.ta, .int .i64 f.tp]) (T := 30) (g := w.heap.size + 1) (by simp)
        have B : Below w.heap.size w ((w.alloc (.cells #[.int .i64 r.e, .int .u64 r.p.a, .int .u64 r.p.b, .int .u64 r.c.a, .int .u64 r.c.b, .int .u64 r.n.a, .int .u64 r.n.b] 27)).alloc (.cells #[.int .i64 f.a, .int .i64 f.p, .int .i64 f.ta, .int .i64 f.tp] 30)) := (((Below.refl w.heap.size w).alloc (by first | exact Nat.le_refl _ | (simp; done) | (simp; omega)) (.cells #[.int .i64 r.e, .int .u64 r.p.a, .int .u64 r.p.b, .int .u64 r.c.a, .int .u64 r.c.b, .int .u64 r.n.a, .int .u64 r.n.b] 27)).alloc (by first | exact Nat.le_refl _ | (simp; done) | (simp; omega)) (.cells #[.int .i64 f.a, .int .i64 f.p, .int .i64 f.ta, .int .i64 f.tp] 30))
        generalize (w.alloc (.cells #[.int .i64 r.e, .int .u64 r.p.a, .int .u64 r.p.b, .int .u64 r.c.a, .int .u64 r.c.b, .int .u64 r.n.a, .int .u64 r.n.b] 27)).alloc (.cells #[.int .i64 f.a, .int .i64 f.p, .int .i64 f.ta, .int .i64 f.tp] 30) = w1 at *
        generalize w.heap.size + 1 = F at *
        generalize hK : w.heap.size = A at *
        refine (shapeOf_any 2 256 _ (by exact .inr ⟨rfl, rfl⟩)).mono ?_
        rintro e' w2 ⟨rfl, hb⟩
        replace B := B.trans (hb.mono (Nat.le_of_lt CA.1))
        replace CA := CA.below hb
        replace CF := CF.below hb
        clear hb
        rw [shV2]
        obtain ⟨kA, qA, zA⟩ := id CA
        have cA0 := qA 0 _ rfl
        have cA1 := qA 1 _ rfl
        have cA2 := qA 2 _ rfl
        have cA3 := qA 3 _ rfl
        have cA4 := qA 4 _ rfl
        have cA5 := qA 5 _ rfl
        have cA6 := qA 6 _ rfl
        clear qA zA
        obtain ⟨kF, qF, zF⟩ := id CF
        have cF0 := qF 0 _ rfl
        have cF1 := qF 1 _ rfl
        have cF2 := qF 2 _ rfl
        have cF3 := qF 3 _ rfl
        clear qF zF
        go_wp2_with fail
        clear kA cA0 cA1 cA2 cA3 cA4 cA5 cA6
        clear kF cF0 cF1 cF2 cF3
        have CS := Ce.made (w := w2) (l := [.int .u64 14, .int .u64 2, .int .u64 8, .int .u64 6, .int .u64 0, .int .u64 8]) (T := 50) (g := w2.heap.size) rfl
        replace B := B.alloc (Nat.le_of_lt CA.1) (.cells #[.int .u64 14, .int .u64 2, .int .u64 8, .int .u64 6, .int .u64 0, .int .u64 8] 50)
        replace CA := CA.alloc (.cells #[.int .u64 14, .int .u64 2, .int .u64 8, .int .u64 6, .int .u64 0, .int .u64 8] 50)
        replace CF := CF.alloc (.cells #[.int .u64 14, .int .u64 2, .int .u64 8, .int .u64 6, .int .u64 0, .int .u64 8] 50)
        generalize w2.alloc (.cells #[.int .u64 14, .int .u64 2, .int .u64 8, .int .u64 6, .int .u64 0, .int .u64 8] 50) = w3 at *
        generalize w2.heap.size = S at *
        obtain ⟨kA, qA, zA⟩ := id CA
        have cA0 := qA 0 _ rfl
        have cA1 := qA 1 _ rfl
        have cA2 := qA 2 _ rfl
        have cA3 := qA 3 _ rfl
        have cA4 := qA 4 _ rfl
        have cA5 := qA 5 _ rfl
        have cA6 := qA 6 _ rfl
        clear qA zA
        obtain ⟨kF, qF, zF⟩ := id CF
        have cF0 := qF 0 _ rfl
        have cF1 := qF 1 _ rfl
        have cF2 := qF 2 _ rfl
        have cF3 := qF 3 _ rfl
        clear qF zF
        obtain ⟨kS, qS, zS⟩ := id CS
        have cS0 := qS 0 _ rfl
        have cS1 := qS 1 _ rfl
        have cS2 := qS 2 _ rfl
        have cS3 := qS 3 _ rfl
        have cS4 := qS 4 _ rfl
        have cS5 := qS 5 _ rfl
        clear qS zS
        go_wp2_with fail
        refine (BY.out _).mono ?_
        rintro e' w4 ⟨rfl, hb⟩
        clear kA cA0 cA1 cA2 cA3 cA4 cA5 cA6
        clear kF cF0 cF1 cF2 cF3
        clear kS cS0 cS1 cS2 cS3 cS4 cS5
        replace B := B.trans (hb.mono (Nat.le_of_lt CA.1))
        replace CA := CA.below hb
        replace CF := CF.below hb
        replace CS := CS.below hb
        clear hb
        obtain ⟨kA, qA, zA⟩ := id CA
        have cA0 := qA 0 _ rfl
        have cA1 := qA 1 _ rfl
        have cA2 := qA 2 _ rfl
        have cA3 := qA 3 _ rfl
        have cA4 := qA 4 _ rfl
        have cA5 := qA 5 _ rfl
        have cA6 := qA 6 _ rfl
        clear qA zA
        obtain ⟨kF, qF, zF⟩ := id CF
        have cF0 := qF 0 _ rfl
        have cF1 := qF 1 _ rfl
        have cF2 := qF 2 _ rfl
        have cF3 := qF 3 _ rfl
        clear qF zF
        obtain ⟨kS, qS, zS⟩ := id CS
        have cS0 := qS 0 _ rfl
        have cS1 := qS 1 _ rfl
        have cS2 := qS 2 _ rfl
        have cS3 := qS 3 _ rfl
        have cS4 := qS 4 _ rfl
        have cS5 := qS 5 _ rfl
        clear qS zS
        go_wp2_with fail
        refine (AP.out _).mono ?_
        rintro e' w5 ⟨rfl, hb⟩
        replace B := B.trans (hb.mono (Nat.le_of_lt CA.1))
        replace CA := CA.below hb
        replace CF := CF.below hb
        replace CS := CS.below hb
        clear hb
        clear kA cA0 cA1 cA2 cA3 cA4 cA5 cA6
        clear kF cF0 cF1 cF2 cF3
        clear kS cS0 cS1 cS2 cS3 cS4 cS5
        obtain ⟨kA, qA, zA⟩ := id CA
        have cA0 := qA 0 _ rfl
        have cA1 := qA 1 _ rfl
        have cA2 := qA 2 _ rfl
        have cA3 := qA 3 _ rfl
        have cA4 := qA 4 _ rfl
        have cA5 := qA 5 _ rfl
        have cA6 := qA 6 _ rfl
        clear qA zA
        obtain ⟨kF, qF, zF⟩ := id CF
        have cF0 := qF 0 _ rfl
        have cF1 := qF 1 _ rfl
        have cF2 := qF 2 _ rfl
        have cF3 := qF 3 _ rfl
        clear qF zF
        obtain ⟨kS, qS, zS⟩ := id CS
        have cS0 := qS 0 _ rfl
        have cS1 := qS 1 _ rfl
        have cS2 := qS 2 _ rfl
        have cS3 := qS 3 _ rfl
        have cS4 := qS 4 _ rfl
        have cS5 := qS 5 _ rfl
        clear qS zS
        go_wp2_with fail
        clear kA cA0 cA1 cA2 cA3 cA4 cA5 cA6
        clear kF cF0 cF1 cF2 cF3
        clear kS cS0 cS1 cS2 cS3 cS4 cS5
        have CG := Ce.made (w := w5) (l := [.int .i64 e, .int .i64 m, .int .i64 t]) (T := 54) (g := w5.heap.size) rfl
        replace B := B.alloc (Nat.le_of_lt CA.1) (.cells #[.int .i64 e, .int .i64 m, .int .i64 t] 54)
        replace CA := CA.alloc (.cells #[.int .i64 e, .int .i64 m, .int .i64 t] 54)
        replace CF := CF.alloc (.cells #[.int .i64 e, .int .i64 m, .int .i64 t] 54)
        replace CS := CS.alloc (.cells #[.int .i64 e, .int .i64 m, .int .i64 t] 54)
        generalize w5.alloc (.cells #[.int .i64 e, .int .i64 m, .int .i64 t] 54) = w6 at *
        generalize w5.heap.size = G at *
        obtain ⟨kA, qA, zA⟩ := id CA
        have cA0 := qA 0 _ rfl
        have cA1 := qA 1 _ rfl
        have cA2 := qA 2 _ rfl
        have cA3 := qA 3 _ rfl
        have cA4 := qA 4 _ rfl
        have cA5 := qA 5 _ rfl
        have cA6 := qA 6 _ rfl
        clear qA zA
        obtain ⟨kF, qF, zF⟩ := id CF
        have cF0 := qF 0 _ rfl
        have cF1 := qF 1 _ rfl
        have cF2 := qF 2 _ rfl
        have cF3 := qF 3 _ rfl
        clear qF zF
        obtain ⟨kS, qS, zS⟩ := id CS
        have cS0 := qS 0 _ rfl
        have cS1 := qS 1 _ rfl
        have cS2 := qS 2 _ rfl
        have cS3 := qS 3 _ rfl
        have cS4 := qS 4 _ rfl
        have cS5 := qS 5 _ rfl
        clear qS zS
        obtain ⟨kG, qG, zG⟩ := id CG
        have cG0 := qG 0 _ rfl
        have cG1 := qG 1 _ rfl
        have cG2 := qG 2 _ rfl
        clear qG zG
        go_wp2_with fail
        refine (KY.out _).mono ?_
        rintro e' w7 ⟨rfl, hb⟩
        replace B := B.trans (hb.mono (Nat.le_of_lt CA.1))
        replace CA := CA.below hb
        replace CF := CF.below hb
        replace CS := CS.below hb
        replace CG := CG.below hb
        clear hb
        clear kA cA0 cA1 cA2 cA3 cA4 cA5 cA6
        clear kF cF0 cF1 cF2 cF3
        clear kS cS0 cS1 cS2 cS3 cS4 cS5
        clear kG cG0 cG1 cG2
        obtain ⟨kA, qA, zA⟩ := id CA
        have cA0 := qA 0 _ rfl
        have cA1 := qA 1 _ rfl
        have cA2 := qA 2 _ rfl
        have cA3 := qA 3 _ rfl
        have cA4 := qA 4 _ rfl
        have cA5 := qA 5 _ rfl
        have cA6 := qA 6 _ rfl
        clear qA zA
        obtain ⟨kF, qF, zF⟩ := id CF
        have cF0 := qF 0 _ rfl
        have cF1 := qF 1 _ rfl
        have cF2 := qF 2 _ rfl
        have cF3 := qF 3 _ rfl
        clear qF zF
        obtain ⟨kS, qS, zS⟩ := id CS
        have cS0 := qS 0 _ rfl
        have cS1 := qS 1 _ rfl
        have cS2 := qS 2 _ rfl
        have cS3 := qS 3 _ rfl
        have cS4 := qS 4 _ rfl
        have cS5 := qS 5 _ rfl
        clear qS zS
        obtain ⟨kG, qG, zG⟩ := id CG
        have cG0 := qG 0 _ rfl
        have cG1 := qG 1 _ rfl
        have cG2 := qG 2 _ rfl
        clear qG zG
        go_wp2_with fail
        refine bodyPost_ret (by simp [results, Try.results9, go_sem]) rfl ⟨rfl, ?_⟩
        rw [hK]
        exact B.alloc (Nat.le_of_lt CA.1) _
      | some k =>
        rw [hk] at ho KE
        simp only at ho
        obtain ⟨sl, hsl⟩ : ∃ sl, sl = xr m (W7 k 2 f 64 e % 64) := ⟨_, rfl⟩
        rw [← hsl] at ho
        have hslb : 0 ≤ sl ∧ sl < 64 := by rw [hsl]; exact xr_bd _ _ ⟨by omega, by omega⟩ ⟨by omega, by omega⟩
        have HI2 := HI.out k
        rw [← hsl] at HI2
        have hx : bits .xor .i64 m (wrap64 (W7 k 2 f 64 e)) % 64 = sl := by
          rw [xor64, show wrap64 (W7 k 2 f 64 e) % 64 = W7 k 2 f 64 e % 64 from w64_mod _ 6 (by omega), hmb, hsl]
        have hback : xr (sl % 64) (W7 k 2 f 64 e % 64) = m := by
          rw [show sl % 64 = sl from by omega, hsl, xr_back _ _ (by omega)]
        have MK2 := hid (MK.out k e heb)
        have MD2 := MD.out k sl e ⟨by omega, by omega⟩ heb
        rw [hback] at MD2
        obtain ⟨tv, htv⟩ : ∃ tv, tv = W7 k 2 f sl e % 256 := ⟨_, rfl⟩
        rw [← htv] at MD2 HI2
        replace MD2 := hid MD2
        clear htv hback hsl MD MK HI hk hslb
        by_cases htt : tv = t
        · rw [if_pos (HI2.2 htt)] at ho
          subst ho
          have HT2 := hid htt
          subst htt
          clear HI2 HT2
          have KY := hid KE
          clear KE
          go_enter Try.func9, Try.ntmps9
          go_wp2_with fail
          have CA := Ce.made (w := w) (l := [.int .i64 r.e, .int .u64 r.p.a, .int .u64 r.p.b, .int .u64 r.c.a, .int .u64 r.c.b, .int .u64 r.n.a, .int .u64 r.n.b]) (T := 27) (g := w.heap.size) rfl
          replace CA := CA.alloc (.cells #[.int .i64 f.a, .int .i64 f.p, .int .i64 f.ta, .int .i64 f.tp] 30)
          have CF := Ce.made (w := (w.alloc (.cells #[.int .i64 r.e, .int .u64 r.p.a, .int .u64 r.p.b, .int .u64 r.c.a, .int .u64 r.c.b, .int .u64 r.n.a, .int .u64 r.n.b] 27))) (l := [.int .i64 f.a, .int .i64 f.p, .int .i64 f.ta, .int .i64 f.tp]) (T := 30) (g := w.heap.size + 1) (by simp)
          have B : Below w.heap.size w ((w.alloc (.cells #[.int .i64 r.e, .int .u64 r.p.a, .int .u64 r.p.b, .int .u64 r.c.a, .int .u64 r.c.b, .int .u64 r.n.a, .int .u64 r.n.b] 27)).alloc (.cells #[.int .i64 f.a, .int .i64 f.p, .int .i64 f.ta, .int .i64 f.tp] 30)) := (((Below.refl w.heap.size w).alloc (by first | exact Nat.le_refl _ | (simp; done) | (simp; omega)) (.cells #[.int .i64 r.e, .int .u64 r.p.a, .int .u64 r.p.b, .int .u64 r.c.a, .int .u64 r.c.b, .int .u64 r.n.a, .int .u64 r.n.b] 27)).alloc (by first | exact Nat.le_refl _ | (simp; done) | (simp; omega)) (.cells #[.int .i64 f.a, .int .i64 f.p, .int .i64 f.ta, .int .i64 f.tp] 30))
          generalize (w.alloc (.cells #[.int .i64 r.e, .int .u64 r.p.a, .int .u64 r.p.b, .int .u64 r.c.a, .int .u64 r.c.b, .int .u64 r.n.a, .int .u64 r.n.b] 27)).alloc (.cells #[.int .i64 f.a, .int .i64 f.p, .int .i64 f.ta, .int .i64 f.tp] 30) = w1 at *
          generalize w.heap.size + 1 = F at *
          generalize hK : w.heap.size = A at *
          refine (shapeOf_any 2 256 _ (by exact .inr ⟨rfl, rfl⟩)).mono ?_
          rintro e' w2 ⟨rfl, hb⟩
          replace B := B.trans (hb.mono (Nat.le_of_lt CA.1))
          replace CA := CA.below hb
          replace CF := CF.below hb
          clear hb
          rw [shV2]
          obtain ⟨kA, qA, zA⟩ := id CA
          have cA0 := qA 0 _ rfl
          have cA1 := qA 1 _ rfl
          have cA2 := qA 2 _ rfl
          have cA3 := qA 3 _ rfl
          have cA4 := qA 4 _ rfl
          have cA5 := qA 5 _ rfl
          have cA6 := qA 6 _ rfl
          clear qA zA
          obtain ⟨kF, qF, zF⟩ := id CF
          have cF0 := qF 0 _ rfl
          have cF1 := qF 1 _ rfl
          have cF2 := qF 2 _ rfl
          have cF3 := qF 3 _ rfl
          clear qF zF
          go_wp2_with fail
          clear kA cA0 cA1 cA2 cA3 cA4 cA5 cA6
          clear kF cF0 cF1 cF2 cF3
          have CS := Ce.made (w := w2) (l := [.int .u64 14, .int .u64 2, .int .u64 8, .int .u64 6, .int .u64 0, .int .u64 8]) (T := 50) (g := w2.heap.size) rfl
          replace B := B.alloc (Nat.le_of_lt CA.1) (.cells #[.int .u64 14, .int .u64 2, .int .u64 8, .int .u64 6, .int .u64 0, .int .u64 8] 50)
          replace CA := CA.alloc (.cells #[.int .u64 14, .int .u64 2, .int .u64 8, .int .u64 6, .int .u64 0, .int .u64 8] 50)
          replace CF := CF.alloc (.cells #[.int .u64 14, .int .u64 2, .int .u64 8, .int .u64 6, .int .u64 0, .int .u64 8] 50)
          generalize w2.alloc (.cells #[.int .u64 14, .int .u64 2, .int .u64 8, .int .u64 6, .int .u64 0, .int .u64 8] 50) = w3 at *
          generalize w2.heap.size = S at *
          obtain ⟨kA, qA, zA⟩ := id CA
          have cA0 := qA 0 _ rfl
          have cA1 := qA 1 _ rfl
          have cA2 := qA 2 _ rfl
          have cA3 := qA 3 _ rfl
          have cA4 := qA 4 _ rfl
          have cA5 := qA 5 _ rfl
          have cA6 := qA 6 _ rfl
          clear qA zA
          obtain ⟨kF, qF, zF⟩ := id CF
          have cF0 := qF 0 _ rfl
          have cF1 := qF 1 _ rfl
          have cF2 := qF 2 _ rfl
          have cF3 := qF 3 _ rfl
          clear qF zF
          obtain ⟨kS, qS, zS⟩ := id CS
          have cS0 := qS 0 _ rfl
          have cS1 := qS 1 _ rfl
          have cS2 := qS 2 _ rfl
          have cS3 := qS 3 _ rfl
          have cS4 := qS 4 _ rfl
          have cS5 := qS 5 _ rfl
          clear qS zS
          go_wp2_with fail
          refine (BY.out _).mono ?_
          rintro e' w4 ⟨rfl, hb⟩
          clear kA cA0 cA1 cA2 cA3 cA4 cA5 cA6
          clear kF cF0 cF1 cF2 cF3
          clear kS cS0 cS1 cS2 cS3 cS4 cS5
          replace B := B.trans (hb.mono (Nat.le_of_lt CA.1))
          replace CA := CA.below hb
          replace CF := CF.below hb
          replace CS := CS.below hb
          clear hb
          obtain ⟨kA, qA, zA⟩ := id CA
          have cA0 := qA 0 _ rfl
          have cA1 := qA 1 _ rfl
          have cA2 := qA 2 _ rfl
          have cA3 := qA 3 _ rfl
          have cA4 := qA 4 _ rfl
          have cA5 := qA 5 _ rfl
          have cA6 := qA 6 _ rfl
          clear qA zA
          obtain ⟨kF, qF, zF⟩ := id CF
          have cF0 := qF 0 _ rfl
          have cF1 := qF 1 _ rfl
          have cF2 := qF 2 _ rfl
          have cF3 := qF 3 _ rfl
          clear qF zF
          obtain ⟨kS, qS, zS⟩ := id CS
          have cS0 := qS 0 _ rfl
          have cS1 := qS 1 _ rfl
          have cS2 := qS 2 _ rfl
          have cS3 := qS 3 _ rfl
          have cS4 := qS 4 _ rfl
          have cS5 := qS 5 _ rfl
          clear qS zS
          go_wp2_with fail
          refine (AP.out _).mono ?_
          rintro e' w5 ⟨rfl, hb⟩
          replace B := B.trans (hb.mono (Nat.le_of_lt CA.1))
          replace CA := CA.below hb
          replace CF := CF.below hb
          replace CS := CS.below hb
          clear hb
          clear kA cA0 cA1 cA2 cA3 cA4 cA5 cA6
          clear kF cF0 cF1 cF2 cF3
          clear kS cS0 cS1 cS2 cS3 cS4 cS5
          obtain ⟨kA, qA, zA⟩ := id CA
          have cA0 := qA 0 _ rfl
          have cA1 := qA 1 _ rfl
          have cA2 := qA 2 _ rfl
          have cA3 := qA 3 _ rfl
          have cA4 := qA 4 _ rfl
          have cA5 := qA 5 _ rfl
          have cA6 := qA 6 _ rfl
          clear qA zA
          obtain ⟨kF, qF, zF⟩ := id CF
          have cF0 := qF 0 _ rfl
          have cF1 := qF 1 _ rfl
          have cF2 := qF 2 _ rfl
          have cF3 := qF 3 _ rfl
          clear qF zF
          obtain ⟨kS, qS, zS⟩ := id CS
          have cS0 := qS 0 _ rfl
          have cS1 := qS 1 _ rfl
          have cS2 := qS 2 _ rfl
          have cS3 := qS 3 _ rfl
          have cS4 := qS 4 _ rfl
          have cS5 := qS 5 _ rfl
          clear qS zS
          go_wp2_with fail
          clear kA cA0 cA1 cA2 cA3 cA4 cA5 cA6
          clear kF cF0 cF1 cF2 cF3
          clear kS cS0 cS1 cS2 cS3 cS4 cS5
          have CG := Ce.made (w := w5) (l := [.int .i64 e, .int .i64 m, .int .i64 tv]) (T := 54) (g := w5.heap.size) rfl
          replace B := B.alloc (Nat.le_of_lt CA.1) (.cells #[.int .i64 e, .int .i64 m, .int .i64 tv] 54)
          replace CA := CA.alloc (.cells #[.int .i64 e, .int .i64 m, .int .i64 tv] 54)
          replace CF := CF.alloc (.cells #[.int .i64 e, .int .i64 m, .int .i64 tv] 54)
          replace CS := CS.alloc (.cells #[.int .i64 e, .int .i64 m, .int .i64 tv] 54)
          generalize w5.alloc (.cells #[.int .i64 e, .int .i64 m, .int .i64 tv] 54) = w6 at *
          generalize w5.heap.size = G at *
          obtain ⟨kA, qA, zA⟩ := id CA
          have cA0 := qA 0 _ rfl
          have cA1 := qA 1 _ rfl
          have cA2 := qA 2 _ rfl
          have cA3 := qA 3 _ rfl
          have cA4 := qA 4 _ rfl
          have cA5 := qA 5 _ rfl
          have cA6 := qA 6 _ rfl
          clear qA zA
          obtain ⟨kF, qF, zF⟩ := id CF
          have cF0 := qF 0 _ rfl
          have cF1 := qF 1 _ rfl
          have cF2 := qF 2 _ rfl
          have cF3 := qF 3 _ rfl
          clear qF zF
          obtain ⟨kS, qS, zS⟩ := id CS
          have cS0 := qS 0 _ rfl
          have cS1 := qS 1 _ rfl
          have cS2 := qS 2 _ rfl
          have cS3 := qS 3 _ rfl
          have cS4 := qS 4 _ rfl
          have cS5 := qS 5 _ rfl
          clear qS zS
          obtain ⟨kG, qG, zG⟩ := id CG
          have cG0 := qG 0 _ rfl
          have cG1 := qG 1 _ rfl
          have cG2 := qG 2 _ rfl
          clear qG zG
          go_wp2_with fail
          refine (KY.out _).mono ?_
          rintro e' w7 ⟨rfl, hb⟩
          replace B := B.trans (hb.mono (Nat.le_of_lt CA.1))
          replace CA := CA.below hb
          replace CF := CF.below hb
          replace CS := CS.below hb
          replace CG := CG.below hb
          clear hb
          clear kA cA0 cA1 cA2 cA3 cA4 cA5 cA6
          clear kF cF0 cF1 cF2 cF3
          clear kS cS0 cS1 cS2 cS3 cS4 cS5
          clear kG cG0 cG1 cG2
          obtain ⟨kA, qA, zA⟩ := id CA
          have cA0 := qA 0 _ rfl
          have cA1 := qA 1 _ rfl
          have cA2 := qA 2 _ rfl
          have cA3 := qA 3 _ rfl
          have cA4 := qA 4 _ rfl
          have cA5 := qA 5 _ rfl
          have cA6 := qA 6 _ rfl
          clear qA zA
          obtain ⟨kF, qF, zF⟩ := id CF
          have cF0 := qF 0 _ rfl
          have cF1 := qF 1 _ rfl
          have cF2 := qF 2 _ rfl
          have cF3 := qF 3 _ rfl
          clear qF zF
          obtain ⟨kS, qS, zS⟩ := id CS
          have cS0 := qS 0 _ rfl
          have cS1 := qS 1 _ rfl
          have cS2 := qS 2 _ rfl
          have cS3 := qS 3 _ rfl
          have cS4 := qS 4 _ rfl
          have cS5 := qS 5 _ rfl
          clear qS zS
          obtain ⟨kG, qG, zG⟩ := id CG
          have cG0 := qG 0 _ rfl
          have cG1 := qG 1 _ rfl
          have cG2 := qG 2 _ rfl
          clear qG zG
          go_wp2_with fail
          clear kA cA0 cA1 cA2 cA3 cA4 cA5 cA6
          clear kF cF0 cF1 cF2 cF3
          clear kS cS0 cS1 cS2 cS3 cS4 cS5
          clear kG cG0 cG1 cG2
          have CD := Ce.made (w := w7) (l := [.int .u64 k.a, .int .u64 k.b]) (T := 25) (g := w7.heap.size) rfl
          replace B := B.alloc (Nat.le_of_lt CA.1) (.cells #[.int .u64 k.a, .int .u64 k.b] 25)
          replace CA := CA.alloc (.cells #[.int .u64 k.a, .int .u64 k.b] 25)
          replace CF := CF.alloc (.cells #[.int .u64 k.a, .int .u64 k.b] 25)
          replace CS := CS.alloc (.cells #[.int .u64 k.a, .int .u64 k.b] 25)
          replace CG := CG.alloc (.cells #[.int .u64 k.a, .int .u64 k.b] 25)
          generalize w7.alloc (.cells #[.int .u64 k.a, .int .u64 k.b] 25) = w8 at *
          generalize w7.heap.size = D at *
          obtain ⟨kA, qA, zA⟩ := id CA
          have cA0 := qA 0 _ rfl
          have cA1 := qA 1 _ rfl
          have cA2 := qA 2 _ rfl
          have cA3 := qA 3 _ rfl
          have cA4 := qA 4 _ rfl
          have cA5 := qA 5 _ rfl
          have cA6 := qA 6 _ rfl
          clear qA zA
          obtain ⟨kF, qF, zF⟩ := id CF
          have cF0 := qF 0 _ rfl
          have cF1 := qF 1 _ rfl
          have cF2 := qF 2 _ rfl
          have cF3 := qF 3 _ rfl
          clear qF zF
          obtain ⟨kS, qS, zS⟩ := id CS
          have cS0 := qS 0 _ rfl
          have cS1 := qS 1 _ rfl
          have cS2 := qS 2 _ rfl
          have cS3 := qS 3 _ rfl
          have cS4 := qS 4 _ rfl
          have cS5 := qS 5 _ rfl
          clear qS zS
          obtain ⟨kG, qG, zG⟩ := id CG
          have cG0 := qG 0 _ rfl
          have cG1 := qG 1 _ rfl
          have cG2 := qG 2 _ rfl
          clear qG zG
          obtain ⟨kD, qD, zD⟩ := id CD
          have cD0 := qD 0 _ rfl
          have cD1 := qD 1 _ rfl
          clear qD zD
          go_region_held3 (fun w' => w'.cell? ⟨F, 0, none⟩ = some (.int .i64 f.a) ∧ w'.cell? ⟨F, 1, none⟩ = some (.int .i64 f.p) ∧ w'.cell? ⟨F, 2, none⟩ = some (.int .i64 f.ta) ∧ w'.cell? ⟨F, 3, none⟩ = some (.int .i64 f.tp) ∧ w'.cell? ⟨S, 0, none⟩ = some (.int .u64 14) ∧ w'.cell? ⟨S, 1, none⟩ = some (.int .u64 2) ∧ w'.cell? ⟨S, 2, none⟩ = some (.int .u64 8) ∧ w'.cell? ⟨S, 3, none⟩ = some (.int .u64 6) ∧ w'.cell? ⟨S, 4, none⟩ = some (.int .u64 0) ∧ w'.cell? ⟨S, 5, none⟩ = some (.int .u64 8) ∧ w'.cell? ⟨G, 0, none⟩ = some (.int .i64 e) ∧ w'.cell? ⟨G, 1, none⟩ = some (.int .i64 m) ∧ w'.cell? ⟨G, 2, none⟩ = some (.int .i64 tv) ∧ w'.cell? ⟨D, 0, none⟩ = some (.int .u64 k.a) ∧ w'.cell? ⟨D, 1, none⟩ = some (.int .u64 k.b) ∧ F < w'.heap.size ∧ S < w'.heap.size ∧ G < w'.heap.size ∧ D < w'.heap.size ∧ A < w'.heap.size ∧ Below A w w')
            (first
              | (go_split_ands; refine ⟨?_, ?_, ?_, ?_, ?_, ?_, ?_, ?_, ?_, ?_, ?_, ?_, ?_, ?_, ?_, ?_, ?_, ?_, ?_, ?_, ?_⟩; exact (hb5.cell (p := ⟨F, 0, none⟩) (by assumption)).trans (by assumption); exact (hb5.cell (p := ⟨F, 1, none⟩) (by assumption)).trans (by assumption); exact (hb5.cell (p := ⟨F, 2, none⟩) (by assumption)).trans (by assumption); exact (hb5.cell (p := ⟨F, 3, none⟩) (by assumption)).trans (by assumption); exact (hb5.cell (p := ⟨S, 0, none⟩) (by assumption)).trans (by assumption); exact (hb5.cell (p := ⟨S, 1, none⟩) (by assumption)).trans (by assumption); exact (hb5.cell (p := ⟨S, 2, none⟩) (by assumption)).trans (by assumption); exact (hb5.cell (p := ⟨S, 3, none⟩) (by assumption)).trans (by assumption); exact (hb5.cell (p := ⟨S, 4, none⟩) (by assumption)).trans (by assumption); exact (hb5.cell (p := ⟨S, 5, none⟩) (by assumption)).trans (by assumption); exact (hb5.cell (p := ⟨G, 0, none⟩) (by assumption)).trans (by assumption); exact (hb5.cell (p := ⟨G, 1, none⟩) (by assumption)).trans (by assumption); exact (hb5.cell (p := ⟨G, 2, none⟩) (by assumption)).trans (by assumption); exact (hb5.cell (p := ⟨D, 0, none⟩) (by assumption)).trans (by assumption); exact (hb5.cell (p := ⟨D, 1, none⟩) (by assumption)).trans (by assumption); exact Nat.lt_of_lt_of_le (by assumption) hb5.size; exact Nat.lt_of_lt_of_le (by assumption) hb5.size; exact Nat.lt_of_lt_of_le (by assumption) hb5.size; exact Nat.lt_of_lt_of_le (by assumption) hb5.size; exact Nat.lt_of_lt_of_le (by assumption) hb5.size; exact Below.trans (by assumption) (hb5.mono (by first | exact Nat.le_of_lt (by assumption) | exact Below.size (by assumption))))
              | (refine ⟨?_, ?_, ?_, ?_, ?_, ?_, ?_, ?_, ?_, ?_, ?_, ?_, ?_, ?_, ?_, ?_, ?_, ?_, ?_, ?_, ?_⟩; assumption; assumption; assumption; assumption; assumption; assumption; assumption; assumption; assumption; assumption; assumption; assumption; assumption; assumption; assumption; assumption; assumption; assumption; assumption; assumption; exact Below.drew (by assumption))
              | (go_split_ands; refine ⟨?_, ?_, ?_, ?_, ?_, ?_, ?_, ?_, ?_, ?_, ?_, ?_, ?_, ?_, ?_, ?_, ?_, ?_, ?_, ?_, ?_⟩; exact (World.cell?_alloc_lt _ _ ⟨F, 0, none⟩ (by assumption)).trans (by assumption); exact (World.cell?_alloc_lt _ _ ⟨F, 1, none⟩ (by assumption)).trans (by assumption); exact (World.cell?_alloc_lt _ _ ⟨F, 2, none⟩ (by assumption)).trans (by assumption); exact (World.cell?_alloc_lt _ _ ⟨F, 3, none⟩ (by assumption)).trans (by assumption); exact (World.cell?_alloc_lt _ _ ⟨S, 0, none⟩ (by assumption)).trans (by assumption); exact (World.cell?_alloc_lt _ _ ⟨S, 1, none⟩ (by assumption)).trans (by assumption); exact (World.cell?_alloc_lt _ _ ⟨S, 2, none⟩ (by assumption)).trans (by assumption); exact (World.cell?_alloc_lt _ _ ⟨S, 3, none⟩ (by assumption)).trans (by assumption); exact (World.cell?_alloc_lt _ _ ⟨S, 4, none⟩ (by assumption)).trans (by assumption); exact (World.cell?_alloc_lt _ _ ⟨S, 5, none⟩ (by assumption)).trans (by assumption); exact (World.cell?_alloc_lt _ _ ⟨G, 0, none⟩ (by assumption)).trans (by assumption); exact (World.cell?_alloc_lt _ _ ⟨G, 1, none⟩ (by assumption)).trans (by assumption); exact (World.cell?_alloc_lt _ _ ⟨G, 2, none⟩ (by assumption)).trans (by assumption); exact (World.cell?_alloc_lt _ _ ⟨D, 0, none⟩ (by assumption)).trans (by assumption); exact (World.cell?_alloc_lt _ _ ⟨D, 1, none⟩ (by assumption)).trans (by assumption); (simp; omega); (simp; omega); (simp; omega); (simp; omega); (simp; omega); exact Below.alloc (by assumption) (by first | exact Nat.le_of_lt (by assumption) | exact Below.size (by assumption)) _)
              | (go_split_ands; refine ⟨?_, ?_, ?_, ?_, ?_, ?_, ?_, ?_, ?_, ?_, ?_, ?_, ?_, ?_, ?_, ?_, ?_, ?_, ?_, ?_, ?_⟩; exact (World.cell?_alloc_lt _ _ ⟨F, 0, none⟩ (by assumption)).trans (by assumption); exact (World.cell?_alloc_lt _ _ ⟨F, 1, none⟩ (by assumption)).trans (by assumption); exact (World.cell?_alloc_lt _ _ ⟨F, 2, none⟩ (by assumption)).trans (by assumption); exact (World.cell?_alloc_lt _ _ ⟨F, 3, none⟩ (by assumption)).trans (by assumption); exact (World.cell?_alloc_lt _ _ ⟨S, 0, none⟩ (by assumption)).trans (by assumption); exact (World.cell?_alloc_lt _ _ ⟨S, 1, none⟩ (by assumption)).trans (by assumption); exact (World.cell?_alloc_lt _ _ ⟨S, 2, none⟩ (by assumption)).trans (by assumption); exact (World.cell?_alloc_lt _ _ ⟨S, 3, none⟩ (by assumption)).trans (by assumption); exact (World.cell?_alloc_lt _ _ ⟨S, 4, none⟩ (by assumption)).trans (by assumption); exact (World.cell?_alloc_lt _ _ ⟨S, 5, none⟩ (by assumption)).trans (by assumption); exact (World.cell?_alloc_lt _ _ ⟨G, 0, none⟩ (by assumption)).trans (by assumption); exact (World.cell?_alloc_lt _ _ ⟨G, 1, none⟩ (by assumption)).trans (by assumption); exact (World.cell?_alloc_lt _ _ ⟨G, 2, none⟩ (by assumption)).trans (by assumption); exact (World.cell?_alloc_lt _ _ ⟨D, 0, none⟩ (by assumption)).trans (by assumption); exact (World.cell?_alloc_lt _ _ ⟨D, 1, none⟩ (by assumption)).trans (by assumption); exact Nat.lt_of_lt_of_le (by assumption) (Below.drew (Below.alloc (Below.refl _ _) (Nat.le_refl _) _)).size; exact Nat.lt_of_lt_of_le (by assumption) (Below.drew (Below.alloc (Below.refl _ _) (Nat.le_refl _) _)).size; exact Nat.lt_of_lt_of_le (by assumption) (Below.drew (Below.alloc (Below.refl _ _) (Nat.le_refl _) _)).size; exact Nat.lt_of_lt_of_le (by assumption) (Below.drew (Below.alloc (Below.refl _ _) (Nat.le_refl _) _)).size; exact Nat.lt_of_lt_of_le (by assumption) (Below.drew (Below.alloc (Below.refl _ _) (Nat.le_refl _) _)).size; exact Below.drew (Below.alloc (by assumption) (Below.size (by assumption)) _))
              | (go_split_ands; refine ⟨?_, ?_, ?_, ?_, ?_, ?_, ?_, ?_, ?_, ?_, ?_, ?_, ?_, ?_, ?_, ?_, ?_, ?_, ?_, ?_, ?_⟩; assumption; assumption; assumption; assumption; assumption; assumption; assumption; assumption; assumption; assumption; assumption; assumption; assumption; assumption; assumption; assumption; assumption; assumption; assumption; assumption; assumption)
              | go_keep)
            ((first
              | (go_at_call 26
                 go_split_ands
                 with_reducible refine (MK2.out _).mono ?_
                 rintro e w5 ⟨rfl, hb5⟩)
              | (go_at_call 25
                 go_split_ands
                 with_reducible refine (cutI 8 6 _ _ ?_).mono ?_
                 · decide
                 rintro e w5 ⟨rfl, hb5⟩)))
          go_split_ands
          go_wp2_with fail
          go_region_held3 (fun w' => w'.cell? ⟨F, 0, none⟩ = some (.int .i64 f.a) ∧ w'.cell? ⟨F, 1, none⟩ = some (.int .i64 f.p) ∧ w'.cell? ⟨F, 2, none⟩ = some (.int .i64 f.ta) ∧ w'.cell? ⟨F, 3, none⟩ = some (.int .i64 f.tp) ∧ w'.cell? ⟨S, 0, none⟩ = some (.int .u64 14) ∧ w'.cell? ⟨S, 1, none⟩ = some (.int .u64 2) ∧ w'.cell? ⟨S, 2, none⟩ = some (.int .u64 8) ∧ w'.cell? ⟨S, 3, none⟩ = some (.int .u64 6) ∧ w'.cell? ⟨S, 4, none⟩ = some (.int .u64 0) ∧ w'.cell? ⟨S, 5, none⟩ = some (.int .u64 8) ∧ w'.cell? ⟨G, 0, none⟩ = some (.int .i64 e) ∧ w'.cell? ⟨G, 1, none⟩ = some (.int .i64 m) ∧ w'.cell? ⟨G, 2, none⟩ = some (.int .i64 tv) ∧ w'.cell? ⟨D, 0, none⟩ = some (.int .u64 k.a) ∧ w'.cell? ⟨D, 1, none⟩ = some (.int .u64 k.b) ∧ F < w'.heap.size ∧ S < w'.heap.size ∧ G < w'.heap.size ∧ D < w'.heap.size ∧ A < w'.heap.size ∧ Below A w w')
            (first
              | (go_split_ands; refine ⟨?_, ?_, ?_, ?_, ?_, ?_, ?_, ?_, ?_, ?_, ?_, ?_, ?_, ?_, ?_, ?_, ?_, ?_, ?_, ?_, ?_⟩; exact (hb5.cell (p := ⟨F, 0, none⟩) (by assumption)).trans (by assumption); exact (hb5.cell (p := ⟨F, 1, none⟩) (by assumption)).trans (by assumption); exact (hb5.cell (p := ⟨F, 2, none⟩) (by assumption)).trans (by assumption); exact (hb5.cell (p := ⟨F, 3, none⟩) (by assumption)).trans (by assumption); exact (hb5.cell (p := ⟨S, 0, none⟩) (by assumption)).trans (by assumption); exact (hb5.cell (p := ⟨S, 1, none⟩) (by assumption)).trans (by assumption); exact (hb5.cell (p := ⟨S, 2, none⟩) (by assumption)).trans (by assumption); exact (hb5.cell (p := ⟨S, 3, none⟩) (by assumption)).trans (by assumption); exact (hb5.cell (p := ⟨S, 4, none⟩) (by assumption)).trans (by assumption); exact (hb5.cell (p := ⟨S, 5, none⟩) (by assumption)).trans (by assumption); exact (hb5.cell (p := ⟨G, 0, none⟩) (by assumption)).trans (by assumption); exact (hb5.cell (p := ⟨G, 1, none⟩) (by assumption)).trans (by assumption); exact (hb5.cell (p := ⟨G, 2, none⟩) (by assumption)).trans (by assumption); exact (hb5.cell (p := ⟨D, 0, none⟩) (by assumption)).trans (by assumption); exact (hb5.cell (p := ⟨D, 1, none⟩) (by assumption)).trans (by assumption); exact Nat.lt_of_lt_of_le (by assumption) hb5.size; exact Nat.lt_of_lt_of_le (by assumption) hb5.size; exact Nat.lt_of_lt_of_le (by assumption) hb5.size; exact Nat.lt_of_lt_of_le (by assumption) hb5.size; exact Nat.lt_of_lt_of_le (by assumption) hb5.size; exact Below.trans (by assumption) (hb5.mono (by first | exact Nat.le_of_lt (by assumption) | exact Below.size (by assumption))))
              | (refine ⟨?_, ?_, ?_, ?_, ?_, ?_, ?_, ?_, ?_, ?_, ?_, ?_, ?_, ?_, ?_, ?_, ?_, ?_, ?_, ?_, ?_⟩; assumption; assumption; assumption; assumption; assumption; assumption; assumption; assumption; assumption; assumption; assumption; assumption; assumption; assumption; assumption; assumption; assumption; assumption; assumption; assumption; exact Below.drew (by assumption))
              | (go_split_ands; refine ⟨?_, ?_, ?_, ?_, ?_, ?_, ?_, ?_, ?_, ?_, ?_, ?_, ?_, ?_, ?_, ?_, ?_, ?_, ?_, ?_, ?_⟩; exact (World.cell?_alloc_lt _ _ ⟨F, 0, none⟩ (by assumption)).trans (by assumption); exact (World.cell?_alloc_lt _ _ ⟨F, 1, none⟩ (by assumption)).trans (by assumption); exact (World.cell?_alloc_lt _ _ ⟨F, 2, none⟩ (by assumption)).trans (by assumption); exact (World.cell?_alloc_lt _ _ ⟨F, 3, none⟩ (by assumption)).trans (by assumption); exact (World.cell?_alloc_lt _ _ ⟨S, 0, none⟩ (by assumption)).trans (by assumption); exact (World.cell?_alloc_lt _ _ ⟨S, 1, none⟩ (by assumption)).trans (by assumption); exact (World.cell?_alloc_lt _ _ ⟨S, 2, none⟩ (by assumption)).trans (by assumption); exact (World.cell?_alloc_lt _ _ ⟨S, 3, none⟩ (by assumption)).trans (by assumption); exact (World.cell?_alloc_lt _ _ ⟨S, 4, none⟩ (by assumption)).trans (by assumption); exact (World.cell?_alloc_lt _ _ ⟨S, 5, none⟩ (by assumption)).trans (by assumption); exact (World.cell?_alloc_lt _ _ ⟨G, 0, none⟩ (by assumption)).trans (by assumption); exact (World.cell?_alloc_lt _ _ ⟨G, 1, none⟩ (by assumption)).trans (by assumption); exact (World.cell?_alloc_lt _ _ ⟨G, 2, none⟩ (by assumption)).trans (by assumption); exact (World.cell?_alloc_lt _ _ ⟨D, 0, none⟩ (by assumption)).trans (by assumption); exact (World.cell?_alloc_lt _ _ ⟨D, 1, none⟩ (by assumption)).trans (by assumption); (simp; omega); (simp; omega); (simp; omega); (simp; omega); (simp; omega); exact Below.alloc (by assumption) (by first | exact Nat.le_of_lt (by assumption) | exact Below.size (by assumption)) _)
              | (go_split_ands; refine ⟨?_, ?_, ?_, ?_, ?_, ?_, ?_, ?_, ?_, ?_, ?_, ?_, ?_, ?_, ?_, ?_, ?_, ?_, ?_, ?_, ?_⟩; exact (World.cell?_alloc_lt _ _ ⟨F, 0, none⟩ (by assumption)).trans (by assumption); exact (World.cell?_alloc_lt _ _ ⟨F, 1, none⟩ (by assumption)).trans (by assumption); exact (World.cell?_alloc_lt _ _ ⟨F, 2, none⟩ (by assumption)).trans (by assumption); exact (World.cell?_alloc_lt _ _ ⟨F, 3, none⟩ (by assumption)).trans (by assumption); exact (World.cell?_alloc_lt _ _ ⟨S, 0, none⟩ (by assumption)).trans (by assumption); exact (World.cell?_alloc_lt _ _ ⟨S, 1, none⟩ (by assumption)).trans (by assumption); exact (World.cell?_alloc_lt _ _ ⟨S, 2, none⟩ (by assumption)).trans (by assumption); exact (World.cell?_alloc_lt _ _ ⟨S, 3, none⟩ (by assumption)).trans (by assumption); exact (World.cell?_alloc_lt _ _ ⟨S, 4, none⟩ (by assumption)).trans (by assumption); exact (World.cell?_alloc_lt _ _ ⟨S, 5, none⟩ (by assumption)).trans (by assumption); exact (World.cell?_alloc_lt _ _ ⟨G, 0, none⟩ (by assumption)).trans (by assumption); exact (World.cell?_alloc_lt _ _ ⟨G, 1, none⟩ (by assumption)).trans (by assumption); exact (World.cell?_alloc_lt _ _ ⟨G, 2, none⟩ (by assumption)).trans (by assumption); exact (World.cell?_alloc_lt _ _ ⟨D, 0, none⟩ (by assumption)).trans (by assumption); exact (World.cell?_alloc_lt _ _ ⟨D, 1, none⟩ (by assumption)).trans (by assumption); exact Nat.lt_of_lt_of_le (by assumption) (Below.drew (Below.alloc (Below.refl _ _) (Nat.le_refl _) _)).size; exact Nat.lt_of_lt_of_le (by assumption) (Below.drew (Below.alloc (Below.refl _ _) (Nat.le_refl _) _)).size; exact Nat.lt_of_lt_of_le (by assumption) (Below.drew (Below.alloc (Below.refl _ _) (Nat.le_refl _) _)).size; exact Nat.lt_of_lt_of_le (by assumption) (Below.drew (Below.alloc (Below.refl _ _) (Nat.le_refl _) _)).size; exact Nat.lt_of_lt_of_le (by assumption) (Below.drew (Below.alloc (Below.refl _ _) (Nat.le_refl _) _)).size; exact Below.drew (Below.alloc (by assumption) (Below.size (by assumption)) _))
              | (go_split_ands; refine ⟨?_, ?_, ?_, ?_, ?_, ?_, ?_, ?_, ?_, ?_, ?_, ?_, ?_, ?_, ?_, ?_, ?_, ?_, ?_, ?_, ?_⟩; assumption; assumption; assumption; assumption; assumption; assumption; assumption; assumption; assumption; assumption; assumption; assumption; assumption; assumption; assumption; assumption; assumption; assumption; assumption; assumption; assumption)
              | go_keep)
            ((first
              | (go_at_call 20
                 go_split_ands
                 with_reducible refine (MD2.out _).mono ?_
                 rintro e w5 ⟨rfl, hb5⟩)))
          go_split_ands
          go_wp2_with fail
          refine bodyPost_ret (by simp [results, Try.results9, go_sem]) rfl ⟨rfl, ?_⟩
          first | assumption | (rw [hK]; assumption)
        · rw [if_neg (fun h => htt (HI2.1 h))] at ho
          subst ho
          have hb1 : (tv == t) = false := by simp [htt]
          clear HI2
          have KY := hid KE
          clear KE
          go_enter Try.func9, Try.ntmps9
          go_wp2_with fail
          have CA := Ce.made (w := w) (l := [.int .i64 r.e, .int .u64 r.p.a, .int .u64 r.p.b, .int .u64 r.c.a, .int .u64 r.c.b, .int .u64 r.n.a, .int .u64 r.n.b]) (T := 27) (g := w.heap.size) rfl
          replace CA := CA.alloc (.cells #[.int .i64 f.a, .int .i64 f.p, .int .i64 f.ta, .int .i64 f.tp] 30)
          have CF := Ce.made (w := (w.alloc (.cells #[.int .i64 r.e, .int .u64 r.p.a, .int .u64 r.p.b, .int .u64 r.c.a, .int .u64 r.c.b, .int .u64 r.n.a, .int .u64 r.n.b] 27))) (l := [.int .i64 f.a, .int .i64 f.p, .int .i64 f.ta, .int .i64 f.tp]) (T := 30) (g := w.heap.size + 1) (by simp)
          have B : Below w.heap.size w ((w.alloc (.cells #[.int .i64 r.e, .int .u64 r.p.a, .int .u64 r.p.b, .int .u64 r.c.a, .int .u64 r.c.b, .int .u64 r.n.a, .int .u64 r.n.b] 27)).alloc (.cells #[.int .i64 f.a, .int .i64 f.p, .int .i64 f.ta, .int .i64 f.tp] 30)) := (((Below.refl w.heap.size w).alloc (by first | exact Nat.le_refl _ | (simp; done) | (simp; omega)) (.cells #[.int .i64 r.e, .int .u64 r.p.a, .int .u64 r.p.b, .int .u64 r.c.a, .int .u64 r.c.b, .int .u64 r.n.a, .int .u64 r.n.b] 27)).alloc (by first | exact Nat.le_refl _ | (simp; done) | (simp; omega)) (.cells #[.int .i64 f.a, .int .i64 f.p, .int .i64 f.ta, .int .i64 f.tp] 30))
          generalize (w.alloc (.cells #[.int .i64 r.e, .int .u64 r.p.a, .int .u64 r.p.b, .int .u64 r.c.a, .int .u64 r.c.b, .int .u64 r.n.a, .int .u64 r.n.b] 27)).alloc (.cells #[.int .i64 f.a, .int .i64 f.p, .int .i64 f.ta, .int .i64 f.tp] 30) = w1 at *
          generalize w.heap.size + 1 = F at *
          generalize hK : w.heap.size = A at *
          refine (shapeOf_any 2 256 _ (by exact .inr ⟨rfl, rfl⟩)).mono ?_
          rintro e' w2 ⟨rfl, hb⟩
          replace B := B.trans (hb.mono (Nat.le_of_lt CA.1))
          replace CA := CA.below hb
          replace CF := CF.below hb
          clear hb
          rw [shV2]
          obtain ⟨kA, qA, zA⟩ := id CA
          have cA0 := qA 0 _ rfl
          have cA1 := qA 1 _ rfl
          have cA2 := qA 2 _ rfl
          have cA3 := qA 3 _ rfl
          have cA4 := qA 4 _ rfl
          have cA5 := qA 5 _ rfl
          have cA6 := qA 6 _ rfl
          clear qA zA
          obtain ⟨kF, qF, zF⟩ := id CF
          have cF0 := qF 0 _ rfl
          have cF1 := qF 1 _ rfl
          have cF2 := qF 2 _ rfl
          have cF3 := qF 3 _ rfl
          clear qF zF
          go_wp2_with fail
          clear kA cA0 cA1 cA2 cA3 cA4 cA5 cA6
          clear kF cF0 cF1 cF2 cF3
          have CS := Ce.made (w := w2) (l := [.int .u64 14, .int .u64 2, .int .u64 8, .int .u64 6, .int .u64 0, .int .u64 8]) (T := 50) (g := w2.heap.size) rfl
          replace B := B.alloc (Nat.le_of_lt CA.1) (.cells #[.int .u64 14, .int .u64 2, .int .u64 8, .int .u64 6, .int .u64 0, .int .u64 8] 50)
          replace CA := CA.alloc (.cells #[.int .u64 14, .int .u64 2, .int .u64 8, .int .u64 6, .int .u64 0, .int .u64 8] 50)
          replace CF := CF.alloc (.cells #[.int .u64 14, .int .u64 2, .int .u64 8, .int .u64 6, .int .u64 0, .int .u64 8] 50)
          generalize w2.alloc (.cells #[.int .u64 14, .int .u64 2, .int .u64 8, .int .u64 6, .int .u64 0, .int .u64 8] 50) = w3 at *
          generalize w2.heap.size = S at *
          obtain ⟨kA, qA, zA⟩ := id CA
          have cA0 := qA 0 _ rfl
          have cA1 := qA 1 _ rfl
          have cA2 := qA 2 _ rfl
          have cA3 := qA 3 _ rfl
          have cA4 := qA 4 _ rfl
          have cA5 := qA 5 _ rfl
          have cA6 := qA 6 _ rfl
          clear qA zA
          obtain ⟨kF, qF, zF⟩ := id CF
          have cF0 := qF 0 _ rfl
          have cF1 := qF 1 _ rfl
          have cF2 := qF 2 _ rfl
          have cF3 := qF 3 _ rfl
          clear qF zF
          obtain ⟨kS, qS, zS⟩ := id CS
          have cS0 := qS 0 _ rfl
          have cS1 := qS 1 _ rfl
          have cS2 := qS 2 _ rfl
          have cS3 := qS 3 _ rfl
          have cS4 := qS 4 _ rfl
          have cS5 := qS 5 _ rfl
          clear qS zS
          go_wp2_with fail
          refine (BY.out _).mono ?_
          rintro e' w4 ⟨rfl, hb⟩
          clear kA cA0 cA1 cA2 cA3 cA4 cA5 cA6
          clear kF cF0 cF1 cF2 cF3
          clear kS cS0 cS1 cS2 cS3 cS4 cS5
          replace B := B.trans (hb.mono (Nat.le_of_lt CA.1))
          replace CA := CA.below hb
          replace CF := CF.below hb
          replace CS := CS.below hb
          clear hb
          obtain ⟨kA, qA, zA⟩ := id CA
          have cA0 := qA 0 _ rfl
          have cA1 := qA 1 _ rfl
          have cA2 := qA 2 _ rfl
          have cA3 := qA 3 _ rfl
          have cA4 := qA 4 _ rfl
          have cA5 := qA 5 _ rfl
          have cA6 := qA 6 _ rfl
          clear qA zA
          obtain ⟨kF, qF, zF⟩ := id CF
          have cF0 := qF 0 _ rfl
          have cF1 := qF 1 _ rfl
          have cF2 := qF 2 _ rfl
          have cF3 := qF 3 _ rfl
          clear qF zF
          obtain ⟨kS, qS, zS⟩ := id CS
          have cS0 := qS 0 _ rfl
          have cS1 := qS 1 _ rfl
          have cS2 := qS 2 _ rfl
          have cS3 := qS 3 _ rfl
          have cS4 := qS 4 _ rfl
          have cS5 := qS 5 _ rfl
          clear qS zS
          go_wp2_with fail
          refine (AP.out _).mono ?_
          rintro e' w5 ⟨rfl, hb⟩
          replace B := B.trans (hb.mono (Nat.le_of_lt CA.1))
          replace CA := CA.below hb
          replace CF := CF.below hb
          replace CS := CS.below hb
          clear hb
          clear kA cA0 cA1 cA2 cA3 cA4 cA5 cA6
          clear kF cF0 cF1 cF2 cF3
          clear kS cS0 cS1 cS2 cS3 cS4 cS5
          obtain ⟨kA, qA, zA⟩ := id CA
          have cA0 := qA 0 _ rfl
          have cA1 := qA 1 _ rfl
          have cA2 := qA 2 _ rfl
          have cA3 := qA 3 _ rfl
          have cA4 := qA 4 _ rfl
          have cA5 := qA 5 _ rfl
          have cA6 := qA 6 _ rfl
          clear qA zA
          obtain ⟨kF, qF, zF⟩ := id CF
          have cF0 := qF 0 _ rfl
          have cF1 := qF 1 _ rfl
          have cF2 := qF 2 _ rfl
          have cF3 := qF 3 _ rfl
          clear qF zF
          obtain ⟨kS, qS, zS⟩ := id CS
          have cS0 := qS 0 _ rfl
          have cS1 := qS 1 _ rfl
          have cS2 := qS 2 _ rfl
          have cS3 := qS 3 _ rfl
          have cS4 := qS 4 _ rfl
          have cS5 := qS 5 _ rfl
          clear qS zS
          go_wp2_with fail
          clear kA cA0 cA1 cA2 cA3 cA4 cA5 cA6
          clear kF cF0 cF1 cF2 cF3
          clear kS cS0 cS1 cS2 cS3 cS4 cS5
          have CG := Ce.made (w := w5) (l := [.int .i64 e, .int .i64 m, .int .i64 t]) (T := 54) (g := w5.heap.size) rfl
          replace B := B.alloc (Nat.le_of_lt CA.1) (.cells #[.int .i64 e, .int .i64 m, .int .i64 t] 54)
          replace CA := CA.alloc (.cells #[.int .i64 e, .int .i64 m, .int .i64 t] 54)
          replace CF := CF.alloc (.cells #[.int .i64 e, .int .i64 m, .int .i64 t] 54)
          replace CS := CS.alloc (.cells #[.int .i64 e, .int .i64 m, .int .i64 t] 54)
          generalize w5.alloc (.cells #[.int .i64 e, .int .i64 m, .int .i64 t] 54) = w6 at *
          generalize w5.heap.size = G at *
          obtain ⟨kA, qA, zA⟩ := id CA
          have cA0 := qA 0 _ rfl
          have cA1 := qA 1 _ rfl
          have cA2 := qA 2 _ rfl
          have cA3 := qA 3 _ rfl
          have cA4 := qA 4 _ rfl
          have cA5 := qA 5 _ rfl
          have cA6 := qA 6 _ rfl
          clear qA zA
          obtain ⟨kF, qF, zF⟩ := id CF
          have cF0 := qF 0 _ rfl
          have cF1 := qF 1 _ rfl
          have cF2 := qF 2 _ rfl
          have cF3 := qF 3 _ rfl
          clear qF zF
          obtain ⟨kS, qS, zS⟩ := id CS
          have cS0 := qS 0 _ rfl
          have cS1 := qS 1 _ rfl
          have cS2 := qS 2 _ rfl
          have cS3 := qS 3 _ rfl
          have cS4 := qS 4 _ rfl
          have cS5 := qS 5 _ rfl
          clear qS zS
          obtain ⟨kG, qG, zG⟩ := id CG
          have cG0 := qG 0 _ rfl
          have cG1 := qG 1 _ rfl
          have cG2 := qG 2 _ rfl
          clear qG zG
          go_wp2_with fail
          refine (KY.out _).mono ?_
          rintro e' w7 ⟨rfl, hb⟩
          replace B := B.trans (hb.mono (Nat.le_of_lt CA.1))
          replace CA := CA.below hb
          replace CF := CF.below hb
          replace CS := CS.below hb
          replace CG := CG.below hb
          clear hb
          clear kA cA0 cA1 cA2 cA3 cA4 cA5 cA6
          clear kF cF0 cF1 cF2 cF3
          clear kS cS0 cS1 cS2 cS3 cS4 cS5
          clear kG cG0 cG1 cG2
          obtain ⟨kA, qA, zA⟩ := id CA
          have cA0 := qA 0 _ rfl
          have cA1 := qA 1 _ rfl
          have cA2 := qA 2 _ rfl
          have cA3 := qA 3 _ rfl
          have cA4 := qA 4 _ rfl
          have cA5 := qA 5 _ rfl
          have cA6 := qA 6 _ rfl
          clear qA zA
          obtain ⟨kF, qF, zF⟩ := id CF
          have cF0 := qF 0 _ rfl
          have cF1 := qF 1 _ rfl
          have cF2 := qF 2 _ rfl
          have cF3 := qF 3 _ rfl
          clear qF zF
          obtain ⟨kS, qS, zS⟩ := id CS
          have cS0 := qS 0 _ rfl
          have cS1 := qS 1 _ rfl
          have cS2 := qS 2 _ rfl
          have cS3 := qS 3 _ rfl
          have cS4 := qS 4 _ rfl
          have cS5 := qS 5 _ rfl
          clear qS zS
          obtain ⟨kG, qG, zG⟩ := id CG
          have cG0 := qG 0 _ rfl
          have cG1 := qG 1 _ rfl
          have cG2 := qG 2 _ rfl
          clear qG zG
          go_wp2_with fail
          clear kA cA0 cA1 cA2 cA3 cA4 cA5 cA6
          clear kF cF0 cF1 cF2 cF3
          clear kS cS0 cS1 cS2 cS3 cS4 cS5
          clear kG cG0 cG1 cG2
          have CD := Ce.made (w := w7) (l := [.int .u64 k.a, .int .u64 k.b]) (T := 25) (g := w7.heap.size) rfl
          replace B := B.alloc (Nat.le_of_lt CA.1) (.cells #[.int .u64 k.a, .int .u64 k.b] 25)
          replace CA := CA.alloc (.cells #[.int .u64 k.a, .int .u64 k.b] 25)
          replace CF := CF.alloc (.cells #[.int .u64 k.a, .int .u64 k.b] 25)
          replace CS := CS.alloc (.cells #[.int .u64 k.a, .int .u64 k.b] 25)
          replace CG := CG.alloc (.cells #[.int .u64 k.a, .int .u64 k.b] 25)
          generalize w7.alloc (.cells #[.int .u64 k.a, .int .u64 k.b] 25) = w8 at *
          generalize w7.heap.size = D at *
          obtain ⟨kA, qA, zA⟩ := id CA
          have cA0 := qA 0 _ rfl
          have cA1 := qA 1 _ rfl
          have cA2 := qA 2 _ rfl
          have cA3 := qA 3 _ rfl
          have cA4 := qA 4 _ rfl
          have cA5 := qA 5 _ rfl
          have cA6 := qA 6 _ rfl
          clear qA zA
          obtain ⟨kF, qF, zF⟩ := id CF
          have cF0 := qF 0 _ rfl
          have cF1 := qF 1 _ rfl
          have cF2 := qF 2 _ rfl
          have cF3 := qF 3 _ rfl
          clear qF zF
          obtain ⟨kS, qS, zS⟩ := id CS
          have cS0 := qS 0 _ rfl
          have cS1 := qS 1 _ rfl
          have cS2 := qS 2 _ rfl
          have cS3 := qS 3 _ rfl
          have cS4 := qS 4 _ rfl
          have cS5 := qS 5 _ rfl
          clear qS zS
          obtain ⟨kG, qG, zG⟩ := id CG
          have cG0 := qG 0 _ rfl
          have cG1 := qG 1 _ rfl
          have cG2 := qG 2 _ rfl
          clear qG zG
          obtain ⟨kD, qD, zD⟩ := id CD
          have cD0 := qD 0 _ rfl
          have cD1 := qD 1 _ rfl
          clear qD zD
          go_region_held3 (fun w' => w'.cell? ⟨F, 0, none⟩ = some (.int .i64 f.a) ∧ w'.cell? ⟨F, 1, none⟩ = some (.int .i64 f.p) ∧ w'.cell? ⟨F, 2, none⟩ = some (.int .i64 f.ta) ∧ w'.cell? ⟨F, 3, none⟩ = some (.int .i64 f.tp) ∧ w'.cell? ⟨S, 0, none⟩ = some (.int .u64 14) ∧ w'.cell? ⟨S, 1, none⟩ = some (.int .u64 2) ∧ w'.cell? ⟨S, 2, none⟩ = some (.int .u64 8) ∧ w'.cell? ⟨S, 3, none⟩ = some (.int .u64 6) ∧ w'.cell? ⟨S, 4, none⟩ = some (.int .u64 0) ∧ w'.cell? ⟨S, 5, none⟩ = some (.int .u64 8) ∧ w'.cell? ⟨G, 0, none⟩ = some (.int .i64 e) ∧ w'.cell? ⟨G, 1, none⟩ = some (.int .i64 m) ∧ w'.cell? ⟨G, 2, none⟩ = some (.int .i64 t) ∧ w'.cell? ⟨D, 0, none⟩ = some (.int .u64 k.a) ∧ w'.cell? ⟨D, 1, none⟩ = some (.int .u64 k.b) ∧ F < w'.heap.size ∧ S < w'.heap.size ∧ G < w'.heap.size ∧ D < w'.heap.size ∧ A < w'.heap.size ∧ Below A w w')
            (first
              | (go_split_ands; refine ⟨?_, ?_, ?_, ?_, ?_, ?_, ?_, ?_, ?_, ?_, ?_, ?_, ?_, ?_, ?_, ?_, ?_, ?_, ?_, ?_, ?_⟩; exact (hb5.cell (p := ⟨F, 0, none⟩) (by assumption)).trans (by assumption); exact (hb5.cell (p := ⟨F, 1, none⟩) (by assumption)).trans (by assumption); exact (hb5.cell (p := ⟨F, 2, none⟩) (by assumption)).trans (by assumption); exact (hb5.cell (p := ⟨F, 3, none⟩) (by assumption)).trans (by assumption); exact (hb5.cell (p := ⟨S, 0, none⟩) (by assumption)).trans (by assumption); exact (hb5.cell (p := ⟨S, 1, none⟩) (by assumption)).trans (by assumption); exact (hb5.cell (p := ⟨S, 2, none⟩) (by assumption)).trans (by assumption); exact (hb5.cell (p := ⟨S, 3, none⟩) (by assumption)).trans (by assumption); exact (hb5.cell (p := ⟨S, 4, none⟩) (by assumption)).trans (by assumption); exact (hb5.cell (p := ⟨S, 5, none⟩) (by assumption)).trans (by assumption); exact (hb5.cell (p := ⟨G, 0, none⟩) (by assumption)).trans (by assumption); exact (hb5.cell (p := ⟨G, 1, none⟩) (by assumption)).trans (by assumption); exact (hb5.cell (p := ⟨G, 2, none⟩) (by assumption)).trans (by assumption); exact (hb5.cell (p := ⟨D, 0, none⟩) (by assumption)).trans (by assumption); exact (hb5.cell (p := ⟨D, 1, none⟩) (by assumption)).trans (by assumption); exact Nat.lt_of_lt_of_le (by assumption) hb5.size; exact Nat.lt_of_lt_of_le (by assumption) hb5.size; exact Nat.lt_of_lt_of_le (by assumption) hb5.size; exact Nat.lt_of_lt_of_le (by assumption) hb5.size; exact Nat.lt_of_lt_of_le (by assumption) hb5.size; exact Below.trans (by assumption) (hb5.mono (by first | exact Nat.le_of_lt (by assumption) | exact Below.size (by assumption))))
              | (refine ⟨?_, ?_, ?_, ?_, ?_, ?_, ?_, ?_, ?_, ?_, ?_, ?_, ?_, ?_, ?_, ?_, ?_, ?_, ?_, ?_, ?_⟩; assumption; assumption; assumption; assumption; assumption; assumption; assumption; assumption; assumption; assumption; assumption; assumption; assumption; assumption; assumption; assumption; assumption; assumption; assumption; assumption; exact Below.drew (by assumption))
              | (go_split_ands; refine ⟨?_, ?_, ?_, ?_, ?_, ?_, ?_, ?_, ?_, ?_, ?_, ?_, ?_, ?_, ?_, ?_, ?_, ?_, ?_, ?_, ?_⟩; exact (World.cell?_alloc_lt _ _ ⟨F, 0, none⟩ (by assumption)).trans (by assumption); exact (World.cell?_alloc_lt _ _ ⟨F, 1, none⟩ (by assumption)).trans (by assumption); exact (World.cell?_alloc_lt _ _ ⟨F, 2, none⟩ (by assumption)).trans (by assumption); exact (World.cell?_alloc_lt _ _ ⟨F, 3, none⟩ (by assumption)).trans (by assumption); exact (World.cell?_alloc_lt _ _ ⟨S, 0, none⟩ (by assumption)).trans (by assumption); exact (World.cell?_alloc_lt _ _ ⟨S, 1, none⟩ (by assumption)).trans (by assumption); exact (World.cell?_alloc_lt _ _ ⟨S, 2, none⟩ (by assumption)).trans (by assumption); exact (World.cell?_alloc_lt _ _ ⟨S, 3, none⟩ (by assumption)).trans (by assumption); exact (World.cell?_alloc_lt _ _ ⟨S, 4, none⟩ (by assumption)).trans (by assumption); exact (World.cell?_alloc_lt _ _ ⟨S, 5, none⟩ (by assumption)).trans (by assumption); exact (World.cell?_alloc_lt _ _ ⟨G, 0, none⟩ (by assumption)).trans (by assumption); exact (World.cell?_alloc_lt _ _ ⟨G, 1, none⟩ (by assumption)).trans (by assumption); exact (World.cell?_alloc_lt _ _ ⟨G, 2, none⟩ (by assumption)).trans (by assumption); exact (World.cell?_alloc_lt _ _ ⟨D, 0, none⟩ (by assumption)).trans (by assumption); exact (World.cell?_alloc_lt _ _ ⟨D, 1, none⟩ (by assumption)).trans (by assumption); (simp; omega); (simp; omega); (simp; omega); (simp; omega); (simp; omega); exact Below.alloc (by assumption) (by first | exact Nat.le_of_lt (by assumption) | exact Below.size (by assumption)) _)
              | (go_split_ands; refine ⟨?_, ?_, ?_, ?_, ?_, ?_, ?_, ?_, ?_, ?_, ?_, ?_, ?_, ?_, ?_, ?_, ?_, ?_, ?_, ?_, ?_⟩; exact (World.cell?_alloc_lt _ _ ⟨F, 0, none⟩ (by assumption)).trans (by assumption); exact (World.cell?_alloc_lt _ _ ⟨F, 1, none⟩ (by assumption)).trans (by assumption); exact (World.cell?_alloc_lt _ _ ⟨F, 2, none⟩ (by assumption)).trans (by assumption); exact (World.cell?_alloc_lt _ _ ⟨F, 3, none⟩ (by assumption)).trans (by assumption); exact (World.cell?_alloc_lt _ _ ⟨S, 0, none⟩ (by assumption)).trans (by assumption); exact (World.cell?_alloc_lt _ _ ⟨S, 1, none⟩ (by assumption)).trans (by assumption); exact (World.cell?_alloc_lt _ _ ⟨S, 2, none⟩ (by assumption)).trans (by assumption); exact (World.cell?_alloc_lt _ _ ⟨S, 3, none⟩ (by assumption)).trans (by assumption); exact (World.cell?_alloc_lt _ _ ⟨S, 4, none⟩ (by assumption)).trans (by assumption); exact (World.cell?_alloc_lt _ _ ⟨S, 5, none⟩ (by assumption)).trans (by assumption); exact (World.cell?_alloc_lt _ _ ⟨G, 0, none⟩ (by assumption)).trans (by assumption); exact (World.cell?_alloc_lt _ _ ⟨G, 1, none⟩ (by assumption)).trans (by assumption); exact (World.cell?_alloc_lt _ _ ⟨G, 2, none⟩ (by assumption)).trans (by assumption); exact (World.cell?_alloc_lt _ _ ⟨D, 0, none⟩ (by assumption)).trans (by assumption); exact (World.cell?_alloc_lt _ _ ⟨D, 1, none⟩ (by assumption)).trans (by assumption); exact Nat.lt_of_lt_of_le (by assumption) (Below.drew (Below.alloc (Below.refl _ _) (Nat.le_refl _) _)).size; exact Nat.lt_of_lt_of_le (by assumption) (Below.drew (Below.alloc (Below.refl _ _) (Nat.le_refl _) _)).size; exact Nat.lt_of_lt_of_le (by assumption) (Below.drew (Below.alloc (Below.refl _ _) (Nat.le_refl _) _)).size; exact Nat.lt_of_lt_of_le (by assumption) (Below.drew (Below.alloc (Below.refl _ _) (Nat.le_refl _) _)).size; exact Nat.lt_of_lt_of_le (by assumption) (Below.drew (Below.alloc (Below.refl _ _) (Nat.le_refl _) _)).size; exact Below.drew (Below.alloc (by assumption) (Below.size (by assumption)) _))
              | (go_split_ands; refine ⟨?_, ?_, ?_, ?_, ?_, ?_, ?_, ?_, ?_, ?_, ?_, ?_, ?_, ?_, ?_, ?_, ?_, ?_, ?_, ?_, ?_⟩; assumption; assumption; assumption; assumption; assumption; assumption; assumption; assumption; assumption; assumption; assumption; assumption; assumption; assumption; assumption; assumption; assumption; assumption; assumption; assumption; assumption)
              | go_keep)
            ((first
              | (go_at_call 26
                 go_split_ands
                 with_reducible refine (MK2.out _).mono ?_
                 rintro e w5 ⟨rfl, hb5⟩)
              | (go_at_call 25
                 go_split_ands
                 with_reducible refine (cutI 8 6 _ _ ?_).mono ?_
                 · decide
                 rintro e w5 ⟨rfl, hb5⟩)))
          go_split_ands
          go_wp2_with fail
          go_region_held3 (fun w' => w'.cell? ⟨F, 0, none⟩ = some (.int .i64 f.a) ∧ w'.cell? ⟨F, 1, none⟩ = some (.int .i64 f.p) ∧ w'.cell? ⟨F, 2, none⟩ = some (.int .i64 f.ta) ∧ w'.cell? ⟨F, 3, none⟩ = some (.int .i64 f.tp) ∧ w'.cell? ⟨S, 0, none⟩ = some (.int .u64 14) ∧ w'.cell? ⟨S, 1, none⟩ = some (.int .u64 2) ∧ w'.cell? ⟨S, 2, none⟩ = some (.int .u64 8) ∧ w'.cell? ⟨S, 3, none⟩ = some (.int .u64 6) ∧ w'.cell? ⟨S, 4, none⟩ = some (.int .u64 0) ∧ w'.cell? ⟨S, 5, none⟩ = some (.int .u64 8) ∧ w'.cell? ⟨G, 0, none⟩ = some (.int .i64 e) ∧ w'.cell? ⟨G, 1, none⟩ = some (.int .i64 m) ∧ w'.cell? ⟨G, 2, none⟩ = some (.int .i64 t) ∧ w'.cell? ⟨D, 0, none⟩ = some (.int .u64 k.a) ∧ w'.cell? ⟨D, 1, none⟩ = some (.int .u64 k.b) ∧ F < w'.heap.size ∧ S < w'.heap.size ∧ G < w'.heap.size ∧ D < w'.heap.size ∧ A < w'.heap.size ∧ Below A w w')
            (first
              | (go_split_ands; refine ⟨?_, ?_, ?_, ?_, ?_, ?_, ?_, ?_, ?_, ?_, ?_, ?_, ?_, ?_, ?_, ?_, ?_, ?_, ?_, ?_, ?_⟩; exact (hb5.cell (p := ⟨F, 0, none⟩) (by assumption)).trans (by assumption); exact (hb5.cell (p := ⟨F, 1, none⟩) (by assumption)).trans (by assumption); exact (hb5.cell (p := ⟨F, 2, none⟩) (by assumption)).trans (by assumption); exact (hb5.cell (p := ⟨F, 3, none⟩) (by assumption)).trans (by assumption); exact (hb5.cell (p := ⟨S, 0, none⟩) (by assumption)).trans (by assumption); exact (hb5.cell (p := ⟨S, 1, none⟩) (by assumption)).trans (by assumption); exact (hb5.cell (p := ⟨S, 2, none⟩) (by assumption)).trans (by assumption); exact (hb5.cell (p := ⟨S, 3, none⟩) (by assumption)).trans (by assumption); exact (hb5.cell (p := ⟨S, 4, none⟩) (by assumption)).trans (by assumption); exact (hb5.cell (p := ⟨S, 5, none⟩) (by assumption)).trans (by assumption); exact (hb5.cell (p := ⟨G, 0, none⟩) (by assumption)).trans (by assumption); exact (hb5.cell (p := ⟨G, 1, none⟩) (by assumption)).trans (by assumption); exact (hb5.cell (p := ⟨G, 2, none⟩) (by assumption)).trans (by assumption); exact (hb5.cell (p := ⟨D, 0, none⟩) (by assumption)).trans (by assumption); exact (hb5.cell (p := ⟨D, 1, none⟩) (by assumption)).trans (by assumption); exact Nat.lt_of_lt_of_le (by assumption) hb5.size; exact Nat.lt_of_lt_of_le (by assumption) hb5.size; exact Nat.lt_of_lt_of_le (by assumption) hb5.size; exact Nat.lt_of_lt_of_le (by assumption) hb5.size; exact Nat.lt_of_lt_of_le (by assumption) hb5.size; exact Below.trans (by assumption) (hb5.mono (by first | exact Nat.le_of_lt (by assumption) | exact Below.size (by assumption))))
              | (refine ⟨?_, ?_, ?_, ?_, ?_, ?_, ?_, ?_, ?_, ?_, ?_, ?_, ?_, ?_, ?_, ?_, ?_, ?_, ?_, ?_, ?_⟩; assumption; assumption; assumption; assumption; assumption; assumption; assumption; assumption; assumption; assumption; assumption; assumption; assumption; assumption; assumption; assumption; assumption; assumption; assumption; assumption; exact Below.drew (by assumption))
              | (go_split_ands; refine ⟨?_, ?_, ?_, ?_, ?_, ?_, ?_, ?_, ?_, ?_, ?_, ?_, ?_, ?_, ?_, ?_, ?_, ?_, ?_, ?_, ?_⟩; exact (World.cell?_alloc_lt _ _ ⟨F, 0, none⟩ (by assumption)).trans (by assumption); exact (World.cell?_alloc_lt _ _ ⟨F, 1, none⟩ (by assumption)).trans (by assumption); exact (World.cell?_alloc_lt _ _ ⟨F, 2, none⟩ (by assumption)).trans (by assumption); exact (World.cell?_alloc_lt _ _ ⟨F, 3, none⟩ (by assumption)).trans (by assumption); exact (World.cell?_alloc_lt _ _ ⟨S, 0, none⟩ (by assumption)).trans (by assumption); exact (World.cell?_alloc_lt _ _ ⟨S, 1, none⟩ (by assumption)).trans (by assumption); exact (World.cell?_alloc_lt _ _ ⟨S, 2, none⟩ (by assumption)).trans (by assumption); exact (World.cell?_alloc_lt _ _ ⟨S, 3, none⟩ (by assumption)).trans (by assumption); exact (World.cell?_alloc_lt _ _ ⟨S, 4, none⟩ (by assumption)).trans (by assumption); exact (World.cell?_alloc_lt _ _ ⟨S, 5, none⟩ (by assumption)).trans (by assumption); exact (World.cell?_alloc_lt _ _ ⟨G, 0, none⟩ (by assumption)).trans (by assumption); exact (World.cell?_alloc_lt _ _ ⟨G, 1, none⟩ (by assumption)).trans (by assumption); exact (World.cell?_alloc_lt _ _ ⟨G, 2, none⟩ (by assumption)).trans (by assumption); exact (World.cell?_alloc_lt _ _ ⟨D, 0, none⟩ (by assumption)).trans (by assumption); exact (World.cell?_alloc_lt _ _ ⟨D, 1, none⟩ (by assumption)).trans (by assumption); (simp; omega); (simp; omega); (simp; omega); (simp; omega); (simp; omega); exact Below.alloc (by assumption) (by first | exact Nat.le_of_lt (by assumption) | exact Below.size (by assumption)) _)
              | (go_split_ands; refine ⟨?_, ?_, ?_, ?_, ?_, ?_, ?_, ?_, ?_, ?_, ?_, ?_, ?_, ?_, ?_, ?_, ?_, ?_, ?_, ?_, ?_⟩; exact (World.cell?_alloc_lt _ _ ⟨F, 0, none⟩ (by assumption)).trans (by assumption); exact (World.cell?_alloc_lt _ _ ⟨F, 1, none⟩ (by assumption)).trans (by assumption); exact (World.cell?_alloc_lt _ _ ⟨F, 2, none⟩ (by assumption)).trans (by assumption); exact (World.cell?_alloc_lt _ _ ⟨F, 3, none⟩ (by assumption)).trans (by assumption); exact (World.cell?_alloc_lt _ _ ⟨S, 0, none⟩ (by assumption)).trans (by assumption); exact (World.cell?_alloc_lt _ _ ⟨S, 1, none⟩ (by assumption)).trans (by assumption); exact (World.cell?_alloc_lt _ _ ⟨S, 2, none⟩ (by assumption)).trans (by assumption); exact (World.cell?_alloc_lt _ _ ⟨S, 3, none⟩ (by assumption)).trans (by assumption); exact (World.cell?_alloc_lt _ _ ⟨S, 4, none⟩ (by assumption)).trans (by assumption); exact (World.cell?_alloc_lt _ _ ⟨S, 5, none⟩ (by assumption)).trans (by assumption); exact (World.cell?_alloc_lt _ _ ⟨G, 0, none⟩ (by assumption)).trans (by assumption); exact (World.cell?_alloc_lt _ _ ⟨G, 1, none⟩ (by assumption)).trans (by assumption); exact (World.cell?_alloc_lt _ _ ⟨G, 2, none⟩ (by assumption)).trans (by assumption); exact (World.cell?_alloc_lt _ _ ⟨D, 0, none⟩ (by assumption)).trans (by assumption); exact (World.cell?_alloc_lt _ _ ⟨D, 1, none⟩ (by assumption)).trans (by assumption); exact Nat.lt_of_lt_of_le (by assumption) (Below.drew (Below.alloc (Below.refl _ _) (Nat.le_refl _) _)).size; exact Nat.lt_of_lt_of_le (by assumption) (Below.drew (Below.alloc (Below.refl _ _) (Nat.le_refl _) _)).size; exact Nat.lt_of_lt_of_le (by assumption) (Below.drew (Below.alloc (Below.refl _ _) (Nat.le_refl _) _)).size; exact Nat.lt_of_lt_of_le (by assumption) (Below.drew (Below.alloc (Below.refl _ _) (Nat.le_refl _) _)).size; exact Nat.lt_of_lt_of_le (by assumption) (Below.drew (Below.alloc (Below.refl _ _) (Nat.le_refl _) _)).size; exact Below.drew (Below.alloc (by assumption) (Below.size (by assumption)) _))
              | (go_split_ands; refine ⟨?_, ?_, ?_, ?_, ?_, ?_, ?_, ?_, ?_, ?_, ?_, ?_, ?_, ?_, ?_, ?_, ?_, ?_, ?_, ?_, ?_⟩; assumption; assumption; assumption; assumption; assumption; assumption; assumption; assumption; assumption; assumption; assumption; assumption; assumption; assumption; assumption; assumption; assumption; assumption; assumption; assumption; assumption)
              | go_keep)
            ((first
              | (go_at_call 20
                 go_split_ands
                 with_reducible refine (MD2.out _).mono ?_
                 rintro e w5 ⟨rfl, hb5⟩)))
          go_split_ands
          go_wp2_with fail
          refine bodyPost_ret (by simp [results, Try.results9, go_sem]) rfl ⟨rfl, ?_⟩
          first | assumption | (rw [hK]; assumption)

end Go.Proofs.Ytfokkmemjkfifab
