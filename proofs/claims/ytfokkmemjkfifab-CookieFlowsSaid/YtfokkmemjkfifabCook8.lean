/- Cookies read, by the document. -/
import Derived.Test.YtfokkmemjkfifabCook7
namespace Go.Proofs.Ytfokkmemjkfifab
set_option linter.unusedVariables false
set_option linter.unusedSimpArgs false
open Go.RowKit Go.ChangeShapes Go.WideShapes Go.ChangeAt
set_option maxHeartbeats 2000000 in
theorem rread1 (r : Rg) (f : Fl) (c : Int) (hf : f.I) (hr : Ep r.e) (w : World) :
    Calls Try.prog 10 #[rgV r, .int .i64 1, flV f, .int .i64 c] w fun e' w' => e' = .returned (rdO (readC 4096 r 1 f c)) ∧ Below w.heap.size w w' := by
  have hkI : I64 1 := ⟨by omega, by omega⟩
  have KY := fun e w => rkey_any r e hr w
  have WD := fun k e he w => word_any k 1 f 64 e hf hkI ⟨by omega, by omega⟩ he w
  have CK := fun k x e hx he w => cook1 k 1 f x e hf rfl hx he w
  obtain ⟨o, ho⟩ : ∃ o, o = readC 4096 r 1 f c := ⟨_, rfl⟩
  rw [← ho]
  unfold readC at ho
  unfold rgV flV rdO kyO kyV at *
  replace KY := hid KY
  replace WD := hid WD
  replace CK := hid CK
  by_cases h0 : c < 0
  · rw [if_pos (Or.inl h0)] at ho
    subst ho
    go_enter Try.func10, Try.ntmps10
    go_wp2_with fail
    have CA := Ce.made (w := w) (l := [.int .i64 r.e, .int .u64 r.p.a, .int .u64 r.p.b, .int .u64 r.c.a, .int .u64 r.c.b, .int .u64 r.n.a, .int .u64 r.n.b]) (T := 27) (g := w.heap.size) rfl
    replace CA := CA.alloc (.cells #[.int .i64 f.a, .int .i64 f.p, .int .i64 f.ta, .int .i64 f.tp] 30)
    have CF := Ce.made (w := (w.alloc (.cells #[.int .i64 r.e, .int .u64 r.p.a, .int .u64 r.p.b, .int .u64 r.c.a, .int .u64 r.c.b, .int .u64 r.n.a, .int .u64 r.n.b] 27))) (l := [.int .i64 f.a, .int .i64 f.p, .int .i64 f.ta, .int .i64 f.tp]) (T := 30) (g := w.heap.size + 1) (by simp)
    have B : Below w.heap.size w ((w.alloc (.cells #[.int .i64 r.e, .int .u64 r.p.a, .int .u64 r.p.b, .int .u64 r.c.a, .int .u64 r.c.b, .int .u64 r.n.a, .int .u64 r.n.b] 27)).alloc (.cells #[.int .i64 f.a, .int .i64 f.p, .int .i64 f.ta, .int .i64 f.tp] 30)) := (((Below.refl w.heap.size w).alloc (by first | exact Nat.le_refl _ | (simp; done) | (simp; omega)) (.cells #[.int .i64 r.e, .int .u64 r.p.a, .int .u64 r.p.b, .int .u64 r.c.a, .int .u64 r.c.b, .int .u64 r.n.a, .int .u64 r.n.b] 27)).alloc (by first | exact Nat.le_refl _ | (simp; done) | (simp; omega)) (.cells #[.int .i64 f.a, .int .i64 f.p, .int .i64 f.ta, .int .i64 f.tp] 30))
    generalize (w.alloc (.cells #[.int .i64 r.e, .int .u64 r.p.a, .int .u64 r.p.b, .int .u64 r.c.a, .int .u64 r.c.b, .int .u64 r.n.a, .int .u64 r.n.b] 27)).alloc (.cells #[.int .i64 f.a, .int .i64 f.p, .int .i64 f.ta, .int .i64 f.tp] 30) = w1 at *
    generalize w.heap.size + 1 = F at *
    generalize hK : w.heap.size = A at *
    refine (bits_any 1 4096 _ (by exact .inl ⟨rfl, rfl⟩)).mono ?_
    rintro e' w2 ⟨rfl, rfl⟩
    obtain ⟨kA, qA, zA⟩ := id CA
    have cA0 := qA 0 _ rfl
    have cA1 := qA 1 _ rfl
    have cA2 := qA 2 _ rfl
    have cA3 := qA 3 _ rfl
    have cA4 := qA 4 _ rfl
    have cA5 := qA 5 _ rfl
    have cA6 := qA 6 _ rfl
    clear qA zA
    obtain ⟨kF, qF, zF⟩ := id CF
    have cF0 := qF 0 _ rfl
    have cF1 := qF 1 _ rfl
    have cF2 := qF 2 _ rfl
    have cF3 := qF 3 _ rfl
    clear qF zF
    go_wp2
    refine bodyPost_ret (by simp [results, Try.results10, go_sem]) rfl ⟨rfl, ?_⟩
    rw [hK]
    exact B
  · by_cases h1 : 1048576 ≤ c
    · rw [if_pos (Or.inr (by omega))] at ho
      subst ho
      have g0 : 0 ≤ c := by omega
      go_enter Try.func10, Try.ntmps10
      go_wp2_with fail
      have CA := Ce.made (w := w) (l := [.int .i64 r.e, .int .u64 r.p.a, .int .u64 r.p.b, .int .u64 r.c.a, .int .u64 r.c.b, .int .u64 r.n.a, .int .u64 r.n.b]) (T := 27) (g := w.heap.size) rfl
      replace CA := CA.alloc (.cells #[.int .i64 f.a, .int .i64 f.p, .int .i64 f.ta, .int .i64 f.tp] 30)
      have CF := Ce.made (w := (w.alloc (.cells #[.int .i64 r.e, .int .u64 r.p.a, .int .u64 r.p.b, .int .u64 r.c.a, .int .u64 r.c.b, .int .u64 r.n.a, .int .u64 r.n.b] 27))) (l := [.int .i64 f.a, .int .i64 f.p, .int .i64 f.ta, .int .i64 f.tp]) (T := 30) (g := w.heap.size + 1) (by simp)
      have B : Below w.heap.size w ((w.alloc (.cells #[.int .i64 r.e, .int .u64 r.p.a, .int .u64 r.p.b, .int .u64 r.c.a, .int .u64 r.c.b, .int .u64 r.n.a, .int .u64 r.n.b] 27)).alloc (.cells #[.int .i64 f.a, .int .i64 f.p, .int .i64 f.ta, .int .i64 f.tp] 30)) := (((Below.refl w.heap.size w).alloc (by first | exact Nat.le_refl _ | (simp; done) | (simp; omega)) (.cells #[.int .i64 r.e, .int .u64 r.p.a, .int .u64 r.p.b, .int .u64 r.c.a, .int .u64 r.c.b, .int .u64 r.n.a, .int .u64 r.n.b] 27)).alloc (by first | exact Nat.le_refl _ | (simp; done) | (simp; omega)) (.cells #[.int .i64 f.a, .int .i64 f.p, .int .i64 f.ta, .int .i64 f.tp] 30))
      generalize (w.alloc (.cells #[.int .i64 r.e, .int .u64 r.p.a, .int .u64 r.p.b, .int .u64 r.c.a, .int .u64 r.c.b, .int .u64 r.n.a, .int .u64 r.n.b] 27)).alloc (.cells #[.int .i64 f.a, .int .i64 f.p, .int .i64 f.ta, .int .i64 f.tp] 30) = w1 at *
      generalize w.heap.size + 1 = F at *
      generalize hK : w.heap.size = A at *
      refine (bits_any 1 4096 _ (by exact .inl ⟨rfl, rfl⟩)).mono ?_
      rintro e' w2 ⟨rfl, rfl⟩
      obtain ⟨kA, qA, zA⟩ := id CA
      have cA0 := qA 0 _ rfl
      have cA1 := qA 1 _ rfl
      have cA2 := qA 2 _ rfl
      have cA3 := qA 3 _ rfl
      have cA4 := qA 4 _ rfl
      have cA5 := qA 5 _ rfl
      have cA6 := qA 6 _ rfl
      clear qA zA
      obtain ⟨kF, qF, zF⟩ := id CF
      have cF0 := qF 0 _ rfl
      have cF1 := qF 1 _ rfl
      have cF2 := qF 2 _ rfl
      have cF3 := qF 3 _ rfl
      clear qF zF
      go_wp2
      refine bodyPost_ret (by simp [results, Try.results10, go_sem]) rfl ⟨rfl, ?_⟩
      rw [hK]
      exact B
    · rw [if_neg (by omega)] at ho
      have g0 : 0 ≤ c := by omega
      have g1 : ¬ 1048576 ≤ c := h1
      obtain ⟨e, he⟩ : ∃ e, e = c / (64 * 4096) := ⟨_, rfl⟩
      obtain ⟨m, hm⟩ : ∃ m, m = c / 4096 % 64 := ⟨_, rfl⟩
      have he' : c / 262144 = e := he.symm
      have hm' : bits .and .i64 (c / 4096) 63 = m := by rw [mand63, hm]
      have heb : I64 e := ⟨by omega, by omega⟩
      have heb4 : 0 ≤ e ∧ e < 4 := by omega
      unfold slotOf at ho
      rw [← he, ← hm] at ho
      have KE := KY.out e
      have hmb : 0 ≤ m ∧ m < 64 := by omega
      have HM := hid hm
      clear KY h1 he hm
      cases hk : keyOf r e with
      | none =>
        rw [hk] at ho KE
        subst ho
        have KY := hid KE
        clear KE
        go_enter Try.func10, Try.ntmps10
        go_wp2_with fail
        have CA := Ce.made (w := w) (l := [.int .i64 r.e, .int .u64 r.p.a, .int .u64 r.p.b, .int .u64 r.c.a, .int .u64 r.c.b, .int .u64 r.n.a, .int .u64 r.n.b]) (T := 27) (g := w.heap.size) rfl
        replace CA := CA.alloc (.cells #[.int .i64 f.a, .int .i64 f.p, .int .i64 f.ta, .int .i64 f.tp] 30)
        have CF := Ce.made (w := (w.alloc (.cells #[.int .i64 r.e, .int .u64 r.p.a, .int .u64 r.p.b, .int .u64 r.c.a, .int .u64 r.c.b, .int .u64 r.n.a, .int .u64 r.n.b] 27))) (l := [.int .i64 f.a, .int .i64 f.p, .int .i64 f.ta, .int .i64 f.tp]) (T := 30) (g := w.heap.size + 1) (by simp)
        have B : Below w.heap.size w ((w.alloc (.cells #[.int .i64 r.e, .int .u64 r.p.a, .int .u64 r.p.b, .int .u64 r.c.a, .int .u64 r.c.b, .int .u64 r.n.a, .int .u64 r.n.b] 27)).alloc (.cells #[.int .i64 f.a, .int .i64 f.p, .int .i64 f.ta, .int .i64 f.tp] 30)) := (((Below.refl w.heap.size w).alloc (by first | exact Nat.le_refl _ | (simp; done) | (simp; omega)) (.cells #[.int .i64 r.e, .int .u64 r.p.a, .int .u64 r.p.b, .int .u64 r.c.a, .int .u64 r.c.b, .int .u64 r.n.a, .int .u64 r.n.b] 27)).alloc (by first | exact Nat.le_refl _ | (simp; done) | (simp; omega)) (.cells #[.int .i64 f.a, .int .i64 f.p, .int .i64 f.ta, .int .i64 f.tp] 30))
        generalize (w.alloc (.cells #[.int .i64 r.e, .int .u64 r.p.a, .int .u64 r.p.b, .int .u64 r.c.a, .int .u64 r.c.b, .int .u64 r.n.a, .int .u64 r.n.b] 27)).alloc (.cells #[.int .i64 f.a, .int .i64 f.p, .int .i64 f.ta, .int .i64 f.tp] 30) = w1 at *
        generalize w.heap.size + 1 = F at *
        generalize hK : w.heap.size = A at *
        refine (bits_any 1 4096 _ (by exact .inl ⟨rfl, rfl⟩)).mono ?_
        rintro e' w2 ⟨rfl, rfl⟩
        obtain ⟨kA, qA, zA⟩ := id CA
        have cA0 := qA 0 _ rfl
        have cA1 := qA 1 _ rfl
        have cA2 := qA 2 _ rfl
        have cA3 := qA 3 _ rfl
        have cA4 := qA 4 _ rfl
        have cA5 := qA 5 _ rfl
        have cA6 := qA 6 _ rfl
        clear qA zA
        obtain ⟨kF, qF, zF⟩ := id CF
        have cF0 := qF 0 _ rfl
        have cF1 := qF 1 _ rfl
        have cF2 := qF 2 _ rfl
        have cF3 := qF 3 _ rfl
        clear qF zF
        go_wp2_with fail
        refine (KY.out _).mono ?_
        rintro e' w7 ⟨rfl, hb⟩
        replace B := B.trans (hb.mono (Nat.le_of_lt CA.1))
        replace CA := CA.below hb
        replace CF := CF.below hb
        clear hb
        clear kA cA0 cA1 cA2 cA3 cA4 cA5 cA6
        clear kF cF0 cF1 cF2 cF3
        obtain ⟨kA, qA, zA⟩ := id CA
        have cA0 := qA 0 _ rfl
        have cA1 := qA 1 _ rfl
        have cA2 := qA 2 _ rfl
        have cA3 := qA 3 _ rfl
        have cA4 := qA 4 _ rfl
        have cA5 := qA 5 _ rfl
        have cA6 := qA 6 _ rfl
        clear qA zA
        obtain ⟨kF, qF, zF⟩ := id CF
        have cF0 := qF 0 _ rfl
        have cF1 := qF 1 _ rfl
        have cF2 := qF 2 _ rfl
        have cF3 := qF 3 _ rfl
        clear qF zF
        go_wp2_with fail
        refine bodyPost_ret (by simp [results, Try.results10, go_sem]) rfl ⟨rfl, ?_⟩
        rw [hK]
        exact B.alloc (Nat.le_of_lt CA.1) _
      | some k =>
        rw [hk] at ho KE
        simp only at ho
        obtain ⟨wv, hwv⟩ : ∃ wv, wv = W7 k 1 f 64 e := ⟨_, rfl⟩
        have hU := W7_U k 1 f 64 e
        have WD2 := WD.out k e heb
        rw [← hwv] at ho hU WD2
        obtain ⟨sl, hsl⟩ : ∃ sl, sl = xr m (wv % 64) := ⟨_, rfl⟩
        rw [← hsl] at ho
        have hslb : 0 ≤ sl ∧ sl < 64 := by rw [hsl]; exact xr_bd _ _ ⟨by omega, by omega⟩ ⟨by omega, by omega⟩
        have ha : bits .and .u64 wv 63 = wv % 64 := uand wv 6 (by omega) hU
        have hx : bits .xor .i64 m (wv % 64) = sl := by rw [xor_nat m _ hmb ⟨by omega, by omega⟩, hsl]
        obtain ⟨hU1, hU2⟩ := hU
        replace WD2 := hid WD2
        have CK2 := CK.out k sl e hslb heb4
        obtain ⟨cv', hcv⟩ : ∃ cv', cv' = cok 4096 k 1 f sl e := ⟨_, rfl⟩
        rw [← hcv] at CK2 ho
        replace CK2 := hid CK2
        clear hcv hsl hwv WD CK hk hslb
        by_cases htt : cv' = c
        · rw [if_pos htt] at ho
          subst ho
          have hb1 : (cv' != c) = false := by simp [htt]
          replace htt := hid htt
          have KY := hid KE
          clear KE
          go_enter Try.func10, Try.ntmps10
          go_wp2_with fail
          have CA := Ce.made (w := w) (l := [.int .i64 r.e, .int .u64 r.p.a, .int .u64 r.p.b, .int .u64 r.c.a, .int .u64 r.c.b, .int .u64 r.n.a, .int .u64 r.n.b]) (T := 27) (g := w.heap.size) rfl
          replace CA := CA.alloc (.cells #[.int .i64 f.a, .int .i64 f.p, .int .i64 f.ta, .int .i64 f.tp] 30)
          have CF := Ce.made (w := (w.alloc (.cells #[.int .i64 r.e, .int .u64 r.p.a, .int .u64 r.p.b, .int .u64 r.c.a, .int .u64 r.c.b, .int .u64 r.n.a, .int .u64 r.n.b] 27))) (l := [.int .i64 f.a, .int .i64 f.p, .int .i64 f.ta, .int .i64 f.tp]) (T := 30) (g := w.heap.size + 1) (by simp)
          have B : Below w.heap.size w ((w.alloc (.cells #[.int .i64 r.e, .int .u64 r.p.a, .int .u64 r.p.b, .int .u64 r.c.a, .int .u64 r.c.b, .int .u64 r.n.a, .int .u64 r.n.b] 27)).alloc (.cells #[.int .i64 f.a, .int .i64 f.p, .int .i64 f.ta, .int .i64 f.tp] 30)) := (((Below.refl w.heap.size w).alloc (by first | exact Nat.le_refl _ | (simp; done) | (simp; omega)) (.cells #[.int .i64 r.e, .int .u64 r.p.a, .int .u64 r.p.b, .int .u64 r.c.a, .int .u64 r.c.b, .int .u64 r.n.a, .int .u64 r.n.b] 27)).alloc (by first | exact Nat.le_refl _ | (simp; done) | (simp; omega)) (.cells #[.int .i64 f.a, .int .i64 f.p, .int .i64 f.ta, .int .i64 f.tp] 30))
          generalize (w.alloc (.cells #[.int .i64 r.e, .int .u64 r.p.a, .int .u64 r.p.b, .int .u64 r.c.a, .int .u64 r.c.b, .int .u64 r.n.a, .int .u64 r.n.b] 27)).alloc (.cells #[.int .i64 f.a, .int .i64 f.p, .int .i64 f.ta, .int .i64 f.tp] 30) = w1 at *
          generalize w.heap.size + 1 = F at *
          generalize hK : w.heap.size = A at *
          refine (bits_any 1 4096 _ (by exact .inl ⟨rfl, rfl⟩)).mono ?_
          rintro e' w2 ⟨rfl, rfl⟩
          obtain ⟨kA, qA, zA⟩ := id CA
          have cA0 := qA 0 _ rfl
          have cA1 := qA 1 _ rfl
          have cA2 := qA 2 _ rfl
          have cA3 := qA 3 _ rfl
          have cA4 := qA 4 _ rfl
          have cA5 := qA 5 _ rfl
          have cA6 := qA 6 _ rfl
          clear qA zA
          obtain ⟨kF, qF, zF⟩ := id CF
          have cF0 := qF 0 _ rfl
          have cF1 := qF 1 _ rfl
          have cF2 := qF 2 _ rfl
          have cF3 := qF 3 _ rfl
          clear qF zF
          go_wp2_with fail
          refine (KY.out _).mono ?_
          rintro e' w7 ⟨rfl, hb⟩
          replace B := B.trans (hb.mono (Nat.le_of_lt CA.1))
          replace CA := CA.below hb
          replace CF := CF.below hb
          clear hb
          clear kA cA0 cA1 cA2 cA3 cA4 cA5 cA6
          clear kF cF0 cF1 cF2 cF3
          obtain ⟨kA, qA, zA⟩ := id CA
          have cA0 := qA 0 _ rfl
          have cA1 := qA 1 _ rfl
          have cA2 := qA 2 _ rfl
          have cA3 := qA 3 _ rfl
          have cA4 := qA 4 _ rfl
          have cA5 := qA 5 _ rfl
          have cA6 := qA 6 _ rfl
          clear qA zA
          obtain ⟨kF, qF, zF⟩ := id CF
          have cF0 := qF 0 _ rfl
          have cF1 := qF 1 _ rfl
          have cF2 := qF 2 _ rfl
          have cF3 := qF 3 _ rfl
          clear qF zF
          go_wp2_with fail
          clear kA cA0 cA1 cA2 cA3 cA4 cA5 cA6
          clear kF cF0 cF1 cF2 cF3
          have CD := Ce.made (w := w7) (l := [.int .u64 k.a, .int .u64 k.b]) (T := 25) (g := w7.heap.size) rfl
          replace B := B.alloc (Nat.le_of_lt CA.1) (.cells #[.int .u64 k.a, .int .u64 k.b] 25)
          replace CA := CA.alloc (.cells #[.int .u64 k.a, .int .u64 k.b] 25)
          replace CF := CF.alloc (.cells #[.int .u64 k.a, .int .u64 k.b] 25)
          generalize w7.alloc (.cells #[.int .u64 k.a, .int .u64 k.b] 25) = w8 at *
          generalize w7.heap.size = D at *
          obtain ⟨kA, qA, zA⟩ := id CA
          have cA0 := qA 0 _ rfl
          have cA1 := qA 1 _ rfl
          have cA2 := qA 2 _ rfl
          have cA3 := qA 3 _ rfl
          have cA4 := qA 4 _ rfl
          have cA5 := qA 5 _ rfl
          have cA6 := qA 6 _ rfl
          clear qA zA
          obtain ⟨kF, qF, zF⟩ := id CF
          have cF0 := qF 0 _ rfl
          have cF1 := qF 1 _ rfl
          have cF2 := qF 2 _ rfl
          have cF3 := qF 3 _ rfl
          clear qF zF
          obtain ⟨kD, qD, zD⟩ := id CD
          have cD0 := qD 0 _ rfl
          have cD1 := qD 1 _ rfl
          clear qD zD
          go_wp2_with fail
          refine (WD2.out _).mono ?_
          rintro e' w9 ⟨rfl, hb⟩
          replace B := B.trans (hb.mono (Nat.le_of_lt CA.1))
          replace CA := CA.below hb
          replace CF := CF.below hb
          replace CD := CD.below hb
          clear hb
          clear kA cA0 cA1 cA2 cA3 cA4 cA5 cA6
          clear kF cF0 cF1 cF2 cF3
          clear kD cD0 cD1
          obtain ⟨kA, qA, zA⟩ := id CA
          have cA0 := qA 0 _ rfl
          have cA1 := qA 1 _ rfl
          have cA2 := qA 2 _ rfl
          have cA3 := qA 3 _ rfl
          have cA4 := qA 4 _ rfl
          have cA5 := qA 5 _ rfl
          have cA6 := qA 6 _ rfl
          clear qA zA
          obtain ⟨kF, qF, zF⟩ := id CF
          have cF0 := qF 0 _ rfl
          have cF1 := qF 1 _ rfl
          have cF2 := qF 2 _ rfl
          have cF3 := qF 3 _ rfl
          clear qF zF
          obtain ⟨kD, qD, zD⟩ := id CD
          have cD0 := qD 0 _ rfl
          have cD1 := qD 1 _ rfl
          clear qD zD
          go_wp2_with fail
          refine (CK2.out _).mono ?_
          rintro e' w10 ⟨rfl, hb⟩
          replace B := B.trans (hb.mono (Nat.le_of_lt CA.1))
          replace CA := CA.below hb
          replace CF := CF.below hb
          replace CD := CD.below hb
          clear hb
          go_wp2_with fail
          refine bodyPost_ret (by simp [results, Try.results10, go_sem]) rfl ⟨rfl, ?_⟩
          rw [hK]
          exact B
        · rw [if_neg htt] at ho
          subst ho
          have hb1 : (cv' != c) = true := by simp [htt]
          have KY := hid KE
          clear KE
          go_enter Try.func10, Try.ntmps10
          go_wp2_with fail
          have CA := Ce.made (w := w) (l := [.int .i64 r.e, .int .u64 r.p.a, .int .u64 r.p.b, .int .u64 r.c.a, .int .u64 r.c.b, .int .u64 r.n.a, .int .u64 r.n.b]) (T := 27) (g := w.heap.size) rfl
          replace CA := CA.alloc (.cells #[.int .i64 f.a, .int .i64 f.p, .int .i64 f.ta, .int .i64 f.tp] 30)
          have CF := Ce.made (w := (w.alloc (.cells #[.int .i64 r.e, .int .u64 r.p.a, .int .u64 r.p.b, .int .u64 r.c.a, .int .u64 r.c.b, .int .u64 r.n.a, .int .u64 r.n.b] 27))) (l := [.int .i64 f.a, .int .i64 f.p, .int .i64 f.ta, .int .i64 f.tp]) (T := 30) (g := w.heap.size + 1) (by simp)
          have B : Below w.heap.size w ((w.alloc (.cells #[.int .i64 r.e, .int .u64 r.p.a, .int .u64 r.p.b, .int .u64 r.c.a, .int .u64 r.c.b, .int .u64 r.n.a, .int .u64 r.n.b] 27)).alloc (.cells #[.int .i64 f.a, .int .i64 f.p, .int .i64 f.ta, .int .i64 f.tp] 30)) := (((Below.refl w.heap.size w).alloc (by first | exact Nat.le_refl _ | (simp; done) | (simp; omega)) (.cells #[.int .i64 r.e, .int .u64 r.p.a, .int .u64 r.p.b, .int .u64 r.c.a, .int .u64 r.c.b, .int .u64 r.n.a, .int .u64 r.n.b] 27)).alloc (by first | exact Nat.le_refl _ | (simp; done) | (simp; omega)) (.cells #[.int .i64 f.a, .int .i64 f.p, .int .i64 f.ta, .int .i64 f.tp] 30))
          generalize (w.alloc (.cells #[.int .i64 r.e, .int .u64 r.p.a, .int .u64 r.p.b, .int .u64 r.c.a, .int .u64 r.c.b, .int .u64 r.n.a, .int .u64 r.n.b] 27)).alloc (.cells #[.int .i64 f.a, .int .i64 f.p, .int .i64 f.ta, .int .i64 f.tp] 30) = w1 at *
          generalize w.heap.size + 1 = F at *
          generalize hK : w.heap.size = A at *
          refine (bits_any 1 4096 _ (by exact .inl ⟨rfl, rfl⟩)).mono ?_
          rintro e' w2 ⟨rfl, rfl⟩
          obtain ⟨kA, qA, zA⟩ := id CA
          have cA0 := qA 0 _ rfl
          have cA1 := qA 1 _ rfl
          have cA2 := qA 2 _ rfl
          have cA3 := qA 3 _ rfl
          have cA4 := qA 4 _ rfl
          have cA5 := qA 5 _ rfl
          have cA6 := qA 6 _ rfl
          clear qA zA
          obtain ⟨kF, qF, zF⟩ := id CF
          have cF0 := qF 0 _ rfl
          have cF1 := qF 1 _ rfl
          have cF2 := qF 2 _ rfl
          have cF3 := qF 3 _ rfl
          clear qF zF
          go_wp2_with fail
          refine (KY.out _).mono ?_
          rintro e' w7 ⟨rfl, hb⟩
          replace B := B.trans (hb.mono (Nat.le_of_lt CA.1))
          replace CA := CA.below hb
          replace CF := CF.below hb
          clear hb
          clear kA cA0 cA1 cA2 cA3 cA4 cA5 cA6
          clear kF cF0 cF1 cF2 cF3
          obtain ⟨kA, qA, zA⟩ := id CA
          have cA0 := qA 0 _ rfl
          have cA1 := qA 1 _ rfl
          have cA2 := qA 2 _ rfl
          have cA3 := qA 3 _ rfl
          have cA4 := qA 4 _ rfl
          have cA5 := qA 5 _ rfl
          have cA6 := qA 6 _ rfl
          clear qA zA
          obtain ⟨kF, qF, zF⟩ := id CF
          have cF0 := qF 0 _ rfl
          have cF1 := qF 1 _ rfl
          have cF2 := qF 2 _ rfl
          have cF3 := qF 3 _ rfl
          clear qF zF
          go_wp2_with fail
          clear kA cA0 cA1 cA2 cA3 cA4 cA5 cA6
          clear kF cF0 cF1 cF2 cF3
          have CD := Ce.made (w := w7) (l := [.int .u64 k.a, .int .u64 k.b]) (T := 25) (g := w7.heap.size) rfl
          replace B := B.alloc (Nat.le_of_lt CA.1) (.cells #[.int .u64 k.a, .int .u64 k.b] 25)
          replace CA := CA.alloc (.cells #[.int .u64 k.a, .int .u64 k.b] 25)
          replace CF := CF.alloc (.cells #[.int .u64 k.a, .int .u64 k.b] 25)
          generalize w7.alloc (.cells #[.int .u64 k.a, .int .u64 k.b] 25) = w8 at *
          generalize w7.heap.size = D at *
          obtain ⟨kA, qA, zA⟩ := id CA
          have cA0 := qA 0 _ rfl
          have cA1 := qA 1 _ rfl
          have cA2 := qA 2 _ rfl
          have cA3 := qA 3 _ rfl
          have cA4 := qA 4 _ rfl
          have cA5 := qA 5 _ rfl
          have cA6 := qA 6 _ rfl
          clear qA zA
          obtain ⟨kF, qF, zF⟩ := id CF
          have cF0 := qF 0 _ rfl
          have cF1 := qF 1 _ rfl
          have cF2 := qF 2 _ rfl
          have cF3 := qF 3 _ rfl
          clear qF zF
          obtain ⟨kD, qD, zD⟩ := id CD
          have cD0 := qD 0 _ rfl
          have cD1 := qD 1 _ rfl
          clear qD zD
          go_wp2_with fail
          refine (WD2.out _).mono ?_
          rintro e' w9 ⟨rfl, hb⟩
          replace B := B.trans (hb.mono (Nat.le_of_lt CA.1))
          replace CA := CA.below hb
          replace CF := CF.below hb
          replace CD := CD.below hb
          clear hb
          clear kA cA0 cA1 cA2 cA3 cA4 cA5 cA6
          clear kF cF0 cF1 cF2 cF3
          clear kD cD0 cD1
          obtain ⟨kA, qA, zA⟩ := id CA
          have cA0 := qA 0 _ rfl
          have cA1 := qA 1 _ rfl
          have cA2 := qA 2 _ rfl
          have cA3 := qA 3 _ rfl
          have cA4 := qA 4 _ rfl
          have cA5 := qA 5 _ rfl
          have cA6 := qA 6 _ rfl
          clear qA zA
          obtain ⟨kF, qF, zF⟩ := id CF
          have cF0 := qF 0 _ rfl
          have cF1 := qF 1 _ rfl
          have cF2 := qF 2 _ rfl
          have cF3 := qF 3 _ rfl
          clear qF zF
          obtain ⟨kD, qD, zD⟩ := id CD
          have cD0 := qD 0 _ rfl
          have cD1 := qD 1 _ rfl
          clear qD zD
          go_wp2_with fail
          refine (CK2.out _).mono ?_
          rintro e' w10 ⟨rfl, hb⟩
          replace B := B.trans (hb.mono (Nat.le_of_lt CA.1))
          replace CA := CA.below hb
          replace CF := CF.below hb
          replace CD := CD.below hb
          clear hb
          go_wp2_with fail
          refine bodyPost_ret (by simp [results, Try.results10, go_sem]) rfl ⟨rfl, ?_⟩
          rw [hK]
          exact B
set_option maxHeartbeats 2000000 in
theorem rread2 (r : Rg) (f : Fl) (c : Int) (hf : f.I) (hr : Ep r.e) (w : World) :
    Calls Try.prog 10 #[rgV r, .int .i64 2, flV f, .int .i64 c] w fun e' w' => e' = .returned (rdO (readC 256 r 2 f c)) ∧ Below w.heap.size w w' := by
  have hkI : I64 2 := ⟨by omega, by omega⟩
  have KY := fun e w => rkey_any r e hr w
  have WD := fun k e he w => word_any k 2 f 64 e hf hkI ⟨by omega, by omega⟩ he w
  have CK := fun k x e hx he w => cook2 k 2 f x e hf rfl hx he w
  obtain ⟨o, ho⟩ : ∃ o, o = readC 256 r 2 f c := ⟨_, rfl⟩
  rw [← ho]
  unfold readC at ho
  unfold rgV flV rdO kyO kyV at *
  replace KY := hid KY
  replace WD := hid WD
  replace CK := hid CK
  by_cases h0 : c < 0
  · rw [if_pos (Or.inl h0)] at ho
    subst ho
    go_enter Try.func10, Try.ntmps10
    go_wp2_with fail
    have CA := Ce.made (w := w) (l := [.int .i64 r.e, .int .u64 r.p.a, .int .u64 r.p.b, .int .u64 r.c.a, .int .u64 r.c.b, .int .u64 r.n.a, .int .u64 r.n.b]) (T := 27) (g := w.heap.size) rfl
    replace CA := CA.alloc (.cells #[.int .i64 f.a, .int .i64 f.p, .int .i64 f.ta, .int .i64 f.tp] 30)
    have CF := Ce.made (w := (w.alloc (.cells #[.int .i64 r.e, .int .u64 r.p.a, .int .u64 r.p.b, .int .u64 r.c.a, .int .u64 r.c.b, .int .u64 r.n.a, .int .u64 r.n.b] 27))) (l := [.int .i64 f.a, .int .i64 f.p, .int .i64 f.ta, .int .i64 f.tp]) (T := 30) (g := w.heap.size + 1) (by simp)
    have B : Below w.heap.size w ((w.alloc (.cells #[.int .i64 r.e, .int .u64 r.p.a, .int .u64 r.p.b, .int .u64 r.c.a, .int .u64 r.c.b, .int .u64 r.n.a, .int .u64 r.n.b] 27)).alloc (.cells #[.int .i64 f.a, .int .i64 f.p, .int .i64 f.ta, .int .i64 f.tp] 30)) := (((Below.refl w.heap.size w).alloc (by first | exact Nat.le_refl _ | (simp; done) | (simp; omega)) (.cells #[.int .i64 r.e, .int .u64 r.p.a, .int .u64 r.p.b, .int .u64 r.c.a, .int .u64 r.c.b, .int .u64 r.n.a, .int .u64 r.n.b] 27)).alloc (by first | exact Nat.le_refl _ | (simp; done) | (simp; omega)) (.cells #[.int .i64 f.a, .int .i64 f.p, .int .i64 f.ta, .int .i64 f.tp] 30))
    generalize (w.alloc (.cells #[.int .i64 r.e, .int .u64 r.p.a, .int .u64 r.p.b, .int .u64 r.c.a, .int .u64 r.c.b, .int .u64 r.n.a, .int .u64 r.n.b] 27)).alloc (.cells #[.int .i64 f.a, .int .i64 f.p, .int .i64 f.ta, .int .i64 f.tp] 30) = w1 at *
    generalize w.heap.size + 1 = F at *
    generalize hK : w.heap.size = A at *
    refine (bits_any 2 256 _ (by exact .inr ⟨rfl, rfl⟩)).mono ?_
    rintro e' w2 ⟨rfl, rfl⟩
    obtain ⟨kA, qA, zA⟩ := id CA
    have cA0 := qA 0 _ rfl
    have cA1 := qA 1 _ rfl
    have cA2 := qA 2 _ rfl
    have cA3 := qA 3 _ rfl
    have cA4 := qA 4 _ rfl
    have cA5 := qA 5 _ rfl
    have cA6 := qA 6 _ rfl
    clear qA zA
    obtain ⟨kF, qF, zF⟩ := id CF
    have cF0 := qF 0 _ rfl
    have cF1 := qF 1 _ rfl
    have cF2 := qF 2 _ rfl
    have cF3 := qF 3 _ rfl
    clear qF zF
    go_wp2
    refine bodyPost_ret (by simp [results, Try.results10, go_sem]) rfl ⟨rfl, ?_⟩
    rw [hK]
    exact B
  · by_cases h1 : 65536 ≤ c
    · rw [if_pos (Or.inr (by omega))] at ho
      subst ho
      have g0 : 0 ≤ c := by omega
      go_enter Try.func10, Try.ntmps10
      go_wp2_with fail
      have CA := Ce.made (w := w) (l := [.int .i64 r.e, .int .u64 r.p.a, .int .u64 r.p.b, .int .u64 r.c.a, .int .u64 r.c.b, .int .u64 r.n.a, .int .u64 r.n.b]) (T := 27) (g := w.heap.size) rfl
      replace CA := CA.alloc (.cells #[.int .i64 f.a, .int .i64 f.p, .int .i64 f.ta, .int .i64 f.tp] 30)
      have CF := Ce.made (w := (w.alloc (.cells #[.int .i64 r.e, .int .u64 r.p.a, .int .u64 r.p.b, .int .u64 r.c.a, .int .u64 r.c.b, .int .u64 r.n.a, .int .u64 r.n.b] 27))) (l := [.int .i64 f.a, .int .i64 f.p, .int .i64 f.ta, .int .i64 f.tp]) (T := 30) (g := w.heap.size + 1) (by simp)
      have B : Below w.heap.size w ((w.alloc (.cells #[.int .i64 r.e, .int .u64 r.p.a, .int .u64 r.p.b, .int .u64 r.c.a, .int .u64 r.c.b, .int .u64 r.n.a, .int .u64 r.n.b] 27)).alloc (.cells #[.int .i64 f.a, .int .i64 f.p, .int .i64 f.ta, .int .i64 f.tp] 30)) := (((Below.refl w.heap.size w).alloc (by first | exact Nat.le_refl _ | (simp; done) | (simp; omega)) (.cells #[.int .i64 r.e, .int .u64 r.p.a, .int .u64 r.p.b, .int .u64 r.c.a, .int .u64 r.c.b, .int .u64 r.n.a, .int .u64 r.n.b] 27)).alloc (by first | exact Nat.le_refl _ | (simp; done) | (simp; omega)) (.cells #[.int .i64 f.a, .int .i64 f.p, .int .i64 f.ta, .int .i64 f.tp] 30))
      generalize (w.alloc (.cells #[.int .i64 r.e, .int .u64 r.p.a, .int .u64 r.p.b, .int .u64 r.c.a, .int .u64 r.c.b, .int .u64 r.n.a, .int .u64 r.n.b] 27)).alloc (.cells #[.int .i64 f.a, .int .i64 f.p, .int .i64 f.ta, .int .i64 f.tp] 30) = w1 at *
      generalize w.heap.size + 1 = F at *
      generalize hK : w.heap.size = A at *
      refine (bits_any 2 256 _ (by exact .inr ⟨rfl, rfl⟩)).mono ?_
      rintro e' w2 ⟨rfl, rfl⟩
      obtain ⟨kA, qA, zA⟩ := id CA
      have cA0 := qA 0 _ rfl
      have cA1 := qA 1 _ rfl
      have cA2 := qA 2 _ rfl
      have cA3 := qA 3 _ rfl
      have cA4 := qA 4 _ rfl
      have cA5 := qA 5 _ rfl
      have cA6 := qA 6 _ rfl
      clear qA zA
      obtain ⟨kF, qF, zF⟩ := id CF
      have cF0 := qF 0 _ rfl
      have cF1 := qF 1 _ rfl
      have cF2 := qF 2 _ rfl
      have cF3 := qF 3 _ rfl
      clear qF zF
      go_wp2
      refine bodyPost_ret (by simp [results, Try.results10, go_sem]) rfl ⟨rfl, ?_⟩
      rw [hK]
      exact B
    · rw [if_neg (by omega)] at ho
      have g0 : 0 ≤ c := by omega
      have g1 : ¬ 65536 ≤ c := h1
      obtain ⟨e, he⟩ : ∃ e, e = c / (64 * 256) := ⟨_, rfl⟩
      obtain ⟨m, hm⟩ : ∃ m, m = c / 256 % 64 := ⟨_, rfl⟩
      have he' : c / 16384 = e := he.symm
      have hm' : bits .and .i64 (c / 256) 63 = m := by rw [mand63, hm]
      have heb : I64 e := ⟨by omega, by omega⟩
      have heb4 : 0 ≤ e ∧ e < 4 := by omega
      unfold slotOf at ho
      rw [← he, ← hm] at ho
      have KE := KY.out e
      have hmb : 0 ≤ m ∧ m < 64 := by omega
      have HM := hid hm
      clear KY h1 he hm
      cases hk : keyOf r e with
      | none =>
        rw [hk] at ho KE
        subst ho
        have KY := hid KE
        clear KE
        go_enter Try.func10, Try.ntmps10
        go_wp2_with fail
        have CA := Ce.made (w := w) (l := [.int .i64 r.e, .int .u64 r.p.a, .int .u64 r.p.b, .int .u64 r.c.a, .int .u64 r.c.b, .int .u64 r.n.a, .int .u64 r.n.b]) (T := 27) (g := w.heap.size) rfl
        replace CA := CA.alloc (.cells #[.int .i64 f.a, .int .i64 f.p, .int .i64 f.ta, .int .i64 f.tp] 30)
        have CF := Ce.made (w := (w.alloc (.cells #[.int .i64 r.e, .int .u64 r.p.a, .int .u64 r.p.b, .int .u64 r.c.a, .int .u64 r.c.b, .int .u64 r.n.a, .int .u64 r.n.b] 27))) (l := [.int .i64 f.a, .int .i64 f.p, .int .i64 f.ta, .int .i64 f.tp]) (T := 30) (g := w.heap.size + 1) (by simp)
        have B : Below w.heap.size w ((w.alloc (.cells #[.int .i64 r.e, .int .u64 r.p.a, .int .u64 r.p.b, .int .u64 r.c.a, .int .u64 r.c.b, .int .u64 r.n.a, .int .u64 r.n.b] 27)).alloc (.cells #[.int .i64 f.a, .int .i64 f.p, .int .i64 f.ta, .int .i64 f.tp] 30)) := (((Below.refl w.heap.size w).alloc (by first | exact Nat.le_refl _ | (simp; done) | (simp; omega)) (.cells #[.int .i64 r.e, .int .u64 r.p.a, .int .u64 r.p.b, .int .u64 r.c.a, .int .u64 r.c.b, .int .u64 r.n.a, .int .u64 r.n.b] 27)).alloc (by first | exact Nat.le_refl _ | (simp; done) | (simp; omega)) (.cells #[.int .i64 f.a, .int .i64 f.p, .int .i64 f.ta, .int .i64 f.tp] 30))
        generalize (w.alloc (.cells #[.int .i64 r.e, .int .u64 r.p.a, .int .u64 r.p.b, .int .u64 r.c.a, .int .u64 r.c.b, .int .u64 r.n.a, .int .u64 r.n.b] 27)).alloc (.cells #[.int .i64 f.a, .int .i64 f.p, .int .i64 f.ta, .int .i64 f.tp] 30) = w1 at *
        generalize w.heap.size + 1 = F at *
        generalize hK : w.heap.size = A at *
        refine (bits_any 2 256 _ (by exact .inr ⟨rfl, rfl⟩)).mono ?_
        rintro e' w2 ⟨rfl, rfl⟩
        obtain ⟨kA, qA, zA⟩ := id CA
        have cA0 := qA 0 _ rfl
        have cA1 := qA 1 _ rfl
        have cA2 := qA 2 _ rfl
        have cA3 := qA 3 _ rfl
        have cA4 := qA 4 _ rfl
        have cA5 := qA 5 _ rfl
        have cA6 := qA 6 _ rfl
        clear qA zA
        obtain ⟨kF, qF, zF⟩ := id CF
        have cF0 := qF 0 _ rfl
        have cF1 := qF 1 _ rfl
        have cF2 := qF 2 _ rfl
        have cF3 := qF 3 _ rfl
        clear qF zF
        go_wp2_with fail
        refine (KY.out _).mono ?_
        rintro e' w7 ⟨rfl, hb⟩
        replace B := B.trans (hb.mono (Nat.le_of_lt CA.1))
        replace CA := CA.below hb
        replace CF := CF.below hb
        clear hb
        clear kA cA0 cA1 cA2 cA3 cA4 cA5 cA6
        clear kF cF0 cF1 cF2 cF3
        obtain ⟨kA, qA, zA⟩ := id CA
        have cA0 := qA 0 _ rfl
        have cA1 := qA 1 _ rfl
        have cA2 := qA 2 _ rfl
        have cA3 := qA 3 _ rfl
        have cA4 := qA 4 _ rfl
        have cA5 := qA 5 _ rfl
        have cA6 := qA 6 _ rfl
        clear qA zA
        obtain ⟨kF, qF, zF⟩ := id CF
        have cF0 := qF 0 _ rfl
        have cF1 := qF 1 _ rfl
        have cF2 := qF 2 _ rfl
        have cF3 := qF 3 _ rfl
        clear qF zF
        go_wp2_with fail
        refine bodyPost_ret (by simp [results, Try.results10, go_sem]) rfl ⟨rfl, ?_⟩
        rw [hK]
        exact B.alloc (Nat.le_of_lt CA.1) _
      | some k =>
        rw [hk] at ho KE
        simp only at ho
        obtain ⟨wv, hwv⟩ : ∃ wv, wv = W7 k 2 f 64 e := ⟨_, rfl⟩
        have hU := W7_U k 2 f 64 e
        have WD2 := WD.out k e heb
        rw [← hwv] at ho hU WD2
        obtain ⟨sl, hsl⟩ : ∃ sl, sl = xr m (wv % 64) := ⟨_, rfl⟩
        rw [← hsl] at ho
        have hslb : 0 ≤ sl ∧ sl < 64 := by rw [hsl]; exact xr_bd _ _ ⟨by omega, by omega⟩ ⟨by omega, by omega⟩
        have ha : bits .and .u64 wv 63 = wv % 64 := uand wv 6 (by omega) hU
        have hx : bits .xor .i64 m (wv % 64) = sl := by rw [xor_nat m _ hmb ⟨by omega, by omega⟩, hsl]
        obtain ⟨hU1, hU2⟩ := hU
        replace WD2 := hid WD2
        have CK2 := CK.out k sl e hslb heb4
        obtain ⟨cv', hcv⟩ : ∃ cv', cv' = cok 256 k 2 f sl e := ⟨_, rfl⟩
        rw [← hcv] at CK2 ho
        replace CK2 := hid CK2
        clear hcv hsl hwv WD CK hk hslb
        by_cases htt : cv' = c
        · rw [if_pos htt] at ho
          subst ho
          have hb1 : (cv' != c) = false := by simp [htt]
          replace htt := hid htt
          have KY := hid KE
          clear KE
          go_enter Try.func10, Try.ntmps10
          go_wp2_with fail
          have CA := Ce.made (w := w) (l := [.int .i64 r.e, .int .u64 r.p.a, .int .u64 r.p.b, .int .u64 r.c.a, .int .u64 r.c.b, .int .u64 r.n.a, .int .u64 r.n.b]) (T := 27) (g := w.heap.size) rfl
          replace CA := CA.alloc (.cells #[.int .i64 f.a, .int .i64 f.p, .int .i64 f.ta, .int .i64 f.tp] 30)
          have CF := Ce.made (w := (w.alloc (.cells #[.int .i64 r.e, .int .u64 r.p.a, .int .u64 r.p.b, .int .u64 r.c.a, .int .u64 r.c.b, .int .u64 r.n.a, .int .u64 r.n.b] 27))) (l := [.int .i64 f.a, .int .i64 f.p, .int .i64 f.ta, .int .i64 f.tp]) (T := 30) (g := w.heap.size + 1) (by simp)
          have B : Below w.heap.size w ((w.alloc (.cells #[.int .i64 r.e, .int .u64 r.p.a, .int .u64 r.p.b, .int .u64 r.c.a, .int .u64 r.c.b, .int .u64 r.n.a, .int .u64 r.n.b] 27)).alloc (.cells #[.int .i64 f.a, .int .i64 f.p, .int .i64 f.ta, .int .i64 f.tp] 30)) := (((Below.refl w.heap.size w).alloc (by first | exact Nat.le_refl _ | (simp; done) | (simp; omega)) (.cells #[.int .i64 r.e, .int .u64 r.p.a, .int .u64 r.p.b, .int .u64 r.c.a, .int .u64 r.c.b, .int .u64 r.n.a, .int .u64 r.n.b] 27)).alloc (by first | exact Nat.le_refl _ | (simp; done) | (simp; omega)) (.cells #[.int .i64 f.a, .int .i64 f.p, .int .i64 f.ta, .int .i64 f.tp] 30))
          generalize (w.alloc (.cells #[.int .i64 r.e, .int .u64 r.p.a, .int .u64 r.p.b, .int .u64 r.c.a, .int .u64 r.c.b, .int .u64 r.n.a, .int .u64 r.n.b] 27)).alloc (.cells #[.int .i64 f.a, .int .i64 f.p, .int .i64 f.ta, .int .i64 f.tp] 30) = w1 at *
          generalize w.heap.size + 1 = F at *
          generalize hK : w.heap.size = A at *
          refine (bits_any 2 256 _ (by exact .inr ⟨rfl, rfl⟩)).mono ?_
          rintro e' w2 ⟨rfl, rfl⟩
          obtain ⟨kA, qA, zA⟩ := id CA
          have cA0 := qA 0 _ rfl
          have cA1 := qA 1 _ rfl
          have cA2 := qA 2 _ rfl
          have cA3 := qA 3 _ rfl
          have cA4 := qA 4 _ rfl
          have cA5 := qA 5 _ rfl
          have cA6 := qA 6 _ rfl
          clear qA zA
          obtain ⟨kF, qF, zF⟩ := id CF
          have cF0 := qF 0 _ rfl
          have cF1 := qF 1 _ rfl
          have cF2 := qF 2 _ rfl
          have cF3 := qF 3 _ rfl
          clear qF zF
          go_wp2_with fail
          refine (KY.out _).mono ?_
          rintro e' w7 ⟨rfl, hb⟩
          replace B := B.trans (hb.mono (Nat.le_of_lt CA.1))
          replace CA := CA.below hb
          replace CF := CF.below hb
          clear hb
          clear kA cA0 cA1 cA2 cA3 cA4 cA5 cA6
          clear kF cF0 cF1 cF2 cF3
          obtain ⟨kA, qA, zA⟩ := id CA
          have cA0 := qA 0 _ rfl
          have cA1 := qA 1 _ rfl
          have cA2 := qA 2 _ rfl
          have cA3 := qA 3 _ rfl
          have cA4 := qA 4 _ rfl
          have cA5 := qA 5 _ rfl
          have cA6 := qA 6 _ rfl
          clear qA zA
          obtain ⟨kF, qF, zF⟩ := id CF
          have cF0 := qF 0 _ rfl
          have cF1 := qF 1 _ rfl
          have cF2 := qF 2 _ rfl
          have cF3 := qF 3 _ rfl
          clear qF zF
          go_wp2_with fail
          clear kA cA0 cA1 cA2 cA3 cA4 cA5 cA6
          clear kF cF0 cF1 cF2 cF3
          have CD := Ce.made (w := w7) (l := [.int .u64 k.a, .int .u64 k.b]) (T := 25) (g := w7.heap.size) rfl
          replace B := B.alloc (Nat.le_of_lt CA.1) (.cells #[.int .u64 k.a, .int .u64 k.b] 25)
          replace CA := CA.alloc (.cells #[.int .u64 k.a, .int .u64 k.b] 25)
          replace CF := CF.alloc (.cells #[.int .u64 k.a, .int .u64 k.b] 25)
          generalize w7.alloc (.cells #[.int .u64 k.a, .int .u64 k.b] 25) = w8 at *
          generalize w7.heap.size = D at *
          obtain ⟨kA, qA, zA⟩ := id CA
          have cA0 := qA 0 _ rfl
          have cA1 := qA 1 _ rfl
          have cA2 := qA 2 _ rfl
          have cA3 := qA 3 _ rfl
          have cA4 := qA 4 _ rfl
          have cA5 := qA 5 _ rfl
          have cA6 := qA 6 _ rfl
          clear qA zA
          obtain ⟨kF, qF, zF⟩ := id CF
          have cF0 := qF 0 _ rfl
          have cF1 := qF 1 _ rfl
          have cF2 := qF 2 _ rfl
          have cF3 := qF 3 _ rfl
          clear qF zF
          obtain ⟨kD, qD, zD⟩ := id CD
          have cD0 := qD 0 _ rfl
          have cD1 := qD 1 _ rfl
          clear qD zD
          go_wp2_with fail
          refine (WD2.out _).mono ?_
          rintro e' w9 ⟨rfl, hb⟩
          replace B := B.trans (hb.mono (Nat.le_of_lt CA.1))
          replace CA := CA.below hb
          replace CF := CF.below hb
          replace CD := CD.below hb
          clear hb
          clear kA cA0 cA1 cA2 cA3 cA4 cA5 cA6
          clear kF cF0 cF1 cF2 cF3
          clear kD cD0 cD1
          obtain ⟨kA, qA, zA⟩ := id CA
          have cA0 := qA 0 _ rfl
          have cA1 := qA 1 _ rfl
          have cA2 := qA 2 _ rfl
          have cA3 := qA 3 _ rfl
          have cA4 := qA 4 _ rfl
          have cA5 := qA 5 _ rfl
          have cA6 := qA 6 _ rfl
          clear qA zA
          obtain ⟨kF, qF, zF⟩ := id CF
          have cF0 := qF 0 _ rfl
          have cF1 := qF 1 _ rfl
          have cF2 := qF 2 _ rfl
          have cF3 := qF 3 _ rfl
          clear qF zF
          obtain ⟨kD, qD, zD⟩ := id CD
          have cD0 := qD 0 _ rfl
          have cD1 := qD 1 _ rfl
          clear qD zD
          go_wp2_with fail
          refine (CK2.out _).mono ?_
          rintro e' w10 ⟨rfl, hb⟩
          replace B := B.trans (hb.mono (Nat.le_of_lt CA.1))
          replace CA := CA.below hb
          replace CF := CF.below hb
          replace CD := CD.below hb
          clear hb
          go_wp2_with fail
          refine bodyPost_ret (by simp [results, Try.results10, go_sem]) rfl ⟨rfl, ?_⟩
          rw [hK]
          exact B
        · rw [if_neg htt] at ho
          subst ho
          have hb1 : (cv' != c) = true := by simp [htt]
          have KY := hid KE
          clear KE
          go_enter Try.func10, Try.ntmps10
          go_wp2_with fail
          have CA := Ce.made (w := w) (l := [.int .i64 r.e, .int .u64 r.p.a, .int .u64 r.p.b, .int .u64 r.c.a, .int .u64 r.c.b, .int .u64 r.n.a, .int .u64 r.n.b]) (T := 27) (g := w.heap.size) rfl
          replace CA := CA.alloc (.cells #[.int .i64 f.a, .int .i64 f.p, .int .i64 f.ta, .int .i64 f.tp] 30)
          have CF := Ce.made (w := (w.alloc (.cells #[.int .i64 r.e, .int .u64 r.p.a, .int .u64 r.p.b, .int .u64 r.c.a, .int .u64 r.c.b, .int .u64 r.n.a, .int .u64 r.n.b] 27))) (l := [.int .i64 f.a, .int .i64 f.p, .int .i64 f.ta, .int .i64 f.tp]) (T := 30) (g := w.heap.size + 1) (by simp)
          have B : Below w.heap.size w ((w.alloc (.cells #[.int .i64 r.e, .int .u64 r.p.a, .int .u64 r.p.b, .int .u64 r.c.a, .int .u64 r.c.b, .int .u64 r.n.a, .int .u64 r.n.b] 27)).alloc (.cells #[.int .i64 f.a, .int .i64 f.p, .int .i64 f.ta, .int .i64 f.tp] 30)) := (((Below.refl w.heap.size w).alloc (by first | exact Nat.le_refl _ | (simp; done) | (simp; omega)) (.cells #[.int .i64 r.e, .int .u64 r.p.a, .int .u64 r.p.b, .int .u64 r.c.a, .int .u64 r.c.b, .int .u64 r.n.a, .int .u64 r.n.b] 27)).alloc (by first | exact Nat.le_refl _ | (simp; done) | (simp; omega)) (.cells #[.int .i64 f.a, .int .i64 f.p, .int .i64 f.ta, .int .i64 f.tp] 30))
          generalize (w.alloc (.cells #[.int .i64 r.e, .int .u64 r.p.a, .int .u64 r.p.b, .int .u64 r.c.a, .int .u64 r.c.b, .int .u64 r.n.a, .int .u64 r.n.b] 27)).alloc (.cells #[.int .i64 f.a, .int .i64 f.p, .int .i64 f.ta, .int .i64 f.tp] 30) = w1 at *
          generalize w.heap.size + 1 = F at *
          generalize hK : w.heap.size = A at *
          refine (bits_any 2 256 _ (by exact .inr ⟨rfl, rfl⟩)).mono ?_
          rintro e' w2 ⟨rfl, rfl⟩
          obtain ⟨kA, qA, zA⟩ := id CA
          have cA0 := qA 0 _ rfl
          have cA1 := qA 1 _ rfl
          have cA2 := qA 2 _ rfl
          have cA3 := qA 3 _ rfl
          have cA4 := qA 4 _ rfl
          have cA5 := qA 5 _ rfl
          have cA6 := qA 6 _ rfl
          clear qA zA
          obtain ⟨kF, qF, zF⟩ := id CF
          have cF0 := qF 0 _ rfl
          have cF1 := qF 1 _ rfl
          have cF2 := qF 2 _ rfl
          have cF3 := qF 3 _ rfl
          clear qF zF
          go_wp2_with fail
          refine (KY.out _).mono ?_
          rintro e' w7 ⟨rfl, hb⟩
          replace B := B.trans (hb.mono (Nat.le_of_lt CA.1))
          replace CA := CA.below hb
          replace CF := CF.below hb
          clear hb
          clear kA cA0 cA1 cA2 cA3 cA4 cA5 cA6
          clear kF cF0 cF1 cF2 cF3
          obtain ⟨kA, qA, zA⟩ := id CA
          have cA0 := qA 0 _ rfl
          have cA1 := qA 1 _ rfl
          have cA2 := qA 2 _ rfl
          have cA3 := qA 3 _ rfl
          have cA4 := qA 4 _ rfl
          have cA5 := qA 5 _ rfl
          have cA6 := qA 6 _ rfl
          clear qA zA
          obtain ⟨kF, qF, zF⟩ := id CF
          have cF0 := qF 0 _ rfl
          have cF1 := qF 1 _ rfl
          have cF2 := qF 2 _ rfl
          have cF3 := qF 3 _ rfl
          clear qF zF
          go_wp2_with fail
          clear kA cA0 cA1 cA2 cA3 cA4 cA5 cA6
          clear kF cF0 cF1 cF2 cF3
          have CD := Ce.made (w := w7) (l := [.int .u64 k.a, .int .u64 k.b]) (T := 25) (g := w7.heap.size) rfl
          replace B := B.alloc (Nat.le_of_lt CA.1) (.cells #[.int .u64 k.a, .int .u64 k.b] 25)
          replace CA := CA.alloc (.cells #[.int .u64 k.a, .int .u64 k.b] 25)
          replace CF := CF.alloc (.cells #[.int .u64 k.a, .int .u64 k.b] 25)
          generalize w7.alloc (.cells #[.int .u64 k.a, .int .u64 k.b] 25) = w8 at *
          generalize w7.heap.size = D at *
          obtain ⟨kA, qA, zA⟩ := id CA
          have cA0 := qA 0 _ rfl
          have cA1 := qA 1 _ rfl
          have cA2 := qA 2 _ rfl
          have cA3 := qA 3 _ rfl
          have cA4 := qA 4 _ rfl
          have cA5 := qA 5 _ rfl
          have cA6 := qA 6 _ rfl
          clear qA zA
          obtain ⟨kF, qF, zF⟩ := id CF
          have cF0 := qF 0 _ rfl
          have cF1 := qF 1 _ rfl
          have cF2 := qF 2 _ rfl
          have cF3 := qF 3 _ rfl
          clear qF zF
          obtain ⟨kD, qD, zD⟩ := id CD
          have cD0 := qD 0 _ rfl
          have cD1 := qD 1 _ rfl
          clear qD zD
          go_wp2_with fail
          refine (WD2.out _).mono ?_
          rintro e' w9 ⟨rfl, hb⟩
          replace B := B.trans (hb.mono (Nat.le_of_lt CA.1))
          replace CA := CA.below hb
          replace CF := CF.below hb
          replace CD := CD.below hb
          clear hb
          clear kA cA0 cA1 cA2 cA3 cA4 cA5 cA6
          clear kF cF0 cF1 cF2 cF3
          clear kD cD0 cD1
          obtain ⟨kA, qA, zA⟩ := id CA
          have cA0 := qA 0 _ rfl
          have cA1 := qA 1 _ rfl
          have cA2 := qA 2 _ rfl
          have cA3 := qA 3 _ rfl
          have cA4 := qA 4 _ rfl
          have cA5 := qA 5 _ rfl
          have cA6 := qA 6 _ rfl
          clear qA zA
          obtain ⟨kF, qF, zF⟩ := id CF
          have cF0 := qF 0 _ rfl
          have cF1 := qF 1 _ rfl
          have cF2 := qF 2 _ rfl
          have cF3 := qF 3 _ rfl
          clear qF zF
          obtain ⟨kD, qD, zD⟩ := id CD
          have cD0 := qD 0 _ rfl
          have cD1 := qD 1 _ rfl
          clear qD zD
          go_wp2_with fail
          refine (CK2.out _).mono ?_
          rintro e' w10 ⟨rfl, hb⟩
          replace B := B.trans (hb.mono (Nat.le_of_lt CA.1))
          replace CA := CA.below hb
          replace CF := CF.below hb
          replace CD := CD.below hb
          clear hb
          go_wp2_with fail
          refine bodyPost_ret (by simp [results, Try.results10, go_sem]) rfl ⟨rfl, ?_⟩
          rw [hK]
          exact B

end Go.Proofs.Ytfokkmemjkfifab
