/- Cookies apart; the document's cookies; keys by epochs. -/
import Derived.Test.YtfokkmemjkfifabCook3
namespace Go.Proofs.Ytfokkmemjkfifab
set_option linter.unusedVariables false
set_option linter.unusedSimpArgs false
open Go.RowKit Go.ChangeShapes Go.WideShapes Go.ChangeAt

theorem uand (x : Int) (j : Nat) (hj : j ≤ 62) (hx : U x) : bits .and .u64 x (2 ^ j - 1) = x % 2 ^ j := by
  obtain ⟨n, rfl⟩ := Int.eq_ofNat_of_zero_le hx.1
  have hn : n < 2 ^ 64 := by have := hx.2; omega
  have hp : (2 : Nat) ^ j ≤ 2 ^ 62 := Nat.pow_le_pow_right (by omega) hj
  have h0 := Nat.two_pow_pos j
  have e : ((2 : Int) ^ j - 1) = ((2 ^ j - 1 : Nat) : Int) := by
    have : (((2 ^ j : Nat)) : Int) = 2 ^ j := by simp
    omega
  rw [e]
  show IntKind.u64.wrap ((BitVec.ofInt 64 (n : Int) &&& BitVec.ofInt 64 ((2 ^ j - 1 : Nat) : Int)).toNat : Int) = _
  rw [BitVec.toNat_and, BitVec.ofInt_natCast, BitVec.ofInt_natCast, BitVec.toNat_ofNat, BitVec.toNat_ofNat, Nat.mod_eq_of_lt hn, Nat.mod_eq_of_lt (by omega), Nat.and_two_pow_sub_one_eq_mod, IntKind.wrap_u64]
  have h2 : n % 2 ^ j < 2 ^ j := Nat.mod_lt _ h0
  have h3 : (((2 ^ j : Nat)) : Int) = 2 ^ j := by simp
  rw [← h3]
  omega
theorem xor_nat (s m : Int) (hs : 0 ≤ s ∧ s < 64) (hm : 0 ≤ m ∧ m < 64) : bits .xor .i64 s m = xr s m := by
  have h1 := xor64 s m
  have h2 := xr_bd s m hs hm
  have h3 : 0 ≤ bits .xor .i64 s m ∧ bits .xor .i64 s m < 64 := by
    obtain ⟨a, rfl⟩ := Int.eq_ofNat_of_zero_le hs.1
    obtain ⟨b, rfl⟩ := Int.eq_ofNat_of_zero_le hm.1
    have h4 : a ^^^ b < 2 ^ 6 := Nat.xor_lt_two_pow (by omega) (by omega)
    have h5 : bits .xor .i64 (a : Int) (b : Int) = ((a ^^^ b : Nat) : Int) := by
      show IntKind.i64.wrap ((BitVec.ofInt 64 (a : Int) ^^^ BitVec.ofInt 64 (b : Int)).toNat : Int) = _
      rw [BitVec.toNat_xor, BitVec.ofInt_natCast, BitVec.ofInt_natCast, BitVec.toNat_ofNat, BitVec.toNat_ofNat, Nat.mod_eq_of_lt (by omega), Nat.mod_eq_of_lt (by omega), IntKind.wrap_i64]
      omega
    rw [h5]
    omega
  rw [show s % 64 = s from by omega, show m % 64 = m from by omega] at h1
  omega

theorem apart1 (c : Int) (w : World) :
    Calls Try.prog 23 #[shV 4096, .int .i64 c] w fun e' w' => e' = .returned (ptV (c / (64 * 4096) % 4) (c / 4096 % 64) (c % 4096)) ∧ Below w.heap.size w w' := by
  rw [shV1]
  unfold ptV
  go_enter Try.func23, Try.ntmps23
  go_wp2_with fail
  have dS : w.heap.size + 1 ≠ w.heap.size := by omega
  have lR : w.heap.size ≤ w.heap.size + 1 := by omega
  have CS := Ce.made (w := w) (l := [.int .u64 18, .int .u64 2, .int .u64 12, .int .u64 6, .int .u64 0, .int .u64 12]) (T := 50) (g := w.heap.size) rfl
  replace CS := CS.alloc (.cells #[.int .i64 0, .int .i64 0, .int .i64 0] 54)
  have CR := Ce.made (w := (w.alloc (.cells #[.int .u64 18, .int .u64 2, .int .u64 12, .int .u64 6, .int .u64 0, .int .u64 12] 50))) (l := [.int .i64 0, .int .i64 0, .int .i64 0]) (T := 54) (g := w.heap.size + 1) (by simp)
  have B : Below w.heap.size w ((w.alloc (.cells #[.int .u64 18, .int .u64 2, .int .u64 12, .int .u64 6, .int .u64 0, .int .u64 12] 50)).alloc (.cells #[.int .i64 0, .int .i64 0, .int .i64 0] 54)) := (((Below.refl w.heap.size w).alloc (by first | exact Nat.le_refl _ | (simp; done) | (simp; omega)) (.cells #[.int .u64 18, .int .u64 2, .int .u64 12, .int .u64 6, .int .u64 0, .int .u64 12] 50)).alloc (by first | exact Nat.le_refl _ | (simp; done) | (simp; omega)) (.cells #[.int .i64 0, .int .i64 0, .int .i64 0] 54))
  generalize (w.alloc (.cells #[.int .u64 18, .int .u64 2, .int .u64 12, .int .u64 6, .int .u64 0, .int .u64 12] 50)).alloc (.cells #[.int .i64 0, .int .i64 0, .int .i64 0] 54) = w1 at *
  generalize w.heap.size + 1 = R at *
  generalize hK : w.heap.size = S at *
  obtain ⟨kS, qS, zS⟩ := CS
  have cS0 := qS 0 _ rfl
  have cS1 := qS 1 _ rfl
  have cS2 := qS 2 _ rfl
  have cS3 := qS 3 _ rfl
  have cS4 := qS 4 _ rfl
  have cS5 := qS 5 _ rfl
  clear qS zS
  obtain ⟨kR, qR, zR⟩ := CR
  have cR0 := qR 0 _ rfl
  have cR1 := qR 1 _ rfl
  have cR2 := qR 2 _ rfl
  have zR0 := zR 0
  have zR1 := zR 1
  have zR2 := zR 2
  clear qR zR
  replace cR0 := cv_of cR0
  replace cR1 := cv_of cR1
  replace cR2 := cv_of cR2
  go_region_held3 (fun w' => w'.cell? ⟨S, 0, none⟩ = some (.int .u64 18) ∧ w'.cell? ⟨S, 1, none⟩ = some (.int .u64 2) ∧ w'.cell? ⟨S, 2, none⟩ = some (.int .u64 12) ∧ w'.cell? ⟨S, 3, none⟩ = some (.int .u64 6) ∧ w'.cell? ⟨S, 4, none⟩ = some (.int .u64 0) ∧ w'.cell? ⟨S, 5, none⟩ = some (.int .u64 12) ∧ S < w'.heap.size ∧ R < w'.heap.size ∧ w'.cell? ⟨R, 0, none⟩ = some (cv w' R 0) ∧ w'.cell? ⟨R, 1, none⟩ = some (cv w' R 1) ∧ w'.cell? ⟨R, 2, none⟩ = some (cv w' R 2) ∧ w'.frozen? ⟨R, 0, none⟩ = false ∧ w'.frozen? ⟨R, 1, none⟩ = false ∧ w'.frozen? ⟨R, 2, none⟩ = false ∧ Below S w w')
    (first
      | (go_split_ands; refine ⟨?_, ?_, ?_, ?_, ?_, ?_, ?_, ?_, ?_, ?_, ?_, ?_, ?_, ?_, ?_⟩; with_reducible exact ((World.cell?_setCell_far _ _ _ _ dS).trans ((World.cell?_setCell_far _ _ _ _ dS).trans ((World.cell?_setCell_far _ _ _ _ dS).trans (by assumption)))); with_reducible exact ((World.cell?_setCell_far _ _ _ _ dS).trans ((World.cell?_setCell_far _ _ _ _ dS).trans ((World.cell?_setCell_far _ _ _ _ dS).trans (by assumption)))); with_reducible exact ((World.cell?_setCell_far _ _ _ _ dS).trans ((World.cell?_setCell_far _ _ _ _ dS).trans ((World.cell?_setCell_far _ _ _ _ dS).trans (by assumption)))); with_reducible exact ((World.cell?_setCell_far _ _ _ _ dS).trans ((World.cell?_setCell_far _ _ _ _ dS).trans ((World.cell?_setCell_far _ _ _ _ dS).trans (by assumption)))); with_reducible exact ((World.cell?_setCell_far _ _ _ _ dS).trans ((World.cell?_setCell_far _ _ _ _ dS).trans ((World.cell?_setCell_far _ _ _ _ dS).trans (by assumption)))); with_reducible exact ((World.cell?_setCell_far _ _ _ _ dS).trans ((World.cell?_setCell_far _ _ _ _ dS).trans ((World.cell?_setCell_far _ _ _ _ dS).trans (by assumption)))); with_reducible exact Nat.lt_of_lt_of_le (by assumption) (Below.setCell (Below.setCell (Below.setCell (Below.refl 0 _) (Nat.zero_le _) _) (Nat.zero_le _) _) (Nat.zero_le _) _).size; with_reducible exact Nat.lt_of_lt_of_le (by assumption) (Below.setCell (Below.setCell (Below.setCell (Below.refl 0 _) (Nat.zero_le _) _) (Nat.zero_le _) _) (Nat.zero_le _) _).size; with_reducible exact (cv_set (cv_set (cv_set (by assumption)))); with_reducible exact (cv_set (cv_set (cv_set (by assumption)))); with_reducible exact (cv_set (cv_set (cv_set (by assumption)))); (simp only [World.frozen?_setCell]; assumption); (simp only [World.frozen?_setCell]; assumption); (simp only [World.frozen?_setCell]; assumption); with_reducible exact (Below.setCell (Below.setCell (Below.setCell (by assumption) lR _) lR _) lR _))
      | (go_split_ands; refine ⟨?_, ?_, ?_, ?_, ?_, ?_, ?_, ?_, ?_, ?_, ?_, ?_, ?_, ?_, ?_⟩; exact (hb5.cell (p := ⟨S, 0, none⟩) (by assumption)).trans (by assumption); exact (hb5.cell (p := ⟨S, 1, none⟩) (by assumption)).trans (by assumption); exact (hb5.cell (p := ⟨S, 2, none⟩) (by assumption)).trans (by assumption); exact (hb5.cell (p := ⟨S, 3, none⟩) (by assumption)).trans (by assumption); exact (hb5.cell (p := ⟨S, 4, none⟩) (by assumption)).trans (by assumption); exact (hb5.cell (p := ⟨S, 5, none⟩) (by assumption)).trans (by assumption); exact Nat.lt_of_lt_of_le (by assumption) hb5.size; exact Nat.lt_of_lt_of_le (by assumption) hb5.size; exact cv_of ((hb5.cell (p := ⟨R, 0, none⟩) (by assumption)).trans (by assumption)); exact cv_of ((hb5.cell (p := ⟨R, 1, none⟩) (by assumption)).trans (by assumption)); exact cv_of ((hb5.cell (p := ⟨R, 2, none⟩) (by assumption)).trans (by assumption)); exact (World.frozen?_of_block (a := ⟨R, 0, none⟩) (hb5.block R (by assumption))).trans (by assumption); exact (World.frozen?_of_block (a := ⟨R, 1, none⟩) (hb5.block R (by assumption))).trans (by assumption); exact (World.frozen?_of_block (a := ⟨R, 2, none⟩) (hb5.block R (by assumption))).trans (by assumption); exact Below.trans (by assumption) (hb5.mono (by first | exact Nat.le_of_lt (by assumption) | exact Below.size (by assumption))))
      | (refine ⟨?_, ?_, ?_, ?_, ?_, ?_, ?_, ?_, ?_, ?_, ?_, ?_, ?_, ?_, ?_⟩; assumption; assumption; assumption; assumption; assumption; assumption; assumption; assumption; assumption; assumption; assumption; assumption; assumption; assumption; exact Below.drew (by assumption))
      | (go_split_ands; refine ⟨?_, ?_, ?_, ?_, ?_, ?_, ?_, ?_, ?_, ?_, ?_, ?_, ?_, ?_, ?_⟩; exact (World.cell?_alloc_lt _ _ ⟨S, 0, none⟩ (by assumption)).trans (by assumption); exact (World.cell?_alloc_lt _ _ ⟨S, 1, none⟩ (by assumption)).trans (by assumption); exact (World.cell?_alloc_lt _ _ ⟨S, 2, none⟩ (by assumption)).trans (by assumption); exact (World.cell?_alloc_lt _ _ ⟨S, 3, none⟩ (by assumption)).trans (by assumption); exact (World.cell?_alloc_lt _ _ ⟨S, 4, none⟩ (by assumption)).trans (by assumption); exact (World.cell?_alloc_lt _ _ ⟨S, 5, none⟩ (by assumption)).trans (by assumption); (simp; omega); (simp; omega); exact cv_of ((World.cell?_alloc_lt _ _ ⟨R, 0, none⟩ (by assumption)).trans (by assumption)); exact cv_of ((World.cell?_alloc_lt _ _ ⟨R, 1, none⟩ (by assumption)).trans (by assumption)); exact cv_of ((World.cell?_alloc_lt _ _ ⟨R, 2, none⟩ (by assumption)).trans (by assumption)); exact (World.frozen?_of_block (a := ⟨R, 0, none⟩) (((Below.refl _ _).alloc (Nat.le_refl _) _).block R (by assumption))).trans (by assumption); exact (World.frozen?_of_block (a := ⟨R, 1, none⟩) (((Below.refl _ _).alloc (Nat.le_refl _) _).block R (by assumption))).trans (by assumption); exact (World.frozen?_of_block (a := ⟨R, 2, none⟩) (((Below.refl _ _).alloc (Nat.le_refl _) _).block R (by assumption))).trans (by assumption); exact Below.alloc (by assumption) (by first | exact Nat.le_of_lt (by assumption) | exact Below.size (by assumption)) _)
      | (go_split_ands; refine ⟨?_, ?_, ?_, ?_, ?_, ?_, ?_, ?_, ?_, ?_, ?_, ?_, ?_, ?_, ?_⟩; assumption; assumption; assumption; assumption; assumption; assumption; assumption; assumption; assumption; assumption; assumption; assumption; assumption; assumption; assumption)
      | go_keep)
    ((first
      | (go_at_call 38
         go_split_ands
         with_reducible refine (ofI 18 2 _ _ ?_).mono ?_
         · decide
         rintro e5 w5 ⟨rfl, hb5⟩)
      | (go_at_call 38
         go_split_ands
         with_reducible refine (ofI 12 6 _ _ ?_).mono ?_
         · decide
         rintro e5 w5 ⟨rfl, hb5⟩)
      | (go_at_call 38
         go_split_ands
         with_reducible refine (ofI 0 12 _ _ ?_).mono ?_
         · decide
         rintro e5 w5 ⟨rfl, hb5⟩)))
  all_goals
    go_split_ands
    go_wp2_with fail
    have T := set3 (R := R) (by assumption) (by assumption) (by assumption)
    obtain ⟨t0, t1, t2⟩ := T
    refine at_world (fun w9 => w9.cell? ⟨R, 0, none⟩ = some (.int .i64 (c / (64 * 4096) % 4)) ∧ w9.cell? ⟨R, 1, none⟩ = some (.int .i64 (c / 4096 % 64)) ∧ w9.cell? ⟨R, 2, none⟩ = some (.int .i64 (c % 4096)) ∧ Below S w w9) ⟨t0.trans (by simp), t1.trans (by simp), t2.trans (by simp), by assumption⟩ ?_
    clear t0 t1 t2
    rintro w9 ⟨t0, t1, t2, hb9⟩
    refine bodyPost_ret (v := .agg #[.int .i64 (c / (64 * 4096) % 4), .int .i64 (c / 4096 % 64), .int .i64 (c % 4096)]) (by simp [results, Try.results23, go_sem, t0, t1, t2]) rfl ⟨rfl, ?_⟩
    rw [hK]
    exact hb9
theorem cook1 (k : Ky) (kd : Int) (f : Fl) (x e : Int) (hf : f.I) (hk : kd = 1) (hx : 0 ≤ x ∧ x < 64) (he : 0 ≤ e ∧ e < 4) (w : World) :
    Calls Try.prog 30 #[kyV k, .int .i64 kd, flV f, .int .i64 x, .int .i64 e] w fun e' w' => e' = .returned (.int .i64 (cok 4096 k kd f x e)) ∧ Below w.heap.size w w' := by
  have hkI : I64 kd := by subst hk; exact ⟨by omega, by omega⟩
  have W1 := fun w => word_any k kd f 64 e hf hkI ⟨by omega, by omega⟩ ⟨by omega, by omega⟩ w
  have W2 := fun w => word_any k kd f x e hf hkI ⟨by omega, by omega⟩ ⟨by omega, by omega⟩ w
  have u1 := W7_U k kd f 64 e
  have u2 := W7_U k kd f x e
  have hc : Hid (e * (64 * 4096) + xr x (W7 k kd f 64 e % 64) * 4096 + W7 k kd f x e % 4096 = cok 4096 k kd f x e) := rfl
  subst hk
  unfold kyV flV at *
  generalize W7 k 1 f 64 e = a at *
  generalize W7 k 1 f x e = b at *
  have ha := uand a 6 (by omega) u1
  have hb := uand b 12 (by omega) u2
  change bits .and .u64 a 63 = a % 64 at ha
  change bits .and .u64 b 4095 = b % 4096 at hb
  have hxr := xor_nat x (a % 64) hx (by omega)
  have hm := xr_bd x (a % 64) hx (by omega)
  generalize hmm : xr x (a % 64) = m at *
  clear hmm
  obtain ⟨hx1, hx2⟩ := hx
  obtain ⟨he1, he2⟩ := he
  obtain ⟨hm1, hm2⟩ := hm
  obtain ⟨u11, u12⟩ := u1
  obtain ⟨u21, u22⟩ := u2
  have hfin : Hid (bits .or .i64 (bits .or .i64 (e * 262144) (m * 4096)) (b % 4096) = e * (64 * 4096) + m * 4096 + b % 4096) := by
    have := tog1 e m (b % 4096) (by omega) (by omega) (by omega)
    rwa [show e % 4 = e from by omega, show m % 64 = m from by omega, show b % 4096 % 4096 = b % 4096 from by omega] at this
  replace W1 := hid W1
  replace W2 := hid W2
  go_enter Try.func30, Try.ntmps30
  go_wp2_with fail
  have CK := Ce.made (w := w) (l := [.int .u64 k.a, .int .u64 k.b]) (T := 25) (g := w.heap.size) rfl
  replace CK := CK.alloc (.cells #[.int .i64 f.a, .int .i64 f.p, .int .i64 f.ta, .int .i64 f.tp] 30)
  have CF := Ce.made (w := (w.alloc (.cells #[.int .u64 k.a, .int .u64 k.b] 25))) (l := [.int .i64 f.a, .int .i64 f.p, .int .i64 f.ta, .int .i64 f.tp]) (T := 30) (g := w.heap.size + 1) (by simp)
  have B : Below w.heap.size w ((w.alloc (.cells #[.int .u64 k.a, .int .u64 k.b] 25)).alloc (.cells #[.int .i64 f.a, .int .i64 f.p, .int .i64 f.ta, .int .i64 f.tp] 30)) := (((Below.refl w.heap.size w).alloc (by first | exact Nat.le_refl _ | (simp; done) | (simp; omega)) (.cells #[.int .u64 k.a, .int .u64 k.b] 25)).alloc (by first | exact Nat.le_refl _ | (simp; done) | (simp; omega)) (.cells #[.int .i64 f.a, .int .i64 f.p, .int .i64 f.ta, .int .i64 f.tp] 30))
  generalize (w.alloc (.cells #[.int .u64 k.a, .int .u64 k.b] 25)).alloc (.cells #[.int .i64 f.a, .int .i64 f.p, .int .i64 f.ta, .int .i64 f.tp] 30) = w1 at *
  generalize w.heap.size + 1 = F at *
  generalize hK : w.heap.size = K at *
  refine (bits_any 1 4096 _ (by exact .inl ⟨rfl, rfl⟩)).mono ?_
  rintro e' w2 ⟨rfl, rfl⟩
  obtain ⟨kK, qK, zK⟩ := id CK
  have cK0 := qK 0 _ rfl
  have cK1 := qK 1 _ rfl
  obtain ⟨kF, qF, zF⟩ := id CF
  have cF0 := qF 0 _ rfl
  have cF1 := qF 1 _ rfl
  have cF2 := qF 2 _ rfl
  have cF3 := qF 3 _ rfl
  clear qK qF zK zF
  go_wp2_with fail
  refine (W1.out _).mono ?_
  rintro e' w2 ⟨rfl, hb⟩
  clear cK0 cK1 cF0 cF1 cF2 cF3
  replace B := B.trans (hb.mono (Nat.le_of_lt kK))
  replace CK := CK.below hb
  replace CF := CF.below hb
  obtain ⟨kK, qK, zK⟩ := CK
  have cK0 := qK 0 _ rfl
  have cK1 := qK 1 _ rfl
  obtain ⟨kF, qF, zF⟩ := CF
  have cF0 := qF 0 _ rfl
  have cF1 := qF 1 _ rfl
  have cF2 := qF 2 _ rfl
  have cF3 := qF 3 _ rfl
  clear qK qF zK zF
  go_wp2_with fail
  refine (W2.out _).mono ?_
  rintro e' w3 ⟨rfl, hb3⟩
  replace B := B.trans (hb3.mono (Nat.le_of_lt kK))
  go_wp2_with fail
  go_ret
  refine ⟨ret_i64 (hfin.out.trans hc.out), ?_⟩
  rw [hK]
  exact B
theorem apart2 (c : Int) (w : World) :
    Calls Try.prog 23 #[shV 256, .int .i64 c] w fun e' w' => e' = .returned (ptV (c / (64 * 256) % 4) (c / 256 % 64) (c % 256)) ∧ Below w.heap.size w w' := by
  rw [shV2]
  unfold ptV
  go_enter Try.func23, Try.ntmps23
  go_wp2_with fail
  have dS : w.heap.size + 1 ≠ w.heap.size := by omega
  have lR : w.heap.size ≤ w.heap.size + 1 := by omega
  have CS := Ce.made (w := w) (l := [.int .u64 14, .int .u64 2, .int .u64 8, .int .u64 6, .int .u64 0, .int .u64 8]) (T := 50) (g := w.heap.size) rfl
  replace CS := CS.alloc (.cells #[.int .i64 0, .int .i64 0, .int .i64 0] 54)
  have CR := Ce.made (w := (w.alloc (.cells #[.int .u64 14, .int .u64 2, .int .u64 8, .int .u64 6, .int .u64 0, .int .u64 8] 50))) (l := [.int .i64 0, .int .i64 0, .int .i64 0]) (T := 54) (g := w.heap.size + 1) (by simp)
  have B : Below w.heap.size w ((w.alloc (.cells #[.int .u64 14, .int .u64 2, .int .u64 8, .int .u64 6, .int .u64 0, .int .u64 8] 50)).alloc (.cells #[.int .i64 0, .int .i64 0, .int .i64 0] 54)) := (((Below.refl w.heap.size w).alloc (by first | exact Nat.le_refl _ | (simp; done) | (simp; omega)) (.cells #[.int .u64 14, .int .u64 2, .int .u64 8, .int .u64 6, .int .u64 0, .int .u64 8] 50)).alloc (by first | exact Nat.le_refl _ | (simp; done) | (simp; omega)) (.cells #[.int .i64 0, .int .i64 0, .int .i64 0] 54))
  generalize (w.alloc (.cells #[.int .u64 14, .int .u64 2, .int .u64 8, .int .u64 6, .int .u64 0, .int .u64 8] 50)).alloc (.cells #[.int .i64 0, .int .i64 0, .int .i64 0] 54) = w1 at *
  generalize w.heap.size + 1 = R at *
  generalize hK : w.heap.size = S at *
  obtain ⟨kS, qS, zS⟩ := CS
  have cS0 := qS 0 _ rfl
  have cS1 := qS 1 _ rfl
  have cS2 := qS 2 _ rfl
  have cS3 := qS 3 _ rfl
  have cS4 := qS 4 _ rfl
  have cS5 := qS 5 _ rfl
  clear qS zS
  obtain ⟨kR, qR, zR⟩ := CR
  have cR0 := qR 0 _ rfl
  have cR1 := qR 1 _ rfl
  have cR2 := qR 2 _ rfl
  have zR0 := zR 0
  have zR1 := zR 1
  have zR2 := zR 2
  clear qR zR
  replace cR0 := cv_of cR0
  replace cR1 := cv_of cR1
  replace cR2 := cv_of cR2
  go_region_held3 (fun w' => w'.cell? ⟨S, 0, none⟩ = some (.int .u64 14) ∧ w'.cell? ⟨S, 1, none⟩ = some (.int .u64 2) ∧ w'.cell? ⟨S, 2, none⟩ = some (.int .u64 8) ∧ w'.cell? ⟨S, 3, none⟩ = some (.int .u64 6) ∧ w'.cell? ⟨S, 4, none⟩ = some (.int .u64 0) ∧ w'.cell? ⟨S, 5, none⟩ = some (.int .u64 8) ∧ S < w'.heap.size ∧ R < w'.heap.size ∧ w'.cell? ⟨R, 0, none⟩ = some (cv w' R 0) ∧ w'.cell? ⟨R, 1, none⟩ = some (cv w' R 1) ∧ w'.cell? ⟨R, 2, none⟩ = some (cv w' R 2) ∧ w'.frozen? ⟨R, 0, none⟩ = false ∧ w'.frozen? ⟨R, 1, none⟩ = false ∧ w'.frozen? ⟨R, 2, none⟩ = false ∧ Below S w w')
    (first
      | (go_split_ands; refine ⟨?_, ?_, ?_, ?_, ?_, ?_, ?_, ?_, ?_, ?_, ?_, ?_, ?_, ?_, ?_⟩; with_reducible exact ((World.cell?_setCell_far _ _ _ _ dS).trans ((World.cell?_setCell_far _ _ _ _ dS).trans ((World.cell?_setCell_far _ _ _ _ dS).trans (by assumption)))); with_reducible exact ((World.cell?_setCell_far _ _ _ _ dS).trans ((World.cell?_setCell_far _ _ _ _ dS).trans ((World.cell?_setCell_far _ _ _ _ dS).trans (by assumption)))); with_reducible exact ((World.cell?_setCell_far _ _ _ _ dS).trans ((World.cell?_setCell_far _ _ _ _ dS).trans ((World.cell?_setCell_far _ _ _ _ dS).trans (by assumption)))); with_reducible exact ((World.cell?_setCell_far _ _ _ _ dS).trans ((World.cell?_setCell_far _ _ _ _ dS).trans ((World.cell?_setCell_far _ _ _ _ dS).trans (by assumption)))); with_reducible exact ((World.cell?_setCell_far _ _ _ _ dS).trans ((World.cell?_setCell_far _ _ _ _ dS).trans ((World.cell?_setCell_far _ _ _ _ dS).trans (by assumption)))); with_reducible exact ((World.cell?_setCell_far _ _ _ _ dS).trans ((World.cell?_setCell_far _ _ _ _ dS).trans ((World.cell?_setCell_far _ _ _ _ dS).trans (by assumption)))); with_reducible exact Nat.lt_of_lt_of_le (by assumption) (Below.setCell (Below.setCell (Below.setCell (Below.refl 0 _) (Nat.zero_le _) _) (Nat.zero_le _) _) (Nat.zero_le _) _).size; with_reducible exact Nat.lt_of_lt_of_le (by assumption) (Below.setCell (Below.setCell (Below.setCell (Below.refl 0 _) (Nat.zero_le _) _) (Nat.zero_le _) _) (Nat.zero_le _) _).size; with_reducible exact (cv_set (cv_set (cv_set (by assumption)))); with_reducible exact (cv_set (cv_set (cv_set (by assumption)))); with_reducible exact (cv_set (cv_set (cv_set (by assumption)))); (simp only [World.frozen?_setCell]; assumption); (simp only [World.frozen?_setCell]; assumption); (simp only [World.frozen?_setCell]; assumption); with_reducible exact (Below.setCell (Below.setCell (Below.setCell (by assumption) lR _) lR _) lR _))
      | (go_split_ands; refine ⟨?_, ?_, ?_, ?_, ?_, ?_, ?_, ?_, ?_, ?_, ?_, ?_, ?_, ?_, ?_⟩; exact (hb5.cell (p := ⟨S, 0, none⟩) (by assumption)).trans (by assumption); exact (hb5.cell (p := ⟨S, 1, none⟩) (by assumption)).trans (by assumption); exact (hb5.cell (p := ⟨S, 2, none⟩) (by assumption)).trans (by assumption); exact (hb5.cell (p := ⟨S, 3, none⟩) (by assumption)).trans (by assumption); exact (hb5.cell (p := ⟨S, 4, none⟩) (by assumption)).trans (by assumption); exact (hb5.cell (p := ⟨S, 5, none⟩) (by assumption)).trans (by assumption); exact Nat.lt_of_lt_of_le (by assumption) hb5.size; exact Nat.lt_of_lt_of_le (by assumption) hb5.size; exact cv_of ((hb5.cell (p := ⟨R, 0, none⟩) (by assumption)).trans (by assumption)); exact cv_of ((hb5.cell (p := ⟨R, 1, none⟩) (by assumption)).trans (by assumption)); exact cv_of ((hb5.cell (p := ⟨R, 2, none⟩) (by assumption)).trans (by assumption)); exact (World.frozen?_of_block (a := ⟨R, 0, none⟩) (hb5.block R (by assumption))).trans (by assumption); exact (World.frozen?_of_block (a := ⟨R, 1, none⟩) (hb5.block R (by assumption))).trans (by assumption); exact (World.frozen?_of_block (a := ⟨R, 2, none⟩) (hb5.block R (by assumption))).trans (by assumption); exact Below.trans (by assumption) (hb5.mono (by first | exact Nat.le_of_lt (by assumption) | exact Below.size (by assumption))))
      | (refine ⟨?_, ?_, ?_, ?_, ?_, ?_, ?_, ?_, ?_, ?_, ?_, ?_, ?_, ?_, ?_⟩; assumption; assumption; assumption; assumption; assumption; assumption; assumption; assumption; assumption; assumption; assumption; assumption; assumption; assumption; exact Below.drew (by assumption))
      | (go_split_ands; refine ⟨?_, ?_, ?_, ?_, ?_, ?_, ?_, ?_, ?_, ?_, ?_, ?_, ?_, ?_, ?_⟩; exact (World.cell?_alloc_lt _ _ ⟨S, 0, none⟩ (by assumption)).trans (by assumption); exact (World.cell?_alloc_lt _ _ ⟨S, 1, none⟩ (by assumption)).trans (by assumption); exact (World.cell?_alloc_lt _ _ ⟨S, 2, none⟩ (by assumption)).trans (by assumption); exact (World.cell?_alloc_lt _ _ ⟨S, 3, none⟩ (by assumption)).trans (by assumption); exact (World.cell?_alloc_lt _ _ ⟨S, 4, none⟩ (by assumption)).trans (by assumption); exact (World.cell?_alloc_lt _ _ ⟨S, 5, none⟩ (by assumption)).trans (by assumption); (simp; omega); (simp; omega); exact cv_of ((World.cell?_alloc_lt _ _ ⟨R, 0, none⟩ (by assumption)).trans (by assumption)); exact cv_of ((World.cell?_alloc_lt _ _ ⟨R, 1, none⟩ (by assumption)).trans (by assumption)); exact cv_of ((World.cell?_alloc_lt _ _ ⟨R, 2, none⟩ (by assumption)).trans (by assumption)); exact (World.frozen?_of_block (a := ⟨R, 0, none⟩) (((Below.refl _ _).alloc (Nat.le_refl _) _).block R (by assumption))).trans (by assumption); exact (World.frozen?_of_block (a := ⟨R, 1, none⟩) (((Below.refl _ _).alloc (Nat.le_refl _) _).block R (by assumption))).trans (by assumption); exact (World.frozen?_of_block (a := ⟨R, 2, none⟩) (((Below.refl _ _).alloc (Nat.le_refl _) _).block R (by assumption))).trans (by assumption); exact Below.alloc (by assumption) (by first | exact Nat.le_of_lt (by assumption) | exact Below.size (by assumption)) _)
      | (go_split_ands; refine ⟨?_, ?_, ?_, ?_, ?_, ?_, ?_, ?_, ?_, ?_, ?_, ?_, ?_, ?_, ?_⟩; assumption; assumption; assumption; assumption; assumption; assumption; assumption; assumption; assumption; assumption; assumption; assumption; assumption; assumption; assumption)
      | go_keep)
    ((first
      | (go_at_call 38
         go_split_ands
         with_reducible refine (ofI 14 2 _ _ ?_).mono ?_
         · decide
         rintro e5 w5 ⟨rfl, hb5⟩)
      | (go_at_call 38
         go_split_ands
         with_reducible refine (ofI 8 6 _ _ ?_).mono ?_
         · decide
         rintro e5 w5 ⟨rfl, hb5⟩)
      | (go_at_call 38
         go_split_ands
         with_reducible refine (ofI 0 8 _ _ ?_).mono ?_
         · decide
         rintro e5 w5 ⟨rfl, hb5⟩)))
  all_goals
    go_split_ands
    go_wp2_with fail
    have T := set3 (R := R) (by assumption) (by assumption) (by assumption)
    obtain ⟨t0, t1, t2⟩ := T
    refine at_world (fun w9 => w9.cell? ⟨R, 0, none⟩ = some (.int .i64 (c / (64 * 256) % 4)) ∧ w9.cell? ⟨R, 1, none⟩ = some (.int .i64 (c / 256 % 64)) ∧ w9.cell? ⟨R, 2, none⟩ = some (.int .i64 (c % 256)) ∧ Below S w w9) ⟨t0.trans (by simp), t1.trans (by simp), t2.trans (by simp), by assumption⟩ ?_
    clear t0 t1 t2
    rintro w9 ⟨t0, t1, t2, hb9⟩
    refine bodyPost_ret (v := .agg #[.int .i64 (c / (64 * 256) % 4), .int .i64 (c / 256 % 64), .int .i64 (c % 256)]) (by simp [results, Try.results23, go_sem, t0, t1, t2]) rfl ⟨rfl, ?_⟩
    rw [hK]
    exact hb9
theorem cook2 (k : Ky) (kd : Int) (f : Fl) (x e : Int) (hf : f.I) (hk : kd = 2) (hx : 0 ≤ x ∧ x < 64) (he : 0 ≤ e ∧ e < 4) (w : World) :
    Calls Try.prog 30 #[kyV k, .int .i64 kd, flV f, .int .i64 x, .int .i64 e] w fun e' w' => e' = .returned (.int .i64 (cok 256 k kd f x e)) ∧ Below w.heap.size w w' := by
  have hkI : I64 kd := by subst hk; exact ⟨by omega, by omega⟩
  have W1 := fun w => word_any k kd f 64 e hf hkI ⟨by omega, by omega⟩ ⟨by omega, by omega⟩ w
  have W2 := fun w => word_any k kd f x e hf hkI ⟨by omega, by omega⟩ ⟨by omega, by omega⟩ w
  have u1 := W7_U k kd f 64 e
  have u2 := W7_U k kd f x e
  have hc : Hid (e * (64 * 256) + xr x (W7 k kd f 64 e % 64) * 256 + W7 k kd f x e % 256 = cok 256 k kd f x e) := rfl
  subst hk
  unfold kyV flV at *
  generalize W7 k 2 f 64 e = a at *
  generalize W7 k 2 f x e = b at *
  have ha := uand a 6 (by omega) u1
  have hb := uand b 8 (by omega) u2
  change bits .and .u64 a 63 = a % 64 at ha
  change bits .and .u64 b 255 = b % 256 at hb
  have hxr := xor_nat x (a % 64) hx (by omega)
  have hm := xr_bd x (a % 64) hx (by omega)
  generalize hmm : xr x (a % 64) = m at *
  clear hmm
  obtain ⟨hx1, hx2⟩ := hx
  obtain ⟨he1, he2⟩ := he
  obtain ⟨hm1, hm2⟩ := hm
  obtain ⟨u11, u12⟩ := u1
  obtain ⟨u21, u22⟩ := u2
  have hfin : Hid (bits .or .i64 (bits .or .i64 (e * 16384) (m * 256)) (b % 256) = e * (64 * 256) + m * 256 + b % 256) := by
    have := tog2 e m (b % 256) (by omega) (by omega) (by omega)
    rwa [show e % 4 = e from by omega, show m % 64 = m from by omega, show b % 256 % 256 = b % 256 from by omega] at this
  replace W1 := hid W1
  replace W2 := hid W2
  go_enter Try.func30, Try.ntmps30
  go_wp2_with fail
  have CK := Ce.made (w := w) (l := [.int .u64 k.a, .int .u64 k.b]) (T := 25) (g := w.heap.size) rfl
  replace CK := CK.alloc (.cells #[.int .i64 f.a, .int .i64 f.p, .int .i64 f.ta, .int .i64 f.tp] 30)
  have CF := Ce.made (w := (w.alloc (.cells #[.int .u64 k.a, .int .u64 k.b] 25))) (l := [.int .i64 f.a, .int .i64 f.p, .int .i64 f.ta, .int .i64 f.tp]) (T := 30) (g := w.heap.size + 1) (by simp)
  have B : Below w.heap.size w ((w.alloc (.cells #[.int .u64 k.a, .int .u64 k.b] 25)).alloc (.cells #[.int .i64 f.a, .int .i64 f.p, .int .i64 f.ta, .int .i64 f.tp] 30)) := (((Below.refl w.heap.size w).alloc (by first | exact Nat.le_refl _ | (simp; done) | (simp; omega)) (.cells #[.int .u64 k.a, .int .u64 k.b] 25)).alloc (by first | exact Nat.le_refl _ | (simp; done) | (simp; omega)) (.cells #[.int .i64 f.a, .int .i64 f.p, .int .i64 f.ta, .int .i64 f.tp] 30))
  generalize (w.alloc (.cells #[.int .u64 k.a, .int .u64 k.b] 25)).alloc (.cells #[.int .i64 f.a, .int .i64 f.p, .int .i64 f.ta, .int .i64 f.tp] 30) = w1 at *
  generalize w.heap.size + 1 = F at *
  generalize hK : w.heap.size = K at *
  refine (bits_any 2 256 _ (by exact .inr ⟨rfl, rfl⟩)).mono ?_
  rintro e' w2 ⟨rfl, rfl⟩
  obtain ⟨kK, qK, zK⟩ := id CK
  have cK0 := qK 0 _ rfl
  have cK1 := qK 1 _ rfl
  obtain ⟨kF, qF, zF⟩ := id CF
  have cF0 := qF 0 _ rfl
  have cF1 := qF 1 _ rfl
  have cF2 := qF 2 _ rfl
  have cF3 := qF 3 _ rfl
  clear qK qF zK zF
  go_wp2_with fail
  refine (W1.out _).mono ?_
  rintro e' w2 ⟨rfl, hb⟩
  clear cK0 cK1 cF0 cF1 cF2 cF3
  replace B := B.trans (hb.mono (Nat.le_of_lt kK))
  replace CK := CK.below hb
  replace CF := CF.below hb
  obtain ⟨kK, qK, zK⟩ := CK
  have cK0 := qK 0 _ rfl
  have cK1 := qK 1 _ rfl
  obtain ⟨kF, qF, zF⟩ := CF
  have cF0 := qF 0 _ rfl
  have cF1 := qF 1 _ rfl
  have cF2 := qF 2 _ rfl
  have cF3 := qF 3 _ rfl
  clear qK qF zK zF
  go_wp2_with fail
  refine (W2.out _).mono ?_
  rintro e' w3 ⟨rfl, hb3⟩
  replace B := B.trans (hb3.mono (Nat.le_of_lt kK))
  go_wp2_with fail
  go_ret
  refine ⟨ret_i64 (hfin.out.trans hc.out), ?_⟩
  rw [hK]
  exact B

end Go.Proofs.Ytfokkmemjkfifab
