/- Bytes that are written over. -/
import Derived.Test.YtjljaecjnpmdoaaWirSmd
import Derived.BigQuiet
import Derived.Deep.RegionHeld3
import Derived.Deep.Cut
namespace Go.Proofs.Ytjljaecjnpmdoaa
set_option linter.unusedVariables false
set_option linter.unusedSimpArgs false
open Go.RowKit Go.ChangeShapes Go.WideShapes Go.ChangeAt

theorem and_even (a : Nat) : a &&& 18446744073709551614 = (a - a % 2) % 18446744073709551616 := by
  apply Nat.eq_of_testBit_eq
  intro i
  rw [Nat.testBit_and, show a - a % 2 = 2 * (a / 2) from by omega, show (18446744073709551614 : Nat) = 2 * (2 ^ 63 - 1) from by decide, show (18446744073709551616 : Nat) = 2 ^ 64 from by decide, Nat.testBit_mod_two_pow]
  cases i with
  | zero => simp [Nat.testBit_zero]
  | succ i =>
    rw [Nat.testBit_succ, Nat.testBit_succ, Nat.testBit_succ, Nat.mul_div_cancel_left _ (by decide), Nat.mul_div_cancel_left _ (by decide), Nat.testBit_two_pow_sub_one, Bool.and_comm]
    by_cases h : i < 63
    · simp [h, show i + 1 < 64 from by omega]
    · simp [h, show ¬ i + 1 < 64 from by omega]
theorem andnot_one (a : Nat) (h : a ≤ 1000000) : bits .andNot .i64 (a : Int) 1 = ((a - a % 2 : Nat) : Int) := by
  show IntKind.i64.wrap ((BitVec.ofInt 64 (a : Int) &&& ~~~ BitVec.ofInt 64 1).toNat : Int) = _
  rw [BitVec.toNat_and, BitVec.ofInt_natCast, BitVec.toNat_ofNat, show (~~~ (BitVec.ofInt 64 1)).toNat = 18446744073709551614 from by decide, and_even, Nat.mod_eq_of_lt (show a < 2 ^ 64 from by omega), Nat.mod_eq_of_lt (by omega), IntKind.wrap_i64]
  omega
theorem tbody_snoc (s L : Nat) (g : Nat → Int) : ∀ (k i : Nat) (x : Nat → Int), tstep s L g (tbody s L g k i x) (i + 2 * k) = tbody s L g (k + 1) i x
  | 0, i, x => rfl
  | k + 1, i, x => by
    show tstep s L g (tbody s L g k (i + 2) (tstep s L g x i)) (i + 2 * (k + 1)) = tbody s L g (k + 1) (i + 2) (tstep s L g x i)
    rw [show i + 2 * (k + 1) = i + 2 + 2 * k from by omega]
    exact tbody_snoc s L g k (i + 2) _
theorem kind_num (g : Nat → Int) : 16 ≤ sumA (g 0) ∧ sumA (g 0) ≤ 22 := by have := sumA_or (g 0); omega
set_option maxHeartbeats 4000000 in
theorem turnbody_any {w : World} {B G L c cb b off : Nat} {x g : Nat → Int} (O : OB w B (.slice (some ⟨G, 0, none⟩) L c) L x) (hx : IsB x) (h : By w (some ⟨b, off, none⟩) L g) (hne : b ≠ G) (hg : IsB g) (hc : L ≤ c) (hcb : L ≤ cb) (hL : L ≤ 1000000) (hL0 : 24 ≤ L) (a m : Nat) (hm : a + m ≤ L) :
    Calls Try.prog 54 #[(.slice (some ⟨G, 0, none⟩) L c), .slice (some ⟨b, off, none⟩) L cb, .int .i64 a, .int .i64 m] w fun e w' => e = .returned (.tuple #[]) ∧ OB w' B (.slice (some ⟨G, 0, none⟩) L c) L (tbody (sumA (g 0)) L g ((m + a % 2 + 1) / 2) (a - a % 2) x) ∧ w.grownBy w' (some G) := by
  have oq := andnot_one a (by omega)
  have q1 : IntKind.i64.wrap ((a : Int) + m) = (a : Int) + m := IntWalk.i64_in _ (by omega)
  obtain ⟨a0, ha0⟩ : ∃ a0, a0 = a - a % 2 := ⟨_, rfl⟩
  rw [← ha0] at oq ⊢
  have A0 := hid ha0
  obtain ⟨K, hK⟩ : ∃ K, K = (m + a % 2 + 1) / 2 := ⟨_, rfl⟩
  rw [← hK]
  have KK := hid hK
  have a0le : a0 ≤ a := by omega
  clear ha0 hK
  have HY := hid h
  have HG := hid hg
  have HX := hid hx
  have SA := hid (fun (W : World) (hW : By W (some ⟨b, off, none⟩) L g) => sumat_any (some ⟨b, off, none⟩) L cb g W hW (by omega))
  have PG := hid (fun (W : World) (i : Nat) (hi : i < L) (hW : By W (some ⟨b, off, none⟩) L g) => pair_any_ (some ⟨b, off, none⟩) L cb g W hW hg i hi hcb hL)
  have sl := kind_num g
  obtain ⟨s, hs⟩ : ∃ s, s = sumA (g 0) := ⟨_, rfl⟩
  rw [← hs] at SA sl ⊢
  clear hs h hg hx
  go_enter Try.func54, Try.ntmps54
  go_wp2_with fail
  go_loopw [8] (fun i wr => ∃ k : Nat, k ≤ K ∧ i = .int .i64 ((a0 + 2 * k : Nat) : Int) ∧ OB wr B (.slice (some ⟨G, 0, none⟩) L c) L (tbody s L g k a0 x) ∧ w.grownBy wr (some G)) (fun i _ => (a + m + 2) - (intOf i).toNat)
  case atStart => exact ⟨0, by omega, rfl, O, World.grownBy.refl _ _⟩
  case round =>
    obtain ⟨k, hk, rfl, ho, hgr⟩ := hrel
    obtain ⟨i, hi⟩ : ∃ i, i = a0 + 2 * k := ⟨_, rfl⟩
    rw [← hi]
    have HI := hid hi
    have HO := hid ho
    have HR := hid hgr
    have hkK : k < K ↔ i < a + m := by have := A0.out; have := KK.out; omega
    clear hi ho hgr O
    by_cases hlt : i < a + m
    · have i1 : (i : Int) < (a : Int) + m := by omega
      have i2 : i < L := by omega
      have i3 : IntKind.i64.wrap ((i : Int) + 2) = (i : Int) + 2 := IntWalk.i64_in _ (by omega)
      have HB := hid (tbody_B (s := s) (L := L) (g := g) k a0 x HX.out)
      have kl := hkK.2 hlt
      have HW := hid (grow_by HY.out HR.out hne)
      have bx := pairF_bd HB.out L i
      have bg := pairF_bd HG.out L i
      have PO := hid (pair_any_ (some ⟨G, 0, none⟩) L c (tbody s L g k a0 x) wr HO.out.sl1 HB.out i i2 hc hL)
      have TU := hid (wturn_any HO.out HB.out s (by omega) hc hL (pairF g L i) (pairF (tbody s L g k a0 x) L i) bg.1 bg.2 bx.1 bx.2)
      clear hkK bx bg hlt
      go_wp2_with fail
      refine (SA.out _ HW.out).mono ?_
      rintro e w' ⟨rfl, rfl⟩
      go_wp2_with fail
      refine (PG.out _ i i2 HW.out).mono ?_
      rintro e w' ⟨rfl, rfl⟩
      go_wp2_with fail
      refine PO.out.mono ?_
      rintro e w' ⟨rfl, rfl⟩
      go_wp2_with fail
      refine TU.out.mono ?_
      rintro e w2 ⟨rfl, ho2, hg2⟩
      have HO2 := hid ho2
      have HR2 := hid (HR.out.trans hg2)
      clear ho2 hg2
      go_wp2_with fail
      go_roundw
      case rel =>
        refine ⟨k + 1, kl, by rw [HI.out]; go_num, ?_, HR2.out⟩
        have e := tbody_snoc s L g k a0 x
        rw [← e, ← HI.out]
        exact HO2.out
      case measure => simp [intOf]; omega
    · have i1 : ¬ (i : Int) < (a : Int) + m := by omega
      have kk : k = K := by omega
      subst kk
      clear hkK hlt
      go_wp2_with fail
      go_end0
      exact ⟨rfl, HO.out, HR.out⟩
set_option maxHeartbeats 4000000 in
theorem may1_any (A : Option Addr) (L c : Nat) (g : Nat → Int) (w : World) (h : By w A L g) (hL0 : 24 ≤ L) (hL : L ≤ 1500) (a v : Int) (ra : -9223372036854775808 ≤ a ∧ a ≤ 9223372036854775807) :
    Calls Try.prog 53 #[.slice A L c, .int .i64 a, .int .i64 1, .int .i64 v] w fun e w' => e = .returned (.bool (mayB g L a 1 v)) ∧ w = w' := by
  have SA := hid (sumat_any A L c g w h (by omega))
  have sl := kind_num g
  have HM : Hid (mayB g L a 1 v = (inR v 255 && !decide (a < 16) && !decide ((L : Int) - 1 < a) && (decide (a + 1 ≤ (sumA (g 0) : Int)) || decide ((sumA (g 0) : Int) + 2 ≤ a)))) := hid (by
    rw [Bool.eq_iff_iff]
    unfold mayB inR
    simp only [Bool.and_eq_true, Bool.or_eq_true, decide_eq_true_eq, beq_iff_eq, Bool.not_eq_true', decide_eq_false_iff_not]
    constructor
    · rintro ⟨⟨⟨⟨h1, h2⟩, h3⟩, h4⟩, h5⟩
      refine ⟨⟨⟨?_, by omega⟩, by omega⟩, h5⟩
      omega
    · rintro ⟨⟨⟨h1, h3⟩, h4⟩, h5⟩
      refine ⟨⟨⟨⟨?_, by omega⟩, by omega⟩, by omega⟩, h5⟩
      simp
      omega)
  obtain ⟨s, hs⟩ : ∃ s, s = sumA (g 0) := ⟨_, rfl⟩
  rw [← hs] at SA sl HM
  have q1 : IntKind.i64.wrap ((s : Int) + 2) = (s : Int) + 2 := IntWalk.i64_in _ (by omega)
  have IR := hid (wwithin_any v 255)
  clear hs h
  obtain ⟨r, hr⟩ : ∃ r, r = inR v 255 := ⟨_, rfl⟩
  rw [← hr] at IR HM
  clear hr
  cases r
  · go_enter Try.func53, Try.ntmps53
    go_wp2_with fail
    refine (IR.out _).mono ?_
    rintro e w' ⟨rfl, rfl⟩
    go_wp2_with fail
    go_ret
    exact ⟨ret_bool (by rw [HM.out]; rfl), rfl⟩
  · cases d1 : decide (a < 16)
    · have e1 : 16 ≤ a := by simpa using d1
      cases d2 : decide ((L : Int) - 1 < a)
      · have e2 : a ≤ (L : Int) - 1 := by simpa using d2
        have q2 : IntKind.i64.wrap (a + 1) = a + 1 := IntWalk.i64_in _ (by omega)
        cases d3 : decide (a + 1 ≤ (s : Int))
        · cases d4 : decide ((s : Int) + 2 ≤ a)
          all_goals
            go_enter Try.func53, Try.ntmps53
            go_wp2_with fail
            refine (IR.out _).mono ?_
            rintro e w' ⟨rfl, rfl⟩
            go_wp2_with fail
            refine SA.out.mono ?_
            rintro e w' ⟨rfl, rfl⟩
            go_wp2_with fail
            refine SA.out.mono ?_
            rintro e w' ⟨rfl, rfl⟩
            go_wp2_with fail
            go_ret
            exact ⟨ret_bool (by rw [HM.out, d1, d2, d3, d4]; rfl), rfl⟩
        · go_enter Try.func53, Try.ntmps53
          go_wp2_with fail
          refine (IR.out _).mono ?_
          rintro e w' ⟨rfl, rfl⟩
          go_wp2_with fail
          refine SA.out.mono ?_
          rintro e w' ⟨rfl, rfl⟩
          go_wp2_with fail
          go_ret
          exact ⟨ret_bool (by rw [HM.out, d1, d2, d3]; rfl), rfl⟩
      · go_enter Try.func53, Try.ntmps53
        go_wp2_with fail
        refine (IR.out _).mono ?_
        rintro e w' ⟨rfl, rfl⟩
        go_wp2_with fail
        go_ret
        exact ⟨ret_bool (by rw [HM.out, d1, d2]; rfl), rfl⟩
    · go_enter Try.func53, Try.ntmps53
      go_wp2_with fail
      refine (IR.out _).mono ?_
      rintro e w' ⟨rfl, rfl⟩
      go_wp2_with fail
      go_ret
      exact ⟨ret_bool (by rw [HM.out, d1]; rfl), rfl⟩
set_option maxHeartbeats 4000000 in
theorem may2_any (A : Option Addr) (L c : Nat) (g : Nat → Int) (w : World) (h : By w A L g) (hL0 : 24 ≤ L) (hL : L ≤ 1500) (a v : Int) (ra : -9223372036854775808 ≤ a ∧ a ≤ 9223372036854775807) :
    Calls Try.prog 53 #[.slice A L c, .int .i64 a, .int .i64 2, .int .i64 v] w fun e w' => e = .returned (.bool (mayB g L a 2 v)) ∧ w = w' := by
  have SA := hid (sumat_any A L c g w h (by omega))
  have sl := kind_num g
  have HM : Hid (mayB g L a 2 v = (inR v 65535 && !decide (a < 16) && !decide ((L : Int) - 2 < a) && (decide (a + 2 ≤ (sumA (g 0) : Int)) || decide ((sumA (g 0) : Int) + 2 ≤ a)))) := hid (by
    rw [Bool.eq_iff_iff]
    unfold mayB inR
    simp only [Bool.and_eq_true, Bool.or_eq_true, decide_eq_true_eq, beq_iff_eq, Bool.not_eq_true', decide_eq_false_iff_not]
    constructor
    · rintro ⟨⟨⟨⟨h1, h2⟩, h3⟩, h4⟩, h5⟩
      refine ⟨⟨⟨?_, by omega⟩, by omega⟩, h5⟩
      omega
    · rintro ⟨⟨⟨h1, h3⟩, h4⟩, h5⟩
      refine ⟨⟨⟨⟨?_, by omega⟩, by omega⟩, by omega⟩, h5⟩
      simp
      omega)
  obtain ⟨s, hs⟩ : ∃ s, s = sumA (g 0) := ⟨_, rfl⟩
  rw [← hs] at SA sl HM
  have q1 : IntKind.i64.wrap ((s : Int) + 2) = (s : Int) + 2 := IntWalk.i64_in _ (by omega)
  have IR := hid (wwithin_any v 65535)
  clear hs h
  obtain ⟨r, hr⟩ : ∃ r, r = inR v 65535 := ⟨_, rfl⟩
  rw [← hr] at IR HM
  clear hr
  cases r
  · go_enter Try.func53, Try.ntmps53
    go_wp2_with fail
    refine (IR.out _).mono ?_
    rintro e w' ⟨rfl, rfl⟩
    go_wp2_with fail
    go_ret
    exact ⟨ret_bool (by rw [HM.out]; rfl), rfl⟩
  · cases d1 : decide (a < 16)
    · have e1 : 16 ≤ a := by simpa using d1
      cases d2 : decide ((L : Int) - 2 < a)
      · have e2 : a ≤ (L : Int) - 2 := by simpa using d2
        have q2 : IntKind.i64.wrap (a + 2) = a + 2 := IntWalk.i64_in _ (by omega)
        cases d3 : decide (a + 2 ≤ (s : Int))
        · cases d4 : decide ((s : Int) + 2 ≤ a)
          all_goals
            go_enter Try.func53, Try.ntmps53
            go_wp2_with fail
            refine (IR.out _).mono ?_
            rintro e w' ⟨rfl, rfl⟩
            go_wp2_with fail
            refine SA.out.mono ?_
            rintro e w' ⟨rfl, rfl⟩
            go_wp2_with fail
            refine SA.out.mono ?_
            rintro e w' ⟨rfl, rfl⟩
            go_wp2_with fail
            go_ret
            exact ⟨ret_bool (by rw [HM.out, d1, d2, d3, d4]; rfl), rfl⟩
        · go_enter Try.func53, Try.ntmps53
          go_wp2_with fail
          refine (IR.out _).mono ?_
          rintro e w' ⟨rfl, rfl⟩
          go_wp2_with fail
          refine SA.out.mono ?_
          rintro e w' ⟨rfl, rfl⟩
          go_wp2_with fail
          go_ret
          exact ⟨ret_bool (by rw [HM.out, d1, d2, d3]; rfl), rfl⟩
      · go_enter Try.func53, Try.ntmps53
        go_wp2_with fail
        refine (IR.out _).mono ?_
        rintro e w' ⟨rfl, rfl⟩
        go_wp2_with fail
        go_ret
        exact ⟨ret_bool (by rw [HM.out, d1, d2]; rfl), rfl⟩
    · go_enter Try.func53, Try.ntmps53
      go_wp2_with fail
      refine (IR.out _).mono ?_
      rintro e w' ⟨rfl, rfl⟩
      go_wp2_with fail
      go_ret
      exact ⟨ret_bool (by rw [HM.out, d1]; rfl), rfl⟩
set_option maxHeartbeats 4000000 in
theorem may4_any (A : Option Addr) (L c : Nat) (g : Nat → Int) (w : World) (h : By w A L g) (hL0 : 24 ≤ L) (hL : L ≤ 1500) (a v : Int) (ra : -9223372036854775808 ≤ a ∧ a ≤ 9223372036854775807) :
    Calls Try.prog 53 #[.slice A L c, .int .i64 a, .int .i64 4, .int .i64 v] w fun e w' => e = .returned (.bool (mayB g L a 4 v)) ∧ w = w' := by
  have SA := hid (sumat_any A L c g w h (by omega))
  have sl := kind_num g
  have HM : Hid (mayB g L a 4 v = (inR v 4294967295 && !decide (a < 16) && !decide ((L : Int) - 4 < a) && (decide (a + 4 ≤ (sumA (g 0) : Int)) || decide ((sumA (g 0) : Int) + 2 ≤ a)))) := hid (by
    rw [Bool.eq_iff_iff]
    unfold mayB inR
    simp only [Bool.and_eq_true, Bool.or_eq_true, decide_eq_true_eq, beq_iff_eq, Bool.not_eq_true', decide_eq_false_iff_not]
    constructor
    · rintro ⟨⟨⟨⟨h1, h2⟩, h3⟩, h4⟩, h5⟩
      refine ⟨⟨⟨?_, by omega⟩, by omega⟩, h5⟩
      omega
    · rintro ⟨⟨⟨h1, h3⟩, h4⟩, h5⟩
      refine ⟨⟨⟨⟨?_, by omega⟩, by omega⟩, by omega⟩, h5⟩
      simp
      omega)
  obtain ⟨s, hs⟩ : ∃ s, s = sumA (g 0) := ⟨_, rfl⟩
  rw [← hs] at SA sl HM
  have q1 : IntKind.i64.wrap ((s : Int) + 2) = (s : Int) + 2 := IntWalk.i64_in _ (by omega)
  have IR := hid (wwithin_any v 4294967295)
  clear hs h
  obtain ⟨r, hr⟩ : ∃ r, r = inR v 4294967295 := ⟨_, rfl⟩
  rw [← hr] at IR HM
  clear hr
  cases r
  · go_enter Try.func53, Try.ntmps53
    go_wp2_with fail
    refine (IR.out _).mono ?_
    rintro e w' ⟨rfl, rfl⟩
    go_wp2_with fail
    go_ret
    exact ⟨ret_bool (by rw [HM.out]; rfl), rfl⟩
  · cases d1 : decide (a < 16)
    · have e1 : 16 ≤ a := by simpa using d1
      cases d2 : decide ((L : Int) - 4 < a)
      · have e2 : a ≤ (L : Int) - 4 := by simpa using d2
        have q2 : IntKind.i64.wrap (a + 4) = a + 4 := IntWalk.i64_in _ (by omega)
        cases d3 : decide (a + 4 ≤ (s : Int))
        · cases d4 : decide ((s : Int) + 2 ≤ a)
          all_goals
            go_enter Try.func53, Try.ntmps53
            go_wp2_with fail
            refine (IR.out _).mono ?_
            rintro e w' ⟨rfl, rfl⟩
            go_wp2_with fail
            refine SA.out.mono ?_
            rintro e w' ⟨rfl, rfl⟩
            go_wp2_with fail
            refine SA.out.mono ?_
            rintro e w' ⟨rfl, rfl⟩
            go_wp2_with fail
            go_ret
            exact ⟨ret_bool (by rw [HM.out, d1, d2, d3, d4]; rfl), rfl⟩
        · go_enter Try.func53, Try.ntmps53
          go_wp2_with fail
          refine (IR.out _).mono ?_
          rintro e w' ⟨rfl, rfl⟩
          go_wp2_with fail
          refine SA.out.mono ?_
          rintro e w' ⟨rfl, rfl⟩
          go_wp2_with fail
          go_ret
          exact ⟨ret_bool (by rw [HM.out, d1, d2, d3]; rfl), rfl⟩
      · go_enter Try.func53, Try.ntmps53
        go_wp2_with fail
        refine (IR.out _).mono ?_
        rintro e w' ⟨rfl, rfl⟩
        go_wp2_with fail
        go_ret
        exact ⟨ret_bool (by rw [HM.out, d1, d2]; rfl), rfl⟩
    · go_enter Try.func53, Try.ntmps53
      go_wp2_with fail
      refine (IR.out _).mono ?_
      rintro e w' ⟨rfl, rfl⟩
      go_wp2_with fail
      go_ret
      exact ⟨ret_bool (by rw [HM.out, d1]; rfl), rfl⟩
theorem may_any (A : Option Addr) (L c : Nat) (g : Nat → Int) (w : World) (h : By w A L g) (hL0 : 24 ≤ L) (hL : L ≤ 1500) (a m v : Int) (ra : -9223372036854775808 ≤ a ∧ a ≤ 9223372036854775807) :
    Calls Try.prog 53 #[.slice A L c, .int .i64 a, .int .i64 m, .int .i64 v] w fun e w' => e = .returned (.bool (mayB g L a m v)) ∧ w = w' := by
  by_cases h1 : m = 1
  · subst h1; exact may1_any A L c g w h hL0 hL a v ra
  · by_cases h2 : m = 2
    · subst h2; exact may2_any A L c g w h hL0 hL a v ra
    · by_cases h4 : m = 4
      · subst h4; exact may4_any A L c g w h hL0 hL a v ra
      · have HM : Hid (mayB g L a m v = false) := hid (by
          rw [Bool.eq_false_iff]
          intro e
          have := mayB_iff e
          omega)
        have e1 : (m != 1) = true := by simpa using h1
        have e2 : (m != 2) = true := by simpa using h2
        have e4 : (m != 4) = true := by simpa using h4
        clear h h1 h2 h4
        go_enter Try.func53, Try.ntmps53
        go_wp2_with fail
        go_ret
        exact ⟨ret_bool HM.out.symm, rfl⟩
end Go.Proofs.Ytjljaecjnpmdoaa
