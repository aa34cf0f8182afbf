/- The document's keyed sums, said a second time. -/
import Derived.Test.YtejlfbiehcfbgaaSipEnd
import Derived.Test.YtejlfbiehcfbgaaSipRref
namespace Go.Proofs.Ytejlfbiehcfbgaa
set_option linter.unusedVariables false
open Go.RowKit Go.ChangeShapes Go.WideShapes Go.ChangeAt

theorem eat_any (g : Nat) (v : V4) (m : Int) (w : World) (hS : St w g v) (hU : v.U) :
    Calls Try.prog 46 #[.pointer (some ⟨g, 0, none⟩), .int .u64 m] w fun e w' => e = .returned (.tuple #[]) ∧ Onl g w w' ∧ St w' g (eat v m) := by
  have hO := Onl.refl_ g w
  have hS2 := hS
  obtain ⟨ca, cb, cc, cd, fa, fb, fc, fd⟩ := hS
  clear ca cb cc fa fb fc
  go_enter Try.func46, Try.ntmps46
  go_wp2_with fail
  refine (rround_any g { v with d := xo v.d m } _ (hS2.setd _) ⟨hU.1, hU.2.1, hU.2.2.1, U_xo _ _⟩).mono ?_
  rintro e w1 ⟨rfl, hO3, hS3⟩
  have hU3 := rnd_U (v := { v with d := xo v.d m }) ⟨hU.1, hU.2.1, hU.2.2.1, U_xo _ _⟩
  go_wp2_with fail
  refine (rround_any g _ _ hS3 hU3).mono ?_
  rintro e w2 ⟨rfl, hO4, hS4⟩
  have hO5 := ((hO.setCell 3 _).trans hO3).trans hO4
  have hS5 := hS4
  obtain ⟨ca, cb, cc, cd', fa, fb, fc, fd'⟩ := hS4
  clear cb cc cd' fb fc fd' cd fd hO3 hO4 hS3 hS2
  go_wp2_with fail
  go_end0
  exact ⟨rfl, hO5.setCell 0 _, hS5.seta _⟩

theorem and255 (n : Nat) (hn : n < 9223372036854775808) : bits .and .i64 (n : Int) 255 = ((n % 256 : Nat) : Int) := by
  have h1 : n &&& 255 = n % 256 := Nat.and_two_pow_sub_one_eq_mod n 8
  show IntKind.i64.wrap ((BitVec.ofInt 64 (n : Int) &&& BitVec.ofInt 64 ((255 : Nat) : Int)).toNat : Int) = _
  rw [BitVec.toNat_and, BitVec.ofInt_natCast, BitVec.ofInt_natCast, BitVec.toNat_ofNat, BitVec.toNat_ofNat, Nat.mod_eq_of_lt (by omega), Nat.mod_eq_of_lt (by omega), h1, IntKind.wrap_i64]
  omega
theorem top56 (n : Nat) : (n : Int) % 256 * 72057594037927936 = IntKind.u64.wrap ((n : Int) * 72057594037927936) := by
  rw [IntKind.wrap_u64]
  omega

set_option maxRecDepth 100000 in
theorem rof_any (a b : Int) (A : Option Addr) (n c : Nat) (f : Nat → Int) (w : World) (h : By w A n f) (hf : IsB f) (hnc : n ≤ c) (hn : n ≤ 140737488355328) :
    Calls Try.prog 39 #[.agg #[.int .u64 a, .int .u64 b], .slice A n c] w fun e w' => e = .returned (.int .u64 (sumB a b f n)) ∧ Below w.heap.size w w' := by
  have hand := and255 n (by omega)
  go_enter Try.func39, Try.ntmps39
  go_wp2_with fail
  have hS := St.made (w := w.alloc (.cells #[.int .u64 a, .int .u64 b] 29)) (T := 84) (v := strt a b) (g := w.heap.size + 1) (by simp)
  have hb2 : Below w.heap.size w ((w.alloc (.cells #[.int .u64 a, .int .u64 b] 29)).alloc (.cells #[.int .u64 (strt a b).a, .int .u64 (strt a b).b, .int .u64 (strt a b).c, .int .u64 (strt a b).d] 84)) :=
    ((Below.refl _ _).alloc (Nat.le_refl _) _).alloc (by simp) _
  have hs := h.below hb2 (Nat.le_refl _)
  have hz' : w.heap.size ≤ w.heap.size + 1 := by omega
  have hA : ∀ ad, A = some ad → 0 < n → ad.block ≠ w.heap.size + 1 := fun ad e h0 => by
    obtain ⟨b', off, e', hlt, _⟩ := h h0
    rw [e] at e'
    injection e' with e'
    subst e'
    simp only
    omega
  clear h
  change Code.wp _ _ _ _ ((w.alloc (.cells #[.int .u64 a, .int .u64 b] 29)).alloc (.cells #[.int .u64 (strt a b).a, .int .u64 (strt a b).b, .int .u64 (strt a b).c, .int .u64 (strt a b).d] 84))
  generalize hgg : w.heap.size + 1 = g at *
  clear hgg
  generalize (w.alloc (.cells #[.int .u64 a, .int .u64 b] 29)).alloc _ = w2 at *
  have hO := Onl.refl_ g w2
  go_loopw [6] (fun r wr => ∃ p : Nat, 8 * p ≤ n ∧ r = .int .i64 (8 * (p : Int)) ∧ Onl g w2 wr ∧ St wr g (eats (fun i => num (fun j => f (8 * i + j)) 8) p (strt a b)))
    (fun r _ => n - (intOf r).toNat)
  case atStart => exact ⟨0, by omega, rfl, hO, hS⟩
  case round =>
    obtain ⟨p, hpn, rfl, hO1, hS1⟩ := hrel
    have hB := hO1.sl hs hA
    have hU1 := eats_U (f := fun i => num (fun j => f (8 * i + j)) 8) (strt_U a b) p
    have hE : Hid (eats (fun i => num (fun j => f (8 * i + j)) 8) (p + 1) (strt a b) = eat (eats (fun i => num (fun j => f (8 * i + j)) 8) p (strt a b)) (num (fun j => f (8 * p + j)) 8)) := rfl
    have hfp : IsB (fun j => f (8 * p + j)) := fun j => hf _
    clear hO hS
    by_cases hlt : 8 * p + 8 ≤ n
    · generalize eats (fun i => num (fun j => f (8 * i + j)) 8) p (strt a b) = v1 at *
      obtain ⟨A2, k2, S2⟩ := cut_mid_b A n c (8 * p) (8 * p + 8) (by omega) hlt hnc (8 * (p : Int)) (8 * (p : Int) + 8) (by omega) (by omega)
      rw [show 8 * p + 8 - 8 * p = 8 from by omega] at k2 S2
      have i1 : 8 * (p : Int) + 8 ≤ n := by omega
      have SB := S2 _ _ hB
      clear S2 hB
      go_wp2_with fail
      refine (low_any A2 8 _ (fun j => f (8 * p + j)) _ SB hfp (by omega)).mono ?_
      rintro e w3 ⟨rfl, rfl⟩
      go_wp2_with fail
      refine (eat_any g v1 (num (fun j => f (8 * p + j)) 8) _ hS1 hU1).mono ?_
      rintro e w4 ⟨rfl, hO2, hS2⟩
      have hO3 := hid (hO1.trans hO2)
      have HS3 := hid hS2
      clear hS2 hO2 hS1 hO1
      go_wp2_with fail
      go_roundw
      case rel => exact ⟨p + 1, by omega, by go_num, hO3.out, by rw [hE.out]; exact HS3.out⟩
      case measure => simp [intOf]; omega
    · obtain ⟨L, hL⟩ : ∃ L, L = n - 8 * p := ⟨_, rfl⟩
      have hfin := hid (sumB_at a b f n p L (by omega) (by omega))
      have i1 : ¬ 8 * (p : Int) + 8 ≤ n := by omega
      obtain ⟨A2, k2, S2⟩ := cut_from_b A n c (8 * p) (by omega) hnc (8 * (p : Int)) (by omega)
      rw [← hL] at k2 S2
      have SB := S2 _ _ hB
      have hL8 : L ≤ 8 := by omega
      have htop := hid (top56 n)
      clear S2 hB hL
      generalize eats (fun i => num (fun j => f (8 * i + j)) 8) p (strt a b) = v1 at *
      clear hE
      go_wp2_with fail
      refine (low_any A2 L _ (fun j => f (8 * p + j)) _ SB hfp hL8).mono ?_
      rintro e w3 ⟨rfl, rfl⟩
      go_wp2_with fail
      rw [htop.out]
      obtain ⟨m, hm⟩ : ∃ m, m = bits .or .u64 (num (fun j => f (8 * p + j)) L) (IntKind.u64.wrap ((n : Int) * 72057594037927936)) := ⟨_, rfl⟩
      rw [← hm]
      have HM := hid hm
      clear hm hand
      refine (eat_any g v1 m _ hS1 hU1).mono ?_
      rintro e w4 ⟨rfl, hO2, hS2⟩
      have hU2 := eat_U hU1 m
      have hO3 := hO1.trans hO2
      clear hO1 hO2 hS1 SB
      obtain ⟨ca, cb, cc, cd, fa, fb, fc, fd⟩ := hS2
      have hS2 : St w4 g (eat v1 m) := ⟨ca, cb, cc, cd, fa, fb, fc, fd⟩
      clear ca cb cd fa fb fd
      have hU3 : V4.U { eat v1 m with c := xo (eat v1 m).c 255 } := ⟨hU2.1, hU2.2.1, U_xo _ _, hU2.2.2.2⟩
      go_wp2_with fail
      refine (rround_any g { eat v1 m with c := xo (eat v1 m).c 255 } _ (hS2.setc _) hU3).mono ?_
      rintro e w5 ⟨rfl, hO4, hS4⟩
      have hU4 := rnd_U hU3
      go_wp2_with fail
      refine (rround_any g _ _ hS4 hU4).mono ?_
      rintro e w6 ⟨rfl, hO5, hS5⟩
      have hU5 := rnd_U hU4
      go_wp2_with fail
      refine (rround_any g _ _ hS5 hU5).mono ?_
      rintro e w7 ⟨rfl, hO6, hS6⟩
      have hU6 := rnd_U hU5
      go_wp2_with fail
      refine (rround_any g _ _ hS6 hU6).mono ?_
      rintro e w8 ⟨rfl, hO7, hS7⟩
      have hS8 : St w8 g (last4 (eat v1 m)) := hS7
      have hO8 := ((((hO3.setCell 2 _).trans hO4).trans hO5).trans hO6).trans hO7
      have hb9 := hb2.trans (hO8.below hz' hb2.size)
      clear hS2 cc fc hO3 hO4 hO5 hO6 hO7 hS4 hS5 hS6 hS7
      obtain ⟨ca, cb, cc, cd, fa, fb, fc, fd⟩ := hS8
      clear fa fb fc fd
      go_wp2_with fail
      go_quiet (fail)
      go_wp2
      go_ret
      refine ⟨ret_u64 ?_, below_drewN hb9 _⟩
      rw [← hfin.out, ← HM.out]
      rfl
end Go.Proofs.Ytejlfbiehcfbgaa
