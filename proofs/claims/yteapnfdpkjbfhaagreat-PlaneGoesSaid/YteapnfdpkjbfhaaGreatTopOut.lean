/- What a slot's backend sends. -/
import Derived.Test.YteapnfdpkjbfhaaGreatGa
import Derived.Test.YteapnfdpkjbfhaaGreatTopInS
import Derived.Deep.CutBlock
import Derived.Deep.CutRange
import Derived.BigQuiet
import Derived.Deep.RegionHeld3
import Derived.Deep.Cut
import Derived.IntWalk
namespace Go.Proofs.YteapnfdpkjbfhaaGreat
set_option linter.unusedVariables false
set_option linter.unusedSimpArgs false
open Go.RowKit Go.ChangeShapes Go.WideShapes Go.ChangeAt
set_option maxRecDepth 100000
/-- What a slot's backend sends. -/
structure Onn (p : Pl) (x : Pk) : Prop where
 md : Mkd x
 lf : 1 ≤ x.life ∧ x.life ≤ 9
 pc : x.piece = 0
 sl : ∃ s : Nat, s < 6 ∧ x.src = (p.s s).ad ∧ x.fp = (p.s s).po
 dst : 1000 ≤ x.dst ∧ x.dst ≤ 1004
theorem zSlO (w : World) : (zeroValue 25).run Tryz.prog w = .ok (.agg ([.int .i64 0, .int .i64 0, .int .i64 0, .int .i64 0, .int .i64 0] : List Value).toArray) w := by kernel_rfl
theorem iSlO : (Tryz.prog.info? 25).map (·.size) = some 5 := by kernel_rfl
theorem one_r {w : World} {b nd : Nat} {x : Int} (h : Ce w b [.int .u8 x]) (hn : nd ≤ 1) : (thR b (some ⟨b, 0, none⟩) nd (fun _ => x)).at_ w := by
 refine ⟨h.1, fun _ => ⟨0, rfl, fun j hj => ?_⟩⟩
 rw [Nat.zero_add]
 match j, (show j < 1 by omega) with
 | 0, _ => exact h.2.1 0 _ rfl
attribute [local irreducible] FA FL mkBO
set_option maxHeartbeats 8000000 in
theorem l9out_any (p : Pl) (hp : Pt p) (n m : Int) (hn : -9223372036854775808 ≤ n ∧ n ≤ 9223372036854775807) (hm : -9223372036854775808 ≤ m ∧ m ≤ 9223372036854775807) (w : World) : Calls Tryz.prog 23 #[.agg (FA 330 (pc p)), .int .i64 n, .int .i64 m] w fun e w' => ∃ x AO cO AD cD bD, e = .returned (.agg #[.int .i64 x.kind, .int .i64 x.life, .int .i64 x.piece, .int .i64 x.src, .int .i64 x.dst, .int .i64 x.fp, .int .i64 x.tp, .int .i64 x.flags, .int .i64 x.label, .bool x.bare, .int .i64 x.code, .slice AO x.no cO, .slice AD x.nd cD]) ∧ x.no ≤ cO ∧ Onn p x ∧ HS [] w w' [thY (.slice AO x.no cO) x.no x.go, thR bD AD x.nd x.gd] := by
 obtain ⟨k, hk⟩ : ∃ k, k = wi n 1125899906842624 := ⟨_, rfl⟩
 have kb := wi_bd n 1125899906842624 (by omega)
 rw [← hk] at kb
 have WK := hid (fun (w : World) => re_i64 (within_any9 n 1125899906842624 w (by omega) (by omega)) hk.symm)
 clear hk
 obtain ⟨kb1, kb2⟩ := kb
 obtain ⟨m16, hm16⟩ : ∃ x, x = wi m 65536 := ⟨_, rfl⟩
 have bm16 := wi_bd m 65536 (by omega)
 rw [← hm16] at bm16
 have Wm16 := hid (fun w => re_i64 (within_any9 m 65536 w (by omega) (by omega)) hm16.symm)
 clear hm16
 obtain ⟨bm161, bm162⟩ := bm16
 obtain ⟨nd, hnd⟩ : ∃ nd : Nat, k / 1620 % 2 = (nd : Int) := ⟨(k / 1620 % 2).toNat, by omega⟩
 have hnd2 : (nd : Int) ≤ 1 := by omega
 have hnd0 : (0 : Int) ≤ nd := by omega
 obtain ⟨sN, hsN⟩ : ∃ s : Nat, k % 6 = (s : Int) := ⟨(k % 6).toNat, by omega⟩
 have hs6 : sN < 6 := by omega
 have hs64 : sN < 64 := by omega
 have i0 : (0 : Int) ≤ sN := by omega
 have i1 : (sN : Int) < 64 := by omega
 have hsp := hp.1 sN hs64
 have hK2 : k / 6 % 2 = 0 ∨ k / 6 % 2 = 1 := by omega
 have HND := hid hnd
 have HSN := hid hsN
 clear hnd
 have S0 : Hid (HS [] w w []) := hid HS.start
 go_enter Tryz.func23, Tryz.ntmps23
 go_upto_region 1 with (first | ((with_reducible refine wl_id ?_); refine wl_ow rfl (ow_box rfl rfl (by omega) S0.out ?_); intro P w_ hZ _; have SX := hid hZ; clear hZ) | ((with_reducible refine wl_id ?_); refine wl_ow rfl (ow_allocC rfl (zPk _) (by simp) SX.out ?_); intro R w_ hZ _; have SY := hid hZ; clear hZ))
 have S1 : Hid (HS [] w _ [thC R [.int .i64 0, .int .i64 0, .int .i64 0, .int .i64 0, .int .i64 0, .int .i64 0, .int .i64 0, .int .i64 0, .int .i64 0, .bool false, .int .i64 0, .slice none 0 0, .slice none 0 0], thB P 330 (pc p)]) := hid (SY.out)
 clear SX SY S0
 go_wp2_with fail
 refine (WK.out _).mono ?_
 rintro e w' ⟨rfl, rfl⟩
 obtain ⟨q0, q1, q2, q3, q4⟩ := (pool_fb (S1.out.fb 1 rfl)).s5 sN hs64
 go_upto_region 3 with (first | ((with_reducible refine wl_id ?_); refine wl_ow rfl (ow_allocC rfl (zSlO _) (by simp) S1.out ?_); intro Z w_ hZ _; have SY := hid hZ; clear hZ) | ((with_reducible refine wl_id ?_); refine wl_ow rfl (ow_storeC (A := []) [.int .i64 (p.s sN).st, .int .i64 (p.s sN).ad, .int .i64 (p.s sN).po, .int .i64 (p.s sN).we, .int .i64 (p.s sN).si] rfl rfl (rfl) SY.out rfl iSlO rfl ?_); intro w_ hZ; have SX := hid hZ; clear hZ))
 clear q0 q1 q2 q3 q4 hsN
 have S2 : Hid (HS [] w _ [thC Z [.int .i64 (p.s sN).st, .int .i64 (p.s sN).ad, .int .i64 (p.s sN).po, .int .i64 (p.s sN).we, .int .i64 (p.s sN).si], thC R [.int .i64 0, .int .i64 0, .int .i64 0, .int .i64 0, .int .i64 0, .int .i64 0, .int .i64 0, .int .i64 0, .int .i64 0, .bool false, .int .i64 0, .slice none 0 0, .slice none 0 0], thB P 330 (pc p)]) := hid (SX.out)
 clear SX SY S1
 try simp only [Act.put, List.setIfInBounds_toArray, List.set_cons_zero, List.set_cons_succ]
 go_upto_region 3 with (fail)
 go_cut [9] from 17 to 43 (fun v wx => ∃ X b, v = .pointer (some ⟨X, 0, none⟩) ∧ HS [] w wx [thC X [.int .i64 (1 + k / 6 % 2), .int .i64 (1 + k / 12 % 9), .int .i64 0, .int .i64 (p.s sN).ad, .int .i64 (1000 + k / 108 % 5), .int .i64 (p.s sN).po, .int .i64 (k / 540 % 3), .int .i64 0, .int .i64 0, .bool false, .int .i64 0, .slice none 0 0, .slice (some ⟨b, 0, none⟩) nd 1], thC b [.int .u8 (IntKind.u8.wrap k)], thC Z [.int .i64 (p.s sN).st, .int .i64 (p.s sN).ad, .int .i64 (p.s sN).po, .int .i64 (p.s sN).we, .int .i64 (p.s sN).si], thC R [.int .i64 0, .int .i64 0, .int .i64 0, .int .i64 0, .int .i64 0, .int .i64 0, .int .i64 0, .int .i64 0, .int .i64 0, .bool false, .int .i64 0, .slice none 0 0, .slice none 0 0], thB P 330 (pc p)])
 case first =>
  have hnd := HND.out
  refine wp_region_held_drew (S := fun (w' : World) => HS [] w w' [thC Z [.int .i64 (p.s sN).st, .int .i64 (p.s sN).ad, .int .i64 (p.s sN).po, .int .i64 (p.s sN).we, .int .i64 (p.s sN).si], thC R [.int .i64 0, .int .i64 0, .int .i64 0, .int .i64 0, .int .i64 0, .int .i64 0, .int .i64 0, .int .i64 0, .int .i64 0, .bool false, .int .i64 0, .slice none 0 0, .slice none 0 0], thB P 330 (pc p)]) (by kernel_rfl) ?_ (fun hHeld => ?_)
  ·exact S2.out.drew
  have d_6 : IntKind.i64.wrap (k.tdiv 6) = k / 6 := by rw [Int.tdiv_eq_ediv_of_nonneg kb1]; exact IntWalk.i64_in _ (by omega)
  have d_12 : IntKind.i64.wrap (k.tdiv 12) = k / 12 := by rw [Int.tdiv_eq_ediv_of_nonneg kb1]; exact IntWalk.i64_in _ (by omega)
  have d_108 : IntKind.i64.wrap (k.tdiv 108) = k / 108 := by rw [Int.tdiv_eq_ediv_of_nonneg kb1]; exact IntWalk.i64_in _ (by omega)
  have d_540 : IntKind.i64.wrap (k.tdiv 540) = k / 540 := by rw [Int.tdiv_eq_ediv_of_nonneg kb1]; exact IntWalk.i64_in _ (by omega)
  have d_1620 : IntKind.i64.wrap (k.tdiv 1620) = k / 1620 := by rw [Int.tdiv_eq_ediv_of_nonneg kb1]; exact IntWalk.i64_in _ (by omega)
  have m_a : Int.tmod (k / 6) 2 = (k / 6) % 2 := Int.tmod_eq_emod_of_nonneg (by omega)
  have m_b : Int.tmod (k / 12) 9 = (k / 12) % 9 := Int.tmod_eq_emod_of_nonneg (by omega)
  have m_c : Int.tmod (k / 108) 5 = (k / 108) % 5 := Int.tmod_eq_emod_of_nonneg (by omega)
  have m_d : Int.tmod (k / 540) 3 = (k / 540) % 3 := Int.tmod_eq_emod_of_nonneg (by omega)
  have m_e : Int.tmod (k / 1620) 2 = (k / 1620) % 2 := Int.tmod_eq_emod_of_nonneg (by omega)
  have w_a : IntKind.i64.wrap (1 + k / 6 % 2) = 1 + k / 6 % 2 := IntWalk.i64_in _ (by omega)
  have w_b : IntKind.i64.wrap (1 + k / 12 % 9) = 1 + k / 12 % 9 := IntWalk.i64_in _ (by omega)
  have w_c : IntKind.i64.wrap (1000 + k / 108 % 5) = 1000 + k / 108 % 5 := IntWalk.i64_in _ (by omega)
  refine tkq 0 hHeld ?_
  refine tkq 1 hHeld ?_
  refine tkq 2 hHeld ?_
  refine tkq 3 hHeld ?_
  refine tkq 4 hHeld ?_
  refine tkq 5 hHeld ?_
  refine tkq 6 hHeld ?_
  refine tkq 7 hHeld ?_
  refine tkq 8 hHeld ?_
  refine tkq 9 hHeld ?_ (hy := by intro w hSw; (try dsimp only at hSw); have x0 := (hSw.ce 0 rfl).2.1 1 _ rfl; go_simp; (try with_reducible rfl))
  refine tkq 10 hHeld ?_
  refine tkq 11 hHeld ?_ (hy := by intro w hSw; (try dsimp only at hSw); have x0 := (hSw.ce 0 rfl).2.1 2 _ rfl; go_simp; (try with_reducible rfl))
  refine tkq 12 hHeld ?_
  refine tkq 13 hHeld ?_
  refine tkq 14 hHeld ?_
  refine tkq 15 hHeld ?_
  refine tkq 16 hHeld ?_
  refine tkq 17 hHeld ?_
  refine tkq 18 hHeld ?_
  refine tkq 19 hHeld ?_
  refine tkq 20 hHeld ?_
  refine tkq 22 hHeld ?_
  refine tkq 23 hHeld ?_
  refine tkq 24 hHeld ?_
  refine twoUp 21 27 rfl rfl (by kernel_rfl) rfl rfl (fun K hK => ?_) (fun K hK => ?_)
  ·go_simp
   have zhz0 := HS.cells hHeld (T := 5) [.int .u8 (IntKind.u8.wrap k)]
   refine hK.out _ _ zhz0.tail (fun hz0 => ?_)
   clear hK
   try simp only [Act.put, List.setIfInBounds_toArray, List.set_cons_zero, List.set_cons_succ]
   refine tkq 25 hz0 ?_
   refine tkq 26 hz0 ?_
   refine only 27 rfl (by kernel_rfl) rfl (fun K hK => ?_)
   refine ow_allocC rfl (zPk _) (by simp) zhz0 (fun X w21 zhz1 _ => ?_)
   refine hK.out _ _ zhz1.tail.tail (fun hz1 => ?_)
   clear hK
   try simp only [Act.put, List.setIfInBounds_toArray, List.set_cons_zero, List.set_cons_succ]
   refine only 28 rfl (by kernel_rfl) rfl (fun K hK => ?_)
   refine ow_storeC (A := []) [.int .i64 (1 + k / 6 % 2), .int .i64 (1 + k / 12 % 9), .int .i64 0, .int .i64 (p.s sN).ad, .int .i64 (1000 + k / 108 % 5), .int .i64 (p.s sN).po, .int .i64 (k / 540 % 3), .int .i64 0, .int .i64 0, .bool false, .int .i64 0, .slice none 0 0, .slice (some ⟨_, 0, none⟩) nd 1] rfl rfl rfl zhz1 rfl iPk rfl (fun w22 hY => ?_)
   refine hK.out _ _ hY.tail.tail (fun _ => ?_)
   clear hK
   try simp only [Act.put, List.setIfInBounds_toArray, List.set_cons_zero, List.set_cons_succ]
   refine wpAnyH_done (by kernel_rfl) ?_ _
   go_wp2_with fail
   go_meet
   exact ⟨X, _, rfl, hY⟩
  ·refine ow_allocC rfl (zPk _) (by simp) hHeld (fun X w21 zhz0 _ => ?_)
   refine hK.out _ _ zhz0.tail (fun hz0 => ?_)
   clear hK
   try simp only [Act.put, List.setIfInBounds_toArray, List.set_cons_zero, List.set_cons_succ]
   refine only 21 rfl (by kernel_rfl) rfl (fun K hK => ?_)
   go_simp
   have zhz1 := HS.cells zhz0 (T := 5) [.int .u8 (IntKind.u8.wrap k)]
   refine hK.out _ _ zhz1.tail.tail (fun hz1 => ?_)
   clear hK
   try simp only [Act.put, List.setIfInBounds_toArray, List.set_cons_zero, List.set_cons_succ]
   refine tkq 25 hz1 ?_
   refine tkq 26 hz1 ?_
   refine only 28 rfl (by kernel_rfl) rfl (fun K hK => ?_)
   have zhz1s := HS.swap_ zhz1
   refine ow_storeC (A := []) [.int .i64 (1 + k / 6 % 2), .int .i64 (1 + k / 12 % 9), .int .i64 0, .int .i64 (p.s sN).ad, .int .i64 (1000 + k / 108 % 5), .int .i64 (p.s sN).po, .int .i64 (k / 540 % 3), .int .i64 0, .int .i64 0, .bool false, .int .i64 0, .slice none 0 0, .slice (some ⟨_, 0, none⟩) nd 1] rfl rfl rfl zhz1s rfl iPk rfl (fun w22 hY => ?_)
   refine hK.out _ _ hY.tail.tail (fun _ => ?_)
   clear hK
   try simp only [Act.put, List.setIfInBounds_toArray, List.set_cons_zero, List.set_cons_succ]
   refine wpAnyH_done (by kernel_rfl) ?_ _
   go_wp2_with fail
   go_meet
   exact ⟨X, _, rfl, hY⟩
 case rest =>
  obtain ⟨X, b, rfl, hz⟩ := hcut
  have S3 : Hid (HS [] w _ [thC X [.int .i64 (1 + k / 6 % 2), .int .i64 (1 + k / 12 % 9), .int .i64 0, .int .i64 (p.s sN).ad, .int .i64 (1000 + k / 108 % 5), .int .i64 (p.s sN).po, .int .i64 (k / 540 % 3), .int .i64 0, .int .i64 0, .bool false, .int .i64 0, .slice none 0 0, .slice (some ⟨b, 0, none⟩) nd 1], thC b [.int .u8 (IntKind.u8.wrap k)], thC Z [.int .i64 (p.s sN).st, .int .i64 (p.s sN).ad, .int .i64 (p.s sN).po, .int .i64 (p.s sN).we, .int .i64 (p.s sN).si], thC R [.int .i64 0, .int .i64 0, .int .i64 0, .int .i64 0, .int .i64 0, .int .i64 0, .int .i64 0, .int .i64 0, .int .i64 0, .bool false, .int .i64 0, .slice none 0 0, .slice none 0 0], thB P 330 (pc p)]) := hid (hz)
  clear hz S2
  have y0 := (S3.out.ce 0 rfl).2.1 0 _ rfl
  rcases hK2 with hk2 | hk2
  ·have k2 : (1 + k / 6 % 2 == 2) = false := by simp [hk2]
   have HK := hid hk2
   clear hk2
   have yf := (S3.out.ce 0 rfl).2.2
   have yf7 := yf 7
   have y7 := (S3.out.ce 0 rfl).2.1 7 _ rfl
   have yl := (S3.out.ce 0 rfl).1
   go_upto_region 8 with (fail)
   clear yf yf7 y7 yl y0 k2
   have S4 : Hid (HS [] w _ [thC X [.int .i64 (1 + k / 6 % 2), .int .i64 (1 + k / 12 % 9), .int .i64 0, .int .i64 (p.s sN).ad, .int .i64 (1000 + k / 108 % 5), .int .i64 (p.s sN).po, .int .i64 (k / 540 % 3), .int .i64 (k / 3240 % 16), .int .i64 0, .bool false, .int .i64 0, .slice none 0 0, .slice (some ⟨b, 0, none⟩) nd 1], thC b [.int .u8 (IntKind.u8.wrap k)], thC Z [.int .i64 (p.s sN).st, .int .i64 (p.s sN).ad, .int .i64 (p.s sN).po, .int .i64 (p.s sN).we, .int .i64 (p.s sN).si], thC R [.int .i64 0, .int .i64 0, .int .i64 0, .int .i64 0, .int .i64 0, .int .i64 0, .int .i64 0, .int .i64 0, .int .i64 0, .bool false, .int .i64 0, .slice none 0 0, .slice none 0 0], thB P 330 (pc p)]) := hid (HS.setC (A := []) S3.out 7 (.int .i64 (k / 3240 % 16)) (by simp))
   clear S3
   have S5 : Hid (HS [] w _ [thY (.slice none 0 0) 0 (fun _ => 0), thC X [.int .i64 (1 + k / 6 % 2), .int .i64 (1 + k / 12 % 9), .int .i64 0, .int .i64 (p.s sN).ad, .int .i64 (1000 + k / 108 % 5), .int .i64 (p.s sN).po, .int .i64 (k / 540 % 3), .int .i64 (k / 3240 % 16), .int .i64 0, .bool false, .int .i64 0, .slice none 0 0, .slice (some ⟨b, 0, none⟩) nd 1], thC b [.int .u8 (IntKind.u8.wrap k)], thC Z [.int .i64 (p.s sN).st, .int .i64 (p.s sN).ad, .int .i64 (p.s sN).po, .int .i64 (p.s sN).we, .int .i64 (p.s sN).si], thC R [.int .i64 0, .int .i64 0, .int .i64 0, .int .i64 0, .int .i64 0, .int .i64 0, .int .i64 0, .int .i64 0, .int .i64 0, .bool false, .int .i64 0, .slice none 0 0, .slice none 0 0], thB P 330 (pc p)]) := hid (S4.out.nilY)
   clear S4
   go_upto_if 63 with (fail)
   go_cut [] from 60 to 70 (fun wx => ∃ (AN : Option Addr) (nn cN : Nat) (gN : Nat → Int), HS [] w wx [thY (.slice AN nn cN) nn gN, thC X [.int .i64 (1 + k / 6 % 2), .int .i64 (1 + k / 12 % 9), .int .i64 0, .int .i64 (p.s sN).ad, .int .i64 (1000 + k / 108 % 5), .int .i64 (p.s sN).po, .int .i64 (k / 540 % 3), .int .i64 (k / 3240 % 16), .int .i64 0, .bool false, .int .i64 0, .slice AN nn cN, .slice (some ⟨b, 0, none⟩) nd 1], thC b [.int .u8 (IntKind.u8.wrap k)], thC Z [.int .i64 (p.s sN).st, .int .i64 (p.s sN).ad, .int .i64 (p.s sN).po, .int .i64 (p.s sN).we, .int .i64 (p.s sN).si], thC R [.int .i64 0, .int .i64 0, .int .i64 0, .int .i64 0, .int .i64 0, .int .i64 0, .int .i64 0, .int .i64 0, .int .i64 0, .bool false, .int .i64 0, .slice none 0 0, .slice none 0 0], thB P 330 (pc p)] ∧ nn ≤ cN ∧ nn ≤ 12 ∧ IsB gN)
   case first =>
    cases e5 : decide (k / 3240 % 4 > 0)
    ·go_wp2_with fail
     go_meet
     exact ⟨none, 0, 0, fun _ => 0, S5.out, by omega, by omega, c0B_⟩
    ·have yf := (S5.out.ce 1 rfl).2.2 11
     have y11 := (S5.out.ce 1 rfl).2.1 11 _ rfl
     have yl := (S5.out.ce 1 rfl).1
     go_wp2_with fail
     refine (rmake_anyO _ _ _ (u32_w _) (u32_w _)).mono ?_
     rintro e w7 ⟨AM, cM, rfl, hO, hb⟩
     have U1 := S5.out.newY hb hO
     clear yf y11 yl
     have hcM := row_le hO
     have yf := (U1.ce 2 rfl).2.2 11
     have y11 := (U1.ce 2 rfl).2.1 11 _ rfl
     have yl := (U1.ce 2 rfl).1
     go_simp
     go_wp2_with fail
     go_meet
     have U2 := HS.setC (A := [thY (.slice AM 12 cM) 12 _, thY (.slice none 0 0) 0 (fun _ => 0)]) (B := [thC b [.int .u8 (IntKind.u8.wrap k)], thC Z [.int .i64 (p.s sN).st, .int .i64 (p.s sN).ad, .int .i64 (p.s sN).po, .int .i64 (p.s sN).we, .int .i64 (p.s sN).si], thC R [.int .i64 0, .int .i64 0, .int .i64 0, .int .i64 0, .int .i64 0, .int .i64 0, .int .i64 0, .int .i64 0, .int .i64 0, .bool false, .int .i64 0, .slice none 0 0, .slice none 0 0], thB P 330 (pc p)]) U1 11 (.slice AM 12 cM) (by simp)
     exact ⟨AM, 12, cM, _, HS.drop (A := [_]) U2, hcM, by omega, mkB_B (u32_w _) (u32_w _)⟩
   case rest =>
    obtain ⟨AN, nn, cN, gN, hz, hnc, hn12, hgN⟩ := hcut
    have S6 : Hid (HS [] w _ [thY (.slice AN nn cN) nn gN, thC X [.int .i64 (1 + k / 6 % 2), .int .i64 (1 + k / 12 % 9), .int .i64 0, .int .i64 (p.s sN).ad, .int .i64 (1000 + k / 108 % 5), .int .i64 (p.s sN).po, .int .i64 (k / 540 % 3), .int .i64 (k / 3240 % 16), .int .i64 0, .bool false, .int .i64 0, .slice AN nn cN, .slice (some ⟨b, 0, none⟩) nd 1], thC b [.int .u8 (IntKind.u8.wrap k)], thC Z [.int .i64 (p.s sN).st, .int .i64 (p.s sN).ad, .int .i64 (p.s sN).po, .int .i64 (p.s sN).we, .int .i64 (p.s sN).si], thC R [.int .i64 0, .int .i64 0, .int .i64 0, .int .i64 0, .int .i64 0, .int .i64 0, .int .i64 0, .int .i64 0, .int .i64 0, .bool false, .int .i64 0, .slice none 0 0, .slice none 0 0], thB P 330 (pc p)]) := hid (hz)
    clear hz S5
    have HGN := hid hgN
    clear hgN
    have hk2 := HK.out
    have INN := hid (show Onn p { kind := (1 + k / 6 % 2), life := (1 + k / 12 % 9), src := (p.s sN).ad, dst := (1000 + k / 108 % 5), fp := (p.s sN).po, tp := (k / 540 % 3), flags := (k / 3240 % 16), label := 0, bare := false, no := nn, go := gN, nd := nd, gd := fun _ => IntKind.u8.wrap k } from ⟨⟨by show (1 + k / 6 % 2) = 1 ∨ (1 + k / 6 % 2) = 2; omega, by show 0 ≤ (k / 540 % 3) ∧ (k / 540 % 3) ≤ 65535; omega, by show 0 ≤ (k / 3240 % 16) ∧ (k / 3240 % 16) ≤ 15; omega, by show 0 ≤ 0 ∧ 0 ≤ 65535; decide, ⟨fun h => absurd (show (1 + k / 6 % 2) = 1 from by omega) h, fun _ => ⟨rfl, rfl⟩, rfl⟩, HGN.out, fun j => u8_bd k, by show nn ≤ 40; omega, by show nd ≤ 200; omega⟩, by show 1 ≤ (1 + k / 12 % 9) ∧ (1 + k / 12 % 9) ≤ 9; omega, rfl, ⟨sN, hs6, rfl, rfl⟩, by show 1000 ≤ (1000 + k / 108 % 5) ∧ (1000 + k / 108 % 5) ≤ 1004; omega⟩)
    clear hk2
    obtain ⟨y0, y1, y2, y3, y4, y5, y6, y7, y8, y9, y10, y11, y12⟩ := (S6.out.ce 1 rfl).c13
    go_wp2_with ((with_reducible refine wl_id ?_); refine wl_ow rfl (ow_storeC (A := [thY (.slice AN nn cN) nn gN, thC X [.int .i64 (1 + k / 6 % 2), .int .i64 (1 + k / 12 % 9), .int .i64 0, .int .i64 (p.s sN).ad, .int .i64 (1000 + k / 108 % 5), .int .i64 (p.s sN).po, .int .i64 (k / 540 % 3), .int .i64 (k / 3240 % 16), .int .i64 0, .bool false, .int .i64 0, .slice AN nn cN, .slice (some ⟨b, 0, none⟩) nd 1], thC b [.int .u8 (IntKind.u8.wrap k)], thC Z [.int .i64 (p.s sN).st, .int .i64 (p.s sN).ad, .int .i64 (p.s sN).po, .int .i64 (p.s sN).we, .int .i64 (p.s sN).si]]) [.int .i64 (1 + k / 6 % 2), .int .i64 (1 + k / 12 % 9), .int .i64 0, .int .i64 (p.s sN).ad, .int .i64 (1000 + k / 108 % 5), .int .i64 (p.s sN).po, .int .i64 (k / 540 % 3), .int .i64 (k / 3240 % 16), .int .i64 0, .bool false, .int .i64 0, .slice AN nn cN, .slice (some ⟨b, 0, none⟩) nd 1] rfl rfl rfl S6.out rfl iPk rfl ?_); intro w_ hZ; have SF := hid hZ; clear hZ; (first | refine end_then ?_ | refine then_norm ?_); apply_assumption; refine wp_ret ?_; (repeat refine ret_then ?_); (show bodyPost _ _ _ _ _ _); exact bodyPost_ret (v := .agg ([.int .i64 (1 + k / 6 % 2), .int .i64 (1 + k / 12 % 9), .int .i64 0, .int .i64 (p.s sN).ad, .int .i64 (1000 + k / 108 % 5), .int .i64 (p.s sN).po, .int .i64 (k / 540 % 3), .int .i64 (k / 3240 % 16), .int .i64 0, .bool false, .int .i64 0, .slice AN nn cN, .slice (some ⟨b, 0, none⟩) nd 1] : List Value).toArray) (results_C Tryz.results23 _ rfl (SF.out.ce 4 rfl) Tryz.underlying39 rfl iPk) rfl ⟨{ kind := (1 + k / 6 % 2), life := (1 + k / 12 % 9), src := (p.s sN).ad, dst := (1000 + k / 108 % 5), fp := (p.s sN).po, tp := (k / 540 % 3), flags := (k / 3240 % 16), label := 0, bare := false, no := nn, go := gN, nd := nd, gd := fun _ => IntKind.u8.wrap k }, AN, cN, some ⟨b, 0, none⟩, 1, b, rfl, hnc, INN.out, HS.upd (A := [thY (.slice AN nn cN) nn gN]) (B := []) (HS.sub (M := [thY (.slice AN nn cN) nn gN, thC b [.int .u8 (IntKind.u8.wrap k)]]) SF.out (by (try simp only [List.cons_append, List.nil_append]); repeat (first | exact List.Sublist.slnil | with_reducible apply List.Sublist.cons_cons | with_reducible apply List.Sublist.cons))) (thR b (some ⟨b, 0, none⟩) nd _) rfl (Ch.refl _ _) (one_r (SF.out.ce 2 rfl) (by omega))⟩)
  ·have k2 : (1 + k / 6 % 2 == 2) = true := by simp [hk2]
   have HK := hid hk2
   clear hk2
   have yf := (S3.out.ce 0 rfl).2.2
   have yf8 := yf 8
   have yf9 := yf 9
   have y8 := (S3.out.ce 0 rfl).2.1 8 _ rfl
   have y9 := (S3.out.ce 0 rfl).2.1 9 _ rfl
   have yl := (S3.out.ce 0 rfl).1
   go_wp2_with fail
   refine (Wm16.out _).mono ?_
   rintro e w' ⟨rfl, rfl⟩
   go_upto_region 6 with (fail)
   clear yf yf8 yf9 y8 y9 yl y0 k2
   have S4 : Hid (HS [] w _ [thC X [.int .i64 (1 + k / 6 % 2), .int .i64 (1 + k / 12 % 9), .int .i64 0, .int .i64 (p.s sN).ad, .int .i64 (1000 + k / 108 % 5), .int .i64 (p.s sN).po, .int .i64 (k / 540 % 3), .int .i64 0, .int .i64 m16, .bool (k / 3240 % 3 == 0), .int .i64 0, .slice none 0 0, .slice (some ⟨b, 0, none⟩) nd 1], thC b [.int .u8 (IntKind.u8.wrap k)], thC Z [.int .i64 (p.s sN).st, .int .i64 (p.s sN).ad, .int .i64 (p.s sN).po, .int .i64 (p.s sN).we, .int .i64 (p.s sN).si], thC R [.int .i64 0, .int .i64 0, .int .i64 0, .int .i64 0, .int .i64 0, .int .i64 0, .int .i64 0, .int .i64 0, .int .i64 0, .bool false, .int .i64 0, .slice none 0 0, .slice none 0 0], thB P 330 (pc p)]) := hid (HS.setC (A := []) (HS.setC (A := []) S3.out 8 (.int .i64 m16) (by simp)) 9 (.bool (k / 3240 % 3 == 0)) (by simp))
   clear S3
   have hk2 := HK.out
   have INN := hid (show Onn p { kind := (1 + k / 6 % 2), life := (1 + k / 12 % 9), src := (p.s sN).ad, dst := (1000 + k / 108 % 5), fp := (p.s sN).po, tp := (k / 540 % 3), flags := 0, label := m16, bare := (k / 3240 % 3 == 0), no := 0, go := fun _ => 0, nd := nd, gd := fun _ => IntKind.u8.wrap k } from ⟨⟨by show (1 + k / 6 % 2) = 1 ∨ (1 + k / 6 % 2) = 2; omega, by show 0 ≤ (k / 540 % 3) ∧ (k / 540 % 3) ≤ 65535; omega, by show 0 ≤ 0 ∧ 0 ≤ 15; decide, by show 0 ≤ m16 ∧ m16 ≤ 65535; omega, ⟨fun _ => ⟨rfl, rfl⟩, fun h => absurd (show (1 + k / 6 % 2) = 2 from by omega) h, rfl⟩, c0B_, fun j => u8_bd k, by show 0 ≤ 40; omega, by show nd ≤ 200; omega⟩, by show 1 ≤ (1 + k / 12 % 9) ∧ (1 + k / 12 % 9) ≤ 9; omega, rfl, ⟨sN, hs6, rfl, rfl⟩, by show 1000 ≤ (1000 + k / 108 % 5) ∧ (1000 + k / 108 % 5) ≤ 1004; omega⟩)
   clear hk2
   obtain ⟨y0, y1, y2, y3, y4, y5, y6, y7, y8, y9, y10, y11, y12⟩ := (S4.out.ce 0 rfl).c13
   go_wp2_with ((with_reducible refine wl_id ?_); refine wl_ow rfl (ow_storeC (A := [thC X [.int .i64 (1 + k / 6 % 2), .int .i64 (1 + k / 12 % 9), .int .i64 0, .int .i64 (p.s sN).ad, .int .i64 (1000 + k / 108 % 5), .int .i64 (p.s sN).po, .int .i64 (k / 540 % 3), .int .i64 0, .int .i64 m16, .bool (k / 3240 % 3 == 0), .int .i64 0, .slice none 0 0, .slice (some ⟨b, 0, none⟩) nd 1], thC b [.int .u8 (IntKind.u8.wrap k)], thC Z [.int .i64 (p.s sN).st, .int .i64 (p.s sN).ad, .int .i64 (p.s sN).po, .int .i64 (p.s sN).we, .int .i64 (p.s sN).si]]) [.int .i64 (1 + k / 6 % 2), .int .i64 (1 + k / 12 % 9), .int .i64 0, .int .i64 (p.s sN).ad, .int .i64 (1000 + k / 108 % 5), .int .i64 (p.s sN).po, .int .i64 (k / 540 % 3), .int .i64 0, .int .i64 m16, .bool (k / 3240 % 3 == 0), .int .i64 0, .slice none 0 0, .slice (some ⟨b, 0, none⟩) nd 1] rfl rfl rfl S4.out rfl iPk rfl ?_); intro w_ hZ; have SF := hid hZ; clear hZ; (first | refine end_then ?_ | refine then_norm ?_); apply_assumption; refine wp_ret ?_; (repeat refine ret_then ?_); (show bodyPost _ _ _ _ _ _); exact bodyPost_ret (v := .agg ([.int .i64 (1 + k / 6 % 2), .int .i64 (1 + k / 12 % 9), .int .i64 0, .int .i64 (p.s sN).ad, .int .i64 (1000 + k / 108 % 5), .int .i64 (p.s sN).po, .int .i64 (k / 540 % 3), .int .i64 0, .int .i64 m16, .bool (k / 3240 % 3 == 0), .int .i64 0, .slice none 0 0, .slice (some ⟨b, 0, none⟩) nd 1] : List Value).toArray) (results_C Tryz.results23 _ rfl (SF.out.ce 3 rfl) Tryz.underlying39 rfl iPk) rfl ⟨{ kind := (1 + k / 6 % 2), life := (1 + k / 12 % 9), src := (p.s sN).ad, dst := (1000 + k / 108 % 5), fp := (p.s sN).po, tp := (k / 540 % 3), flags := 0, label := m16, bare := (k / 3240 % 3 == 0), no := 0, go := fun _ => 0, nd := nd, gd := fun _ => IntKind.u8.wrap k }, none, 0, some ⟨b, 0, none⟩, 1, b, rfl, Nat.le_refl _, INN.out, HS.upd (A := [thY (.slice none 0 0) 0 (fun _ => 0)]) (B := []) (HS.nilY (HS.sub (M := [thC b [.int .u8 (IntKind.u8.wrap k)]]) SF.out (by (try simp only [List.cons_append, List.nil_append]); repeat (first | exact List.Sublist.slnil | with_reducible apply List.Sublist.cons_cons | with_reducible apply List.Sublist.cons)))) (thR b (some ⟨b, 0, none⟩) nd _) rfl (Ch.refl _ _) (one_r (SF.out.ce 1 rfl) (by omega))⟩)
theorem c_out {S : List Nat} {W w : World} {L : List Th} (hS : HS S W w L) (p : Pl) (hp : Pt p) (n m : Int) (hn : -9223372036854775808 ≤ n ∧ n ≤ 9223372036854775807) (hm : -9223372036854775808 ≤ m ∧ m ≤ 9223372036854775807) : Calls Tryz.prog 23 #[.agg (FA 330 (pc p)), .int .i64 n, .int .i64 m] w fun e w' => ∃ x AO cO AD cD bD, e = .returned (.agg #[.int .i64 x.kind, .int .i64 x.life, .int .i64 x.piece, .int .i64 x.src, .int .i64 x.dst, .int .i64 x.fp, .int .i64 x.tp, .int .i64 x.flags, .int .i64 x.label, .bool x.bare, .int .i64 x.code, .slice AO x.no cO, .slice AD x.nd cD]) ∧ x.no ≤ cO ∧ Onn p x ∧ HS S W w' (thY (.slice AO x.no cO) x.no x.go :: thR bD AD x.nd x.gd :: L) := by
 refine (l9out_any p hp n m hn hm w).mono ?_
 rintro e w' ⟨x, AO, cO, AD, cD, bD, rfl, h1, h2, h3⟩
 exact ⟨x, AO, cO, AD, cD, bD, rfl, h1, h2, hS.join h3⟩
end Go.Proofs.YteapnfdpkjbfhaaGreat
