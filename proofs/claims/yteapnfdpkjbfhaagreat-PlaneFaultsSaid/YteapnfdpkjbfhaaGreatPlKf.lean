/- Stage 9's known; a unit that is up. -/
import Derived.Test.YteapnfdpkjbfhaaGreatGa
import Derived.Test.YteapnfdpkjbfhaaGreatPl9M
import Derived.Test.YteapnfdpkjbfhaaGreatPl9G
import Derived.Test.YteapnfdpkjbfhaaGreatPlN
import Derived.Test.YteapnfdpkjbfhaaGreatGu
import Derived.Test.YteapnfdpkjbfhaaGreatTopRtS
import Derived.Test.YteapnfdpkjbfhaaGreatTopTh
import Derived.BigQuiet
import Derived.Deep.RegionHeld3
import Derived.Deep.Cut
import Derived.IntWalk
namespace Go.Proofs.YteapnfdpkjbfhaaGreat
set_option linter.unusedVariables false
set_option linter.unusedSimpArgs false
open Go.RowKit Go.ChangeShapes Go.WideShapes Go.ChangeAt
set_option maxRecDepth 100000
theorem is_two {w : World} {b : Nat} (h : Ce w b [.int .i64 0, .int .i64 2]) : Is w (some ⟨b, 0, none⟩) 2 g9 := by
 intro _
 refine ⟨b, 0, rfl, h.1, fun j hj => ?_⟩
 rw [Nat.zero_add]
 match j, hj with
 | 0, _ => exact h.2.1 0 _ rfl
 | 1, _ => exact h.2.1 1 _ rfl
theorem make_two (w : World) (b : Nat) (h : Ce w b [.int .i64 0, .int .i64 2]) : Calls Tryz.prog 10 #[.slice (some ⟨b, 0, none⟩) 2 2, .int .i64 2] w fun x w' => x = .returned (.agg (FA 330 (pc kp9))) ∧ Below w.heap.size w w' :=
 make_anyP w (some ⟨b, 0, none⟩) 2 2 g9 (is_two h) (fun ad e _ => by injection e with e; rw [← e]; exact h.1) (by omega) 2 (by omega)
attribute [local irreducible] FA FL kp9 builtF
set_option maxHeartbeats 4000000 in
theorem known_9 (W : World) : Calls Tryz.prog 9 #[] W fun e w' => e = .returned (.bool true) ∧ Below W.heap.size W w' := by
 obtain ⟨F, hT⟩ := k9_take (fun _ => none)
 obtain ⟨q, hq⟩ : ∃ q, q = kp9 := ⟨_, rfl⟩
 have hv : q.v = 2 := by rw [hq]; exact kp9_v
 have HPT := hid (show Pt q from by rw [hq]; exact kp9_pt)
 have HPW := hid (show Pw q from by rw [hq]; exact kp9_pw)
 rw [← hq] at hT
 have MK9 := hid (fun (w : World) (b : Nat) (h : Ce w b [.int .i64 0, .int .i64 2]) => (show Calls Tryz.prog 10 #[.slice (some ⟨b, 0, none⟩) 2 2, .int .i64 2] w fun x w' => x = .returned (.agg (FA 330 (pc q))) ∧ Below w.heap.size w w' from by rw [hq]; exact make_two w b h))
 obtain ⟨G9, hG⟩ : ∃ G, G = builtF k9X := ⟨_, rfl⟩
 rw [← hG] at hT
 have BG := hid (show IsB G9 from by rw [hG]; exact builtF_B c0B_ c0B_ k9E)
 have KG := hid (show G9 0 = 2 from by rw [hG, built_hd (by omega), raw_0]; rfl)
 have BLD := hid (fun (w : World) (L : List Th) (h : HS [] W w L) => (show Calls Tryz.prog 14 #[.agg #[.int .i64 2, .int .i64 9, .int .i64 0, .int .i64 1, .int .i64 10, .int .i64 2, .int .i64 80, .int .i64 0, .int .i64 0, .bool false, .int .i64 0, .slice none 0 0, .slice none 0 0]] w fun e w' => ∃ A c, e = .returned (.tuple #[.slice A 24 c, .int .i64 0]) ∧ HS [] W w' (thY (.slice A 24 c) 24 G9 :: L) ∧ 24 ≤ c from c_rbuild h k9X (.inr rfl) 24 G9 k9L.symm hG k9E c0B_ c0B_ (by show 0 ≤ 1000000; decide) (by show 0 ≤ 1000000; decide) none 0 none 0 (fun h => absurd h (by show ¬ 0 < 0; decide)) (fun h => absurd h (by show ¬ 0 < 0; decide))))
 have VUP := hid (fun (w : World) (pb sb wb : Nat) (hF : Fb w pb 130 (plf sb (fun _ => none))) (hS : StAt w sb wb q) => (show Calls Tryz.prog 29 #[.pointer (some ⟨pb, 0, none⟩)] w fun e w' => e = .returned (.tuple #[.int .i64 2, .bool true]) ∧ Below w.heap.size w w' from by have h := ver_up hF hS; rw [hv] at h; exact h))
 have NEA := hid (fun (w : World) (pb sb : Nat) (hF : Fb w pb 130 (plf sb (fun _ => none))) => (show Calls Tryz.prog 30 #[.pointer (some ⟨pb, 0, none⟩), .int .i64 0] w fun e w' => e = .returned (.tuple #[.int .u32 0, .bool false]) ∧ Below w.heap.size w w' from near_p hF 0 (by omega)))
 have HT := hid hT
 have HN0 := hid (show Nt32 (fun _ => none) from fun j v h => by cases h)
 clear hT hv hq hG
 have S0 : Hid (HS [] W W []) := hid HS.start
 go_enter Tryz.func9, Tryz.ntmps9
 go_wp2_with fail
 refine (plane_new S0.out).mono ?_
 rintro e w1 ⟨pb, rfl, hz⟩
 have S1 : Hid (HS [] W w1 [thB pb 130 (plc none false nr0)]) := hid (hz)
 clear hz S0
 go_simp
 go_wp2_with fail
 refine (take_dn (S1.out.fb 0 rfl) _).mono ?_
 rintro e w2 ⟨rfl, hb⟩
 have S2 : Hid (HS [] W w2 [thB pb 130 (plc none false nr0)]) := hid (S1.out.below hb)
 clear hb S1
 go_simp
 go_upto_region 5 with (first | ((with_reducible refine wl_id ?_); refine wl_ow rfl (ow_allocC rfl (zOc _) (by simp) S2.out ?_); intro V w_ hZ _; have SY := hid hZ; clear hZ) | ((with_reducible refine wl_id ?_); refine wl_ow rfl (ow_storeC (A := []) [.int .i64 10, .int .i64 (-1), .bool false, .slice none 0 0] rfl rfl (rfl) SY.out rfl iOc rfl ?_); intro w_ hZ; have SX := hid hZ; clear hZ))
 have S3 : Hid (HS [] W _ [thC V [.int .i64 10, .int .i64 (-1), .bool false, .slice none 0 0], thB pb 130 (plc none false nr0)]) := hid (SX.out)
 clear SX SY S2
 go_wp2_with fail
 skip
 have U1 := HS.cells S3.out [.int .i64 0, .int .i64 2] (T := 3)
 refine (MK9.out _ _ (U1.ce 0 rfl)).mono ?_
 rintro e w3 ⟨rfl, hb⟩
 have S4 : Hid (HS [] W w3 [thC V [.int .i64 10, .int .i64 (-1), .bool false, .slice none 0 0], thB pb 130 (plc none false nr0)]) := hid (U1.tail.below hb)
 clear hb U1 S3
 go_simp
 go_upto_region 6 with (first | ((with_reducible refine wl_id ?_); refine wl_ow rfl (ow_alloc rfl (zpl2 _) (by omega) S4.out ?_); intro P w_ hZ _; have SA := hid hZ; clear hZ) | ((with_reducible refine wl_id ?_); refine wl_ow rfl (ow_store (A := []) 0 330 (pc q) (pc q) rfl rfl rfl SA.out (by omega) (fun j hj => patch_all _ _ _ j hj) info_pl2 (pc_one _) ?_); intro w_ hZ; have SX := hid hZ; clear hZ))
 have S5 : Hid (HS [] W _ [thB P 330 (pc q), thC V [.int .i64 10, .int .i64 (-1), .bool false, .slice none 0 0], thB pb 130 (plc none false nr0)]) := hid (SX.out)
 clear SX SA S4
 go_wp2_with ((with_reducible refine wl_id ?_); refine wl_ow rfl (ow_load 0 rfl 0 330 (pc q) rfl rfl S5.out (by omega) (fun j hj => by rw [Nat.zero_add]) Tryz.underlying33 rfl info_pl2 ?_))
 refine (c_load (A := [thB P 330 (pc q), thC V [.int .i64 10, .int .i64 (-1), .bool false, .slice none 0 0]]) (B := []) (nr := fun _ => none) S5.out q HPW.out).mono ?_
 rintro e w4 ⟨rfl, sb, wb, hne, hz⟩
 have S6 : Hid (HS [] W w4 [thS sb wb q, thB P 330 (pc q), thC V [.int .i64 10, .int .i64 (-1), .bool false, .slice none 0 0], thB pb 130 (plf sb (fun _ => none))]) := hid (hz)
 clear hz S5
 have HNE := hid hne
 clear hne
 go_simp
 go_wp2_with fail
 refine (VUP.out _ _ _ _ (S6.out.fb 3 rfl) (S6.out.st 0 rfl)).mono ?_
 rintro e w5 ⟨rfl, hb⟩
 have S7 : Hid (HS [] W w5 [thS sb wb q, thB P 330 (pc q), thC V [.int .i64 10, .int .i64 (-1), .bool false, .slice none 0 0], thB pb 130 (plf sb (fun _ => none))]) := hid (S6.out.below hb)
 clear hb S6 VUP
 go_simp
 go_wp2_with fail
 refine (BLD.out _ _ S7.out).mono ?_
 rintro e w6 ⟨AQ, cQ, rfl, hz, hcc⟩
 have S8 : Hid (HS [] W w6 [thY (.slice AQ 24 cQ) 24 G9, thS sb wb q, thB P 330 (pc q), thC V [.int .i64 10, .int .i64 (-1), .bool false, .slice none 0 0], thB pb 130 (plf sb (fun _ => none))]) := hid (hz)
 clear hz S7 BLD
 have HCQ := hid hcc
 clear hcc
 go_simp
 go_wp2_with fail
 refine (c_take (A := [thY (.slice AQ 24 cQ) 24 G9, thS sb wb q, thB P 330 (pc q), thC V [.int .i64 10, .int .i64 (-1), .bool false, .slice none 0 0]]) (B := []) S8.out (S8.out.st 1 rfl) HNE.out HPT.out HN0.out G9 24 cQ AQ BG.out (by omega) (fun _ => by rw [KG.out]; decide) (S8.out.by_ 0 rfl) HCQ.out _ HT.out).mono ?_
 rintro e w7 ⟨AR, cR, rfl, hz, hcc⟩
 dsimp only at hz hcc ⊢
 have S9 : Hid (HS [] W w7 [thY (.slice AR 24 cR) 24 F, thY (.slice AQ 24 cQ) 24 G9, thS sb wb q, thB P 330 (pc q), thC V [.int .i64 10, .int .i64 (-1), .bool false, .slice none 0 0], thB pb 130 (plf sb (fun _ => none))]) := hid (hz)
 clear hz hcc S8
 go_simp
 go_upto_region 10 with (first | ((with_reducible refine wl_id ?_); refine wl_ow rfl (ow_allocC rfl (zOc _) (by simp) S9.out ?_); intro V2 w_ hZ _; have SY := hid hZ; clear hZ) | ((with_reducible refine wl_id ?_); refine wl_ow rfl (ow_storeC (A := []) [.int .i64 0, .int .i64 0, .bool false, .slice AR 24 cR] rfl rfl (rfl) SY.out rfl iOc rfl ?_); intro w_ hZ; have SX := hid hZ; clear hZ))
 have S10 : Hid (HS [] W _ [thC V2 [.int .i64 0, .int .i64 0, .bool false, .slice AR 24 cR], thY (.slice AR 24 cR) 24 F, thY (.slice AQ 24 cQ) 24 G9, thS sb wb q, thB P 330 (pc q), thC V [.int .i64 10, .int .i64 (-1), .bool false, .slice none 0 0], thB pb 130 (plf sb (fun _ => none))]) := hid (SX.out)
 clear SX SY S9
 go_wp2_with fail
 refine (NEA.out _ _ _ (S10.out.fb 6 rfl)).mono ?_
 rintro e w8 ⟨rfl, hb⟩
 have S11 : Hid (HS [] W w8 [thC V2 [.int .i64 0, .int .i64 0, .bool false, .slice AR 24 cR], thY (.slice AR 24 cR) 24 F, thY (.slice AQ 24 cQ) 24 G9, thS sb wb q, thB P 330 (pc q), thC V [.int .i64 10, .int .i64 (-1), .bool false, .slice none 0 0], thB pb 130 (plf sb (fun _ => none))]) := hid (S10.out.below hb)
 clear hb S10 NEA
 go_simp
 go_wp2_with fail
 refine (c_crash (A := [thC V2 [.int .i64 0, .int .i64 0, .bool false, .slice AR 24 cR], thY (.slice AR 24 cR) 24 F, thY (.slice AQ 24 cQ) 24 G9, thS sb wb q, thB P 330 (pc q), thC V [.int .i64 10, .int .i64 (-1), .bool false, .slice none 0 0]]) (B := []) S11.out).mono ?_
 rintro e w9 ⟨rfl, hz⟩
 have S12 : Hid (HS [] W w9 [thC V2 [.int .i64 0, .int .i64 0, .bool false, .slice AR 24 cR], thY (.slice AR 24 cR) 24 F, thY (.slice AQ 24 cQ) 24 G9, thS sb wb q, thB P 330 (pc q), thC V [.int .i64 10, .int .i64 (-1), .bool false, .slice none 0 0], thB pb 130 (plc none false nr0)]) := hid (hz)
 clear hz S11
 go_simp
 go_wp2_with fail
 refine (ver_dn (S12.out.fb 6 rfl)).mono ?_
 rintro e w10 ⟨rfl, hb⟩
 have S13 : Hid (HS [] W w10 [thC V2 [.int .i64 0, .int .i64 0, .bool false, .slice AR 24 cR], thY (.slice AR 24 cR) 24 F, thY (.slice AQ 24 cQ) 24 G9, thS sb wb q, thB P 330 (pc q), thC V [.int .i64 10, .int .i64 (-1), .bool false, .slice none 0 0], thB pb 130 (plc none false nr0)]) := hid (S12.out.below hb)
 clear hb S12
 go_simp
 obtain ⟨f0, f1, f2, f3⟩ := (S13.out.ce 0 rfl).c4
 obtain ⟨e0, e1, e2, e3⟩ := (S13.out.ce 5 rfl).c4
 go_wp2_with fail
 go_ret
 exact ⟨by simp, S13.out.bl⟩
set_option maxHeartbeats 4000000 in
theorem up_9 {S : List Nat} {W w : World} {L : List Th} (hS : HS S W w L) (p : Pl) (hp : Pw p) : Calls Tryz.prog 11 #[.agg (FA 330 (pc p))] w fun e w' => ∃ pb sb wb, e = .returned (.pointer (some ⟨pb, 0, none⟩)) ∧ (pb ≠ sb ∧ pb ≠ wb) ∧ HS S W w' (thS sb wb p :: thB pb 130 (plf sb (fun _ => none)) :: L) := by
 have S0 := hid hS
 clear hS
 go_enter Tryz.func11, Tryz.ntmps11
 go_upto_region 1 with ((with_reducible refine wl_id ?_); refine wl_ow rfl (ow_box rfl rfl (by omega) S0.out ?_); intro P w_ hZ _; have S1 := hid hZ; clear hZ)
 go_wp2_with fail
 refine (plane_new S1.out).mono ?_
 rintro e w1 ⟨pb, rfl, hz⟩
 have S2 := hid hz
 clear hz S1 S0
 go_simp
 go_upto_region 3 with (fail)
 go_wp2_with ((with_reducible refine wl_id ?_); refine wl_ow rfl (ow_load 1 rfl 0 330 (pc p) rfl rfl S2.out (by omega) (fun j hj => by rw [Nat.zero_add]) Tryz.underlying33 rfl info_pl2 ?_))
 refine (c_load (A := []) (nr := fun _ => none) S2.out p hp).mono ?_
 rintro e w2 ⟨rfl, sb, wb, hne, hz⟩
 have S3 := hid (show HS S W w2 (thS sb wb p :: thB pb 130 (plf sb (fun _ => none)) :: L) from HS.drop2 hz)
 clear hz S2
 go_simp
 go_wp2_with fail
 go_ret
 exact ⟨pb, sb, wb, rfl, hne, S3.out⟩
end Go.Proofs.YteapnfdpkjbfhaaGreat
