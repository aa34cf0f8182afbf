/- The chapter's example. -/
import Derived.Test.YtlfionfnpieoiaaGreatYdPure
import Derived.BigQuiet
import Derived.Deep.RegionHeld3
import Derived.Deep.Cut
import Derived.IntWalk
namespace Go.Proofs.YtlfionfnpieoiaaGreat
set_option linter.unusedVariables false
set_option linter.unusedSimpArgs false
open Go.RowKit Go.ChangeShapes Go.WideShapes Go.ChangeAt
set_option maxRecDepth 100000
theorem ex_eqFP {o : Oper} {f : Operand → Value} (x y : Operand) (ho : o.op = .binOp .eql 34 x y 34) (p : Pl) (hx : f x = .agg (FA 330 (pc p))) (hy : f y = .agg (FA 330 (pc p))) (w : World) : (execOp f o).run Tryz.prog w = .ok (.value (.bool true)) w := ex_eql x y ho p hx hy w
attribute [local irreducible] FA FL
theorem ya_example {p0 : Pl} (GP : good p0) (hv0 : p0.v = 0) (f1 : Fit (tickY (newY p0 2)) (0 + 1)) : ∃ y1 y2 y3 y4 y5 : Yd, tickY (newY p0 2) = y1 ∧ delY y1 0 false = y2 ∧ delY y2 0 false = y3 ∧ delY y3 0 false = y4 ∧ loY y4 0 = y5 ∧ y1.ns.length = 2 ∧ y2.ns.length = 2 ∧ y3.ns.length = 2 ∧ y4.ns.length = 1 ∧ y5.ns.length = 0 ∧ (Fit y1 1 ∧ Fit y2 1 ∧ Fit y3 1 ∧ Fit y4 1) ∧ y3.uf 1 = ⟨0, p0, true⟩ ∧ y3.h.un = 2 ∧ y5.h.pl = p0 := by
 have hv : 0 ≤ p0.v := by omega
 have e1 := tick_new (p := p0) (u := 2) hv
 have e2 := del_w (y := tickY (newY p0 2)) (j := 0) (i := 0) hv (by rw [e1]; rfl) (by rw [e1]; exact .inl rfl) false
 have e3 := del_w (y := delY (tickY (newY p0 2)) 0 false) (j := 0) (i := 1) hv (by rw [e2, e1]; rfl) (by rw [e2, e1]; exact .inl rfl) false
 have n3 : (delY (delY (tickY (newY p0 2)) 0 false) 0 false).ns = [aN p0 0, aN p0 1] := by rw [e3, e2, e1]; rfl
 have h3 : (delY (delY (tickY (newY p0 2)) 0 false) 0 false).h = newH p0 2 := by rw [e3, e2, e1]
 have e4 : delY (delY (delY (tickY (newY p0 2)) 0 false) 0 false) 0 false = ⟨heardH (newH p0 2) (aN p0 0), (delY (delY (tickY (newY p0 2)) 0 false) 0 false).uf, [aN p0 1]⟩ := by
  rw [delY_some (n := aN p0 0) (by rw [n3]; rfl)]
  unfold getY
  rw [if_pos (show (aN p0 0).ak = true from rfl), n3, h3]
  rfl
 refine ⟨_, _, _, _, _, rfl, rfl, rfl, rfl, rfl, by rw [e1]; rfl, by rw [e2, e1]; rfl, by rw [n3]; rfl, by rw [e4]; rfl, by unfold loY; rw [e4]; rfl, ⟨f1, f1.del 0 false, (f1.del 0 false).del 0 false, ((f1.del 0 false).del 0 false).del 0 false⟩, ?_, by rw [h3]; rfl, ?_⟩
 ·rw [e3]; simp [setU]
 ·unfold loY
  rw [e4]
  show (heardH (newH p0 2) (aN p0 0)).pl = p0
  unfold heardH
  split
  ·split <;> rfl
  ·rfl
set_option maxHeartbeats 16000000 in
theorem yknown_any (w : World) : Calls Tryz.prog 4 #[] w fun x w' => x = .returned (.bool true) ∧ Below w.heap.size w w' := by
 obtain ⟨p0, hp0⟩ : ∃ p, p = kp0 := ⟨_, rfl⟩
 have RN := hid (show ∀ w, Calls Tryz.prog 12 #[.int .i64 10, .int .i64 80, .agg #[.int .u64 0, .int .u64 0], .agg #[.int .u64 0, .int .u64 0]] w fun x w' => x = .returned (.tuple #[.agg (FA 330 (pc p0)), .int .i64 0]) ∧ Below w.heap.size w w' from by rw [hp0]; exact rnew_fa)
 have hv0 : p0.v = 0 := by rw [hp0]; rfl
 have GP : good p0 := by rw [hp0]; exact good_k0
 clear hp0
 have f0 : Fit (newY p0 2) 0 := Fit.new GP ⟨by decide, by decide⟩ (by omega)
 have e1 := tick_new (p := p0) (u := 2) (by omega)
 have f1 := f0.tick
 have hF : ∃ y1 y2 y3 y4 y5 : Yd, tickY (newY p0 2) = y1 ∧ delY y1 0 false = y2 ∧ delY y2 0 false = y3 ∧ delY y3 0 false = y4 ∧ loY y4 0 = y5 ∧ y1.ns.length = 2 ∧ y2.ns.length = 2 ∧ y3.ns.length = 2 ∧ y4.ns.length = 1 ∧ y5.ns.length = 0 ∧ (Fit y1 1 ∧ Fit y2 1 ∧ Fit y3 1 ∧ Fit y4 1) ∧ y3.uf 1 = ⟨0, p0, true⟩ ∧ y3.h.un = 2 ∧ y5.h.pl = p0 := ya_example GP hv0 f1
 obtain ⟨y1, y2, y3, y4, y5, h1, h2, h3, h4, h5, l1, l2, l3, l4, l5, ⟨F1, F2, F3, F4⟩, hu1, hun, hpl⟩ := hF
 clear e1 f1 GP
 have H1 := hid h1
 have H2 := hid h2
 have H3 := hid h3
 have H4 := hid h4
 have H5 := hid h5
 have G0 := hid f0
 have G1 := hid F1
 have G2 := hid F2
 have G3 := hid F3
 have G4 := hid F4
 have L1 := hid l1
 have L2 := hid l2
 have L3 := hid l3
 have L4 := hid l4
 have L5 := hid l5
 have U1 := hid hu1
 have UN := hid hun
 have PL := hid hpl
 have HV := hid hv0
 clear h1 h2 h3 h4 h5 f0 F1 F2 F3 F4 l1 l2 l3 l4 l5 hu1 hun hpl hv0
 have S0 := hid (HS.start (S := []) (W := w))
 go_enter Tryz.func4, Tryz.ntmps4
 go_wp2_with fail
 refine (RN.out _).mono ?_
 rintro x w1 ⟨rfl, hb⟩
 have S1 := hid (S0.out.below hb)
 clear hb S0
 go_simp
 go_upto_region 2 with (first | ((with_reducible refine wl_id ?_); refine wl_ow rfl (ow_alloc rfl (zpl_fa _) (by omega) S1.out ?_); intro P w_ hZ _; have SA := hid hZ; clear hZ) | ((with_reducible refine wl_id ?_); refine wl_ow rfl (ow_store (A := []) 0 330 (pc p0) (pc p0) rfl rfl rfl SA.out (by omega) (fun j hj => patch_all _ _ _ j hj) info_pl (pc_one _) ?_); intro w_ hZ; have S2 := hid hZ; clear hZ))
 go_wp2_with ((with_reducible refine wl_id ?_); refine wl_ow rfl (ow_load 0 rfl 0 330 (pc p0) rfl rfl S2.out (by omega) (fun j hj => by rw [Nat.zero_add]) Tryz.underlying34 rfl info_pl ?_))
 refine (ya_new S2.out p0 2 ⟨by omega, by omega⟩).mono ?_
 rintro x w3 ⟨D, rfl, hY⟩
 have Y0 := hid hY
 clear hY S2
 go_simp
 go_wp2_with fail
 refine (ya_notes Y0.out).mono ?_
 rintro x w' ⟨rfl, rfl⟩
 rw [show (newY p0 2).ns.length = 0 from rfl]
 go_simp
 go_wp2_with fail
 refine (ya_tick Y0.out G0.out (by omega) (by show (0 : Nat) ≤ 900000; omega)).mono ?_
 rintro x w4 ⟨rfl, hY⟩
 rw [H1.out] at hY ⊢
 rw [L1.out]
 have Y1 := hid hY
 clear hY Y0
 go_simp
 go_wp2_with fail
 refine (ya_del Y1.out G1.out (by omega) (by omega) (by rw [L1.out]; omega) 0 (by rw [L1.out]; omega) false).mono ?_
 rintro x w5 ⟨rfl, hY⟩
 rw [H2.out] at hY
 have Y2 := hid hY
 clear hY Y1
 go_simp
 go_wp2_with fail
 refine (ya_del Y2.out G2.out (by omega) (by omega) (by rw [L2.out]; omega) 0 (by rw [L2.out]; omega) false).mono ?_
 rintro x w6 ⟨rfl, hY⟩
 rw [H3.out] at hY
 have Y3 := hid hY
 clear hY Y2
 go_simp
 go_wp2_with fail
 refine (ya_ver Y3.out 1 (by rw [UN.out]; omega)).mono ?_
 rintro x w7 ⟨rfl, hb⟩
 rw [U1.out]
 have Y4 := hid (Y3.out.below hb)
 clear hb Y3
 simp only [if_true, HV.out]
 go_simp
 go_wp2_with fail
 go_upto_region 9 with (fail)
 have BP : Hid (Fb w7 P 330 (pc p0)) := hid (Y4.out.memR (t := thB P 330 (pc p0)) (by simp))
 refine wp_region_held_drew (S := fun (w' : World) => Fb w' P 330 (pc p0)) (by kernel_rfl) ?_ (fun hHeld => ?_)
 ·exact BP.out.below (below_drew _)
 have Y4' := Y4.out.below (below_drew _)
 clear Y4 BP
 refine tk 0 (v := ?_) rfl (by kernel_rfl) (by kernel_rfl) (by kernel_rfl) (fun _ _ _ h => h) rfl ?_ hHeld ?_; rotate_left; (focus (intro w hSw; (try dsimp only at hSw);  go_simp; (try with_reducible rfl))); (try simp only [Act.put, List.setIfInBounds_toArray, List.set_cons_zero, List.set_cons_succ])
 refine tk 1 (v := ?_) rfl (by kernel_rfl) (by kernel_rfl) (by kernel_rfl) (fun _ _ _ h => h) rfl ?_ hHeld ?_; rotate_left; (focus (intro w hSw; (try dsimp only at hSw);  go_simp; (try with_reducible rfl))); (try simp only [Act.put, List.setIfInBounds_toArray, List.set_cons_zero, List.set_cons_succ])
 refine tk 2 (v := ?_) rfl (by kernel_rfl) (by kernel_rfl) (by kernel_rfl) (fun _ _ _ h => h) rfl ?_ hHeld ?_; rotate_left; (focus (intro w hSw; (try dsimp only at hSw);  go_simp; (try with_reducible rfl))); (try simp only [Act.put, List.setIfInBounds_toArray, List.set_cons_zero, List.set_cons_succ])
 refine tk 3 (v := ?_) rfl (by kernel_rfl) (by kernel_rfl) (by kernel_rfl) (fun _ _ _ h => h) rfl ?_ hHeld ?_; rotate_left; (focus (intro w hSw; (try dsimp only at hSw);  go_simp; (try with_reducible rfl))); (try simp only [Act.put, List.setIfInBounds_toArray, List.set_cons_zero, List.set_cons_succ])
 refine tk 4 (v := ?_) rfl (by kernel_rfl) (by kernel_rfl) (by kernel_rfl) (fun _ _ _ h => h) rfl ?_ hHeld ?_; rotate_left; (focus (intro w hSw; (try dsimp only at hSw);  go_simp; (try with_reducible rfl))); (try simp only [Act.put, List.setIfInBounds_toArray, List.set_cons_zero, List.set_cons_succ])
 refine tk 5 (v := ?_) rfl (by kernel_rfl) (by kernel_rfl) (by kernel_rfl) (fun _ _ _ h => h) rfl ?_ hHeld ?_; rotate_left; (focus (intro w hSw; (try dsimp only at hSw);  go_simp; (try with_reducible rfl))); (try simp only [Act.put, List.setIfInBounds_toArray, List.set_cons_zero, List.set_cons_succ])
 refine tk 6 (v := ?_) rfl (by kernel_rfl) (by kernel_rfl) (by kernel_rfl) (fun _ _ _ h => h) rfl ?_ hHeld ?_; rotate_left; (focus (intro w hSw; (try dsimp only at hSw);  go_simp; (try with_reducible rfl))); (try simp only [Act.put, List.setIfInBounds_toArray, List.set_cons_zero, List.set_cons_succ])
 refine tk 7 (v := ?_) rfl (by kernel_rfl) (by kernel_rfl) (by kernel_rfl) (fun _ _ _ h => h) rfl ?_ hHeld ?_; rotate_left; (focus (intro w hSw; (try dsimp only at hSw);  go_simp; (try with_reducible rfl))); (try simp only [Act.put, List.setIfInBounds_toArray, List.set_cons_zero, List.set_cons_succ])
 refine tk 8 (v := ?_) rfl (by kernel_rfl) (by kernel_rfl) (by kernel_rfl) (fun _ _ _ h => h) rfl ?_ hHeld ?_; rotate_left; (focus (intro w hSw; (try dsimp only at hSw);  go_simp; (try with_reducible rfl))); (try simp only [Act.put, List.setIfInBounds_toArray, List.set_cons_zero, List.set_cons_succ])
 refine tk 9 (v := ?_) rfl (by kernel_rfl) (by kernel_rfl) (by kernel_rfl) (fun _ _ _ h => h) rfl ?_ hHeld ?_; rotate_left; (focus (intro w hSw; (try dsimp only at hSw);  go_simp; (try with_reducible rfl))); (try simp only [Act.put, List.setIfInBounds_toArray, List.set_cons_zero, List.set_cons_succ])
 refine tk 10 (v := ?_) rfl (by kernel_rfl) (by kernel_rfl) (by kernel_rfl) (fun _ _ _ h => h) rfl ?_ hHeld ?_; rotate_left; (focus (intro w hSw; (try dsimp only at hSw);  go_simp; (try with_reducible rfl))); (try simp only [Act.put, List.setIfInBounds_toArray, List.set_cons_zero, List.set_cons_succ])
 refine tk 11 (v := ?_) rfl (by kernel_rfl) (by kernel_rfl) (by kernel_rfl) (fun _ _ _ h => h) rfl ?_ hHeld ?_; rotate_left; (focus (intro w hSw; (try dsimp only at hSw);  go_simp; (try with_reducible rfl))); (try simp only [Act.put, List.setIfInBounds_toArray, List.set_cons_zero, List.set_cons_succ])
 refine tk 12 (v := ?_) rfl (by kernel_rfl) (by kernel_rfl) (by kernel_rfl) (fun _ _ _ h => h) rfl ?_ hHeld ?_; rotate_left; (focus (intro w hSw; (try dsimp only at hSw);  go_simp; (try with_reducible rfl))); (try simp only [Act.put, List.setIfInBounds_toArray, List.set_cons_zero, List.set_cons_succ])
 refine tk 13 (v := ?_) rfl (by kernel_rfl) (by kernel_rfl) (by kernel_rfl) (fun _ _ _ h => h) rfl ?_ hHeld ?_; rotate_left; (focus (intro w hSw; (try dsimp only at hSw);  go_simp; (try with_reducible rfl))); (try simp only [Act.put, List.setIfInBounds_toArray, List.set_cons_zero, List.set_cons_succ])
 refine only 14 rfl (by kernel_rfl) rfl (fun K hK => ?_)
 go_simp
 refine (ya_notes Y4').mono ?_
 rintro x w' ⟨rfl, rfl⟩
 rw [L3.out]
 try go_wp2_with fail
 refine hK.out _ _ (hHeld) (fun h2 => ?_)
 clear hK
 try simp only [Act.put, List.setIfInBounds_toArray, List.set_cons_zero, List.set_cons_succ]
 refine tk 15 (v := ?_) rfl (by kernel_rfl) (by kernel_rfl) (by kernel_rfl) (fun _ _ _ h => h) rfl ?_ h2 ?_; rotate_left; (focus (intro w hSw; (try dsimp only at hSw);  go_simp; (try with_reducible rfl))); (try simp only [Act.put, List.setIfInBounds_toArray, List.set_cons_zero, List.set_cons_succ])
 refine tk 16 (v := ?_) rfl (by kernel_rfl) (by kernel_rfl) (by kernel_rfl) (fun _ _ _ h => h) rfl ?_ h2 ?_; rotate_left; (focus (intro w hSw; (try dsimp only at hSw);  go_simp; (try with_reducible rfl))); (try simp only [Act.put, List.setIfInBounds_toArray, List.set_cons_zero, List.set_cons_succ])
 refine tk 17 (v := ?_) rfl (by kernel_rfl) (by kernel_rfl) (by kernel_rfl) (fun _ _ _ h => h) rfl ?_ h2 ?_; rotate_left; (focus (intro w hSw; (try dsimp only at hSw);  go_simp; (try with_reducible rfl))); (try simp only [Act.put, List.setIfInBounds_toArray, List.set_cons_zero, List.set_cons_succ])
 refine tk 18 (v := ?_) rfl (by kernel_rfl) (by kernel_rfl) (by kernel_rfl) (fun _ _ _ h => h) rfl ?_ h2 ?_; rotate_left; (focus (intro w hSw; (try dsimp only at hSw);  go_simp; (try with_reducible rfl))); (try simp only [Act.put, List.setIfInBounds_toArray, List.set_cons_zero, List.set_cons_succ])
 refine tk 19 (v := ?_) rfl (by kernel_rfl) (by kernel_rfl) (by kernel_rfl) (fun _ _ _ h => h) rfl ?_ h2 ?_; rotate_left; (focus (intro w hSw; (try dsimp only at hSw);  go_simp; (try with_reducible rfl))); (try simp only [Act.put, List.setIfInBounds_toArray, List.set_cons_zero, List.set_cons_succ])
 refine tk 20 (v := ?_) rfl (by kernel_rfl) (by kernel_rfl) (by kernel_rfl) (fun _ _ _ h => h) rfl ?_ h2 ?_; rotate_left; (focus (intro w hSw; (try dsimp only at hSw);  go_simp; (try with_reducible rfl))); (try simp only [Act.put, List.setIfInBounds_toArray, List.set_cons_zero, List.set_cons_succ])
 refine tk 21 (v := ?_) rfl (by kernel_rfl) (by kernel_rfl) (by kernel_rfl) (fun _ _ _ h => h) rfl ?_ h2 ?_; rotate_left; (focus (intro w hSw; (try dsimp only at hSw);  go_simp; (try with_reducible rfl))); (try simp only [Act.put, List.setIfInBounds_toArray, List.set_cons_zero, List.set_cons_succ])
 refine tk 22 (v := ?_) rfl (by kernel_rfl) (by kernel_rfl) (by kernel_rfl) (fun _ _ _ h => h) rfl ?_ h2 ?_; rotate_left; (focus (intro w hSw; (try dsimp only at hSw);  go_simp; (try with_reducible rfl))); (try simp only [Act.put, List.setIfInBounds_toArray, List.set_cons_zero, List.set_cons_succ])
 refine tk 23 (v := ?_) rfl (by kernel_rfl) (by kernel_rfl) (by kernel_rfl) (fun _ _ _ h => h) rfl ?_ h2 ?_; rotate_left; (focus (intro w hSw; (try dsimp only at hSw);  go_simp; (try with_reducible rfl))); (try simp only [Act.put, List.setIfInBounds_toArray, List.set_cons_zero, List.set_cons_succ])
 refine tk 24 (v := ?_) rfl (by kernel_rfl) (by kernel_rfl) (by kernel_rfl) (fun _ _ _ h => h) rfl ?_ h2 ?_; rotate_left; (focus (intro w hSw; (try dsimp only at hSw);  go_simp; (try with_reducible rfl))); (try simp only [Act.put, List.setIfInBounds_toArray, List.set_cons_zero, List.set_cons_succ])
 refine tk 25 (v := ?_) rfl (by kernel_rfl) (by kernel_rfl) (by kernel_rfl) (fun _ _ _ h => h) rfl ?_ h2 ?_; rotate_left; (focus (intro w hSw; (try dsimp only at hSw);  go_simp; (try with_reducible rfl))); (try simp only [Act.put, List.setIfInBounds_toArray, List.set_cons_zero, List.set_cons_succ])
 refine only 26 rfl (by kernel_rfl) rfl (fun K hK => ?_)
 go_simp
 refine (ya_del Y4' G3.out (by omega) (by omega) (by rw [L3.out]; omega) 0 (by rw [L3.out]; omega) false).mono ?_
 rintro x w8 ⟨rfl, hY⟩
 rw [H4.out] at hY
 have Y5 := hid hY
 try go_wp2_with fail
 refine hK.out _ _ (hY.memR (t := thB P 330 (pc p0)) (by simp)) (fun h3 => ?_)
 clear hK
 try simp only [Act.put, List.setIfInBounds_toArray, List.set_cons_zero, List.set_cons_succ]
 clear hY
 refine tk 27 (v := ?_) rfl (by kernel_rfl) (by kernel_rfl) (by kernel_rfl) (fun _ _ _ h => h) rfl ?_ h3 ?_; rotate_left; (focus (intro w hSw; (try dsimp only at hSw);  go_simp; (try with_reducible rfl))); (try simp only [Act.put, List.setIfInBounds_toArray, List.set_cons_zero, List.set_cons_succ])
 refine tk 28 (v := ?_) rfl (by kernel_rfl) (by kernel_rfl) (by kernel_rfl) (fun _ _ _ h => h) rfl ?_ h3 ?_; rotate_left; (focus (intro w hSw; (try dsimp only at hSw);  go_simp; (try with_reducible rfl))); (try simp only [Act.put, List.setIfInBounds_toArray, List.set_cons_zero, List.set_cons_succ])
 refine tk 29 (v := ?_) rfl (by kernel_rfl) (by kernel_rfl) (by kernel_rfl) (fun _ _ _ h => h) rfl ?_ h3 ?_; rotate_left; (focus (intro w hSw; (try dsimp only at hSw);  go_simp; (try with_reducible rfl))); (try simp only [Act.put, List.setIfInBounds_toArray, List.set_cons_zero, List.set_cons_succ])
 refine only 30 rfl (by kernel_rfl) rfl (fun K hK => ?_)
 go_simp
 refine (ya_lose Y5.out 0 (by rw [L4.out]; omega)).mono ?_
 rintro x w9 ⟨rfl, hY⟩
 rw [H5.out] at hY
 have Y6 := hid hY
 try go_wp2_with fail
 refine hK.out _ _ (hY.memR (t := thB P 330 (pc p0)) (by simp)) (fun h4 => ?_)
 clear hK
 try simp only [Act.put, List.setIfInBounds_toArray, List.set_cons_zero, List.set_cons_succ]
 clear hY
 refine tk 31 (v := ?_) rfl (by kernel_rfl) (by kernel_rfl) (by kernel_rfl) (fun _ _ _ h => h) rfl ?_ h4 ?_; rotate_left; (focus (intro w hSw; (try dsimp only at hSw);  go_simp; (try with_reducible rfl))); (try simp only [Act.put, List.setIfInBounds_toArray, List.set_cons_zero, List.set_cons_succ])
 refine tk 32 (v := ?_) rfl (by kernel_rfl) (by kernel_rfl) (by kernel_rfl) (fun _ _ _ h => h) rfl ?_ h4 ?_; rotate_left; (focus (intro w hSw; (try dsimp only at hSw);  go_simp; (try with_reducible rfl))); (try simp only [Act.put, List.setIfInBounds_toArray, List.set_cons_zero, List.set_cons_succ])
 refine tk 33 (v := ?_) rfl (by kernel_rfl) (by kernel_rfl) (by kernel_rfl) (fun _ _ _ h => h) rfl ?_ h4 ?_; rotate_left; (focus (intro w hSw; (try dsimp only at hSw);  go_simp; (try with_reducible rfl))); (try simp only [Act.put, List.setIfInBounds_toArray, List.set_cons_zero, List.set_cons_succ])
 refine only 34 rfl (by kernel_rfl) rfl (fun K hK => ?_)
 go_simp
 refine (ya_loseN Y6.out 0 (by rw [L5.out]; rfl)).mono ?_
 rintro x w' ⟨rfl, rfl⟩
 try go_wp2_with fail
 refine hK.out _ _ (h4) (fun h5 => ?_)
 clear hK
 try simp only [Act.put, List.setIfInBounds_toArray, List.set_cons_zero, List.set_cons_succ]
 refine tk 35 (v := ?_) rfl (by kernel_rfl) (by kernel_rfl) (by kernel_rfl) (fun _ _ _ h => h) rfl ?_ h5 ?_; rotate_left; (focus (intro w hSw; (try dsimp only at hSw);  go_simp; (try with_reducible rfl))); (try simp only [Act.put, List.setIfInBounds_toArray, List.set_cons_zero, List.set_cons_succ])
 refine tk 36 (v := ?_) rfl (by kernel_rfl) (by kernel_rfl) (by kernel_rfl) (fun _ _ _ h => h) rfl ?_ h5 ?_; rotate_left; (focus (intro w hSw; (try dsimp only at hSw);  go_simp; (try with_reducible rfl))); (try simp only [Act.put, List.setIfInBounds_toArray, List.set_cons_zero, List.set_cons_succ])
 refine tk 37 (v := ?_) rfl (by kernel_rfl) (by kernel_rfl) (by kernel_rfl) (fun _ _ _ h => h) rfl ?_ h5 ?_; rotate_left; (focus (intro w hSw; (try dsimp only at hSw);  go_simp; (try with_reducible rfl))); (try simp only [Act.put, List.setIfInBounds_toArray, List.set_cons_zero, List.set_cons_succ])
 refine tk 38 (v := ?_) rfl (by kernel_rfl) (by kernel_rfl) (by kernel_rfl) (fun _ _ _ h => h) rfl ?_ h5 ?_; rotate_left; (focus (intro w hSw; (try dsimp only at hSw);  go_simp; (try with_reducible rfl))); (try simp only [Act.put, List.setIfInBounds_toArray, List.set_cons_zero, List.set_cons_succ])
 refine tk 40 (v := .agg (FA 330 (pc p0))) rfl (by kernel_rfl) (by kernel_rfl) (by kernel_rfl) (fun _ _ _ h => h) rfl (fun w hSw => ex_load rfl rfl (hSw.load 0 330 (pc p0) (by omega) (fun j hj => by rw [Nat.zero_add]) Tryz.underlying34 rfl info_pl)) h5 ?_; (try simp only [Act.put, List.setIfInBounds_toArray, List.set_cons_zero, List.set_cons_succ])
 refine only 39 rfl (by kernel_rfl) rfl (fun K hK => ?_)
 go_simp
 refine (ya_pool Y6.out).mono ?_
 rintro x w10 ⟨rfl, hY⟩
 rw [PL.out]
 have Y7 := hid hY
 try go_wp2_with fail
 refine hK.out _ _ (hY.memR (t := thB P 330 (pc p0)) (by simp)) (fun h6 => ?_)
 clear hK
 try simp only [Act.put, List.setIfInBounds_toArray, List.set_cons_zero, List.set_cons_succ]
 clear hY
 refine tk 41 (v := .bool true) rfl (by kernel_rfl) (by kernel_rfl) (by kernel_rfl) (fun _ _ _ h => h) rfl (fun w hSw => ex_eqFP _ _ rfl p0 rfl rfl _) h6 ?_; (try simp only [Act.put, List.setIfInBounds_toArray, List.set_cons_zero, List.set_cons_succ])
 refine tk 42 (v := ?_) rfl (by kernel_rfl) (by kernel_rfl) (by kernel_rfl) (fun _ _ _ h => h) rfl ?_ h6 ?_; rotate_left; (focus (intro w hSw; (try dsimp only at hSw);  go_simp; (try with_reducible rfl))); (try simp only [Act.put, List.setIfInBounds_toArray, List.set_cons_zero, List.set_cons_succ])
 refine tk 43 (v := ?_) rfl (by kernel_rfl) (by kernel_rfl) (by kernel_rfl) (fun _ _ _ h => h) rfl ?_ h6 ?_; rotate_left; (focus (intro w hSw; (try dsimp only at hSw);  go_simp; (try with_reducible rfl))); (try simp only [Act.put, List.setIfInBounds_toArray, List.set_cons_zero, List.set_cons_succ])
 refine wpAnyH_done (by kernel_rfl) ?_ _
 go_wp2_with fail
 go_ret
 exact ⟨rfl, Y7.out.ch.below (by simp) (Nat.le_refl _)⟩
end Go.Proofs.YtlfionfnpieoiaaGreat
