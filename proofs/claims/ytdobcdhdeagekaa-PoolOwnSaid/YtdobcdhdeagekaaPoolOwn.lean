/- roundhouselaw6.PoolOwn answers true for every row, any number; no condition. -/
import Derived.Test.YtdobcdhdeagekaaPolSg
import Derived.Deep.CutRange
import Derived.BigQuiet
import Derived.Deep.RegionHeld3
import Derived.Deep.Cut
namespace Go.Proofs.Ytdobcdhdeagekaa.poolOwn
set_option linter.unusedVariables false
set_option linter.unusedSimpArgs false
open Go.RowKit Go.ChangeShapes Go.WideShapes Go.ChangeAt

theorem rse2 {w : World} {T : TypeId} (e1 e2 e3 e4 e5 e6 e7 f1 f2 f3 f4 f5 f6 f7 : Int) : Se (w.alloc (.cells #[.int .i64 e1, .int .i64 e2, .int .i64 e3, .int .i64 e4, .int .i64 e5, .int .u64 e6, .int .u64 e7, .int .i64 f1, .int .i64 f2, .int .i64 f3, .int .i64 f4, .int .i64 f5, .int .u64 f6, .int .u64 f7] T)) (some ⟨w.heap.size, 0, none⟩) 2 (gl [⟨e1, e2, e3, e4, e5, ⟨e6, e7⟩⟩, ⟨f1, f2, f3, f4, f5, ⟨f6, f7⟩⟩]) := se_made [⟨e1, e2, e3, e4, e5, ⟨e6, e7⟩⟩, ⟨f1, f2, f3, f4, f5, ⟨f6, f7⟩⟩] rfl
attribute [local irreducible] PA
set_option maxRecDepth 100000 in
set_option maxHeartbeats 8000000 in
theorem walk (W : World) (A1 : Option Addr) (n1 c1 : Nat) (g1 : Nat → Int) (hn1 : n1 ≤ c1) (hc1 : c1 ≤ maxLen) (hr1 : Is W A1 n1 g1) (hg1 : IsI g1) (hl1 : ∀ ad, A1 = some ad → 0 < n1 → ad.block < W.heap.size) (re1 : c1 * 8 ≤ 140737488351232) (a0 : Int) (r_a0 : -9223372036854775808 ≤ a0 ∧ a0 ≤ 9223372036854775807) :
    Calls Try.prog 13 #[.slice A1 n1 c1, .int .i64 a0] W fun e w' => e = .returned (.bool true) ∧ Below W.heap.size W w' := by
  have hz : ∀ w : World, (zeroValue 34).run Try.prog w = .ok (.agg (PA zPl)) w := fun w => zero_pl w
  have hz1 := pa_size zPl
  have hz2 := pa_ne zPl
  unfold maxLen at hc1
  have hnm : (n1 : Int) ≤ 9223372036854775807 := by have := hn1; omega
  have HL := hid hl1
  clear hl1 re1
  obtain ⟨p, hp⟩ : ∃ p, p = mkP g1 (min n1 30) := ⟨_, rfl⟩
  have HQ := hid (show Pinv p 30 from by rw [hp]; exact (mkP_inv g1 _).mono (by omega))
  have MK := hid (fun (w : World) (h : Is w A1 n1 g1) (hl : ∀ ad, A1 = some ad → 0 < n1 → ad.block < w.heap.size) => (show Calls Try.prog 24 #[.slice A1 n1 c1, .int .i64 30] w fun x w' => x = .returned (.agg (PA p)) ∧ Below w.heap.size w w' from by rw [hp]; exact make_any w A1 n1 c1 g1 h hl hnm 30 (by omega)))
  clear hp
  obtain ⟨e, he⟩ : ∃ x, x = enN a0 := ⟨_, rfl⟩
  have EA := fun w => entry_any a0 w
  rw [← he] at EA
  clear he
  obtain ⟨e1, e2, e3, e4, e5, e6, e7⟩ := e
  unfold enV at EA
  simp only at EA
  replace EA := hid EA
  obtain ⟨f, hf⟩ : ∃ x, x = enN (a0.tdiv 2) := ⟨_, rfl⟩
  have EB := fun w => entry_any (a0.tdiv 2) w
  rw [← hf] at EB
  clear hf
  obtain ⟨f1, f2, f3, f4, f5, f6, f7⟩ := f
  unfold enV at EB
  simp only at EB
  replace EB := hid EB
  obtain ⟨ar, har⟩ : ∃ ar, ar = apR p ⟨e1, e2, e3, e4, e5, ⟨e6, e7⟩⟩ := ⟨_, rfl⟩
  have AP := hid (show ∀ w, Calls Try.prog 19 #[.agg (PA p), .agg #[.int .i64 e1, .int .i64 e2, .int .i64 e3, .int .i64 e4, .int .i64 e5, .int .u64 e6, .int .u64 e7]] w fun x w' => x = .returned (.tuple #[.agg (PA ar.1), .int .i64 ar.2]) ∧ Below w.heap.size w w' from by rw [har]; exact fun w => apply_any p ⟨e1, e2, e3, e4, e5, ⟨e6, e7⟩⟩ (HQ.out.pb (by omega)) w)
  clear har
  obtain ⟨q, er⟩ := ar
  simp only at AP
  have AL := hid (fun (A : Option Addr) (w : World) (h : Se w A 2 (gl [⟨e1, e2, e3, e4, e5, ⟨e6, e7⟩⟩, ⟨f1, f2, f3, f4, f5, ⟨f6, f7⟩⟩])) => (show Calls Try.prog 25 #[.agg (PA p), .slice A 2 2] w fun x w' => (∃ v, x = .returned v) ∧ Below w.heap.size w w' from (all_any p _ A 2 2 w h (by omega) 30 HQ.out (by omega)).mono (fun x w' ⟨q, k, er, hx, ho, hb⟩ => ⟨⟨_, hx⟩, hb⟩)))
  go_enter Try.func13, Try.ntmps13
  go_wp2_with fail
  refine (known_any _).mono ?_
  rintro x w1 ⟨rfl, hB⟩
  have R1 := hid (hr1.below hB (Nat.le_refl _))
  have B1 := hid hB
  clear hr1 hB
  go_wp2_with fail
  refine (MK.out _ R1.out (fun ad e h => Nat.lt_of_lt_of_le (HL.out ad e h) B1.out.size)).mono ?_
  rintro x w2 ⟨rfl, hb⟩
  have R2 := hid (R1.out.below hb (Nat.le_refl _))
  have B2 := hid (B1.out.trans (hb.mono B1.out.size))
  clear hb R1 B1
  go_wp2_with fail
  refine (MK.out _ R2.out (fun ad e h => Nat.lt_of_lt_of_le (HL.out ad e h) B2.out.size)).mono ?_
  rintro x w3 ⟨rfl, hb⟩
  have B3 := hid (B2.out.trans (hb.mono B2.out.size))
  clear hb R2 B2 MK
  have S1 := hid ((SG.made ((SG.made (SG.start B3.out) (T := 34) zPl)) (T := 34) zPl))
  have hs2 : (w3.alloc (.cells (PA zPl) 34)).heap.size = w3.heap.size + 1 := by simp
  rw [hs2] at S1
  clear hs2
  have B4 := hid B3.out.size
  clear B3
  skip
  have dPO : w3.heap.size + 1 ≠ w3.heap.size := by omega
  have dOP := Ne.symm dPO
  have lP := B4.out
  have lO : W.heap.size ≤ w3.heap.size + 1 := by have := B4.out; omega
  clear B4
  have Q1 := SG.get S1.out (b := w3.heap.size) (p := zPl) (by simp)
  have ST1 := hid (Q1.storeA p)
  have S2 := hid ((SG.sets (S1.out.less (L' := [(w3.heap.size + 1, zPl)]) (fun x hx => by simp at hx; subst hx; simp)) (c := w3.heap.size) (o := 0) (vs := (PA p).toList) (fun x hx => by simp at hx; subst hx; exact dOP) (by simp) lP).cons (Q1.whole p))
  have Q2 := SG.get S2.out (b := w3.heap.size + 1) (p := zPl) (by simp)
  have ST2 := hid (Q2.storeA p)
  have S3 := hid ((SG.sets (S2.out.less (L' := [(w3.heap.size, p)]) (fun x hx => by simp at hx; subst hx; simp)) (c := w3.heap.size + 1) (o := 0) (vs := (PA p).toList) (fun x hx => by simp at hx; subst hx; exact dPO) (by simp) lO).cons (Q2.whole p))
  clear Q1 Q2 S1 S2
  go_upto_region 4 with (first | ((with_reducible refine wl_id ?_); refine wl_store rfl rfl rfl rfl ST1.out ?_) | ((with_reducible refine wl_id ?_); refine wl_store rfl rfl rfl rfl ST2.out ?_))
  clear ST1 ST2
  generalize (((w3.alloc (.cells (PA zPl) 34)).alloc (.cells (PA zPl) 34)).setCells w3.heap.size 0 (PA p).toList).setCells (w3.heap.size + 1) 0 (PA p).toList = w4 at *
  generalize w3.heap.size + 1 = O at *
  generalize w3.heap.size = P at *
  clear lO
  go_wp2_with fail
  refine (EA.out _).mono ?_
  rintro x w5 ⟨rfl, hb⟩
  have S4 := hid (S3.out.below hb)
  clear hb S3
  go_wp2_with fail
  refine (EB.out _).mono ?_
  rintro x w6 ⟨rfl, hb⟩
  have S5 := hid (S4.out.below hb)
  clear hb S4
  go_upto_region 5 with (fail)
  have S6 := hid ((S5.out.alloc (.cells #[.int .i64 e1, .int .i64 e2, .int .i64 e3, .int .i64 e4, .int .i64 e5, .int .u64 e6, .int .u64 e7, .int .i64 f1, .int .i64 f2, .int .i64 f3, .int .i64 f4, .int .i64 f5, .int .u64 f6, .int .u64 f7] 43)).row (rse2 (w := w6) (T := 43) e1 e2 e3 e4 e5 e6 e7 f1 f2 f3 f4 f5 f6 f7))
  clear S5
  generalize w6.alloc (.cells #[.int .i64 e1, .int .i64 e2, .int .i64 e3, .int .i64 e4, .int .i64 e5, .int .u64 e6, .int .u64 e7, .int .i64 f1, .int .i64 f2, .int .i64 f3, .int .i64 f4, .int .i64 f5, .int .u64 f6, .int .u64 f7] 43) = w7 at *
  generalize w6.heap.size = LB at *
  go_wp2_with fail
  refine (EA.out _).mono ?_
  rintro x w5 ⟨rfl, hb⟩
  have S4 := hid (S6.out.below hb)
  clear hb S6
  go_wp2_with fail
  refine (EB.out _).mono ?_
  rintro x w6 ⟨rfl, hb⟩
  have S5 := hid (S4.out.below hb)
  clear hb S4
  go_upto_region 6 with (fail)
  have S6 := hid ((S5.out.alloc (.cells #[.int .i64 e1, .int .i64 e2, .int .i64 e3, .int .i64 e4, .int .i64 e5, .int .u64 e6, .int .u64 e7, .int .i64 f1, .int .i64 f2, .int .i64 f3, .int .i64 f4, .int .i64 f5, .int .u64 f6, .int .u64 f7] 43)).row (rse2 (w := w6) (T := 43) e1 e2 e3 e4 e5 e6 e7 f1 f2 f3 f4 f5 f6 f7))
  have hdd := SG.neE S5.out (fun x hx => by simp at hx; subst hx; exact Nat.succ_pos 1) (LB, 2, (gl [⟨e1, e2, e3, e4, e5, ⟨e6, e7⟩⟩, ⟨f1, f2, f3, f4, f5, ⟨f6, f7⟩⟩])) (by simp)
  simp only at hdd
  clear S5
  generalize w6.alloc (.cells #[.int .i64 e1, .int .i64 e2, .int .i64 e3, .int .i64 e4, .int .i64 e5, .int .u64 e6, .int .u64 e7, .int .i64 f1, .int .i64 f2, .int .i64 f3, .int .i64 f4, .int .i64 f5, .int .u64 f6, .int .u64 f7] 43) = w7 at *
  generalize w6.heap.size = MB at *
  go_cut [9] from 29 to 37 (fun u wx => ∃ U : Nat, u = .pointer (some ⟨U, 0, none⟩) ∧ PoolAt wx U q ∧ W.heap.size ≤ U ∧ SG W wx [(O, p), (P, p)] [(MB, 2, (gl [⟨e1, e2, e3, e4, e5, ⟨e6, e7⟩⟩, ⟨f1, f2, f3, f4, f5, ⟨f6, f7⟩⟩])), (LB, 2, (gl [⟨e1, e2, e3, e4, e5, ⟨e6, e7⟩⟩, ⟨f1, f2, f3, f4, f5, ⟨f6, f7⟩⟩]))] ∧ U ≠ O ∧ U ≠ P ∧ U ≠ MB ∧ U ≠ LB)
  case first =>
    refine wp_region_held_drew (S := fun w' => SG W w' [(O, p), (P, p)] [(MB, 2, (gl [⟨e1, e2, e3, e4, e5, ⟨e6, e7⟩⟩, ⟨f1, f2, f3, f4, f5, ⟨f6, f7⟩⟩])), (LB, 2, (gl [⟨e1, e2, e3, e4, e5, ⟨e6, e7⟩⟩, ⟨f1, f2, f3, f4, f5, ⟨f6, f7⟩⟩]))]) (by kernel_rfl) ?_ (fun hHeld => ?_)
    · exact S6.out.drew
    refine tk 0 (v := .agg (PA p)) rfl (by kernel_rfl) (by kernel_rfl) (by kernel_rfl) (fun _ _ _ h => h) rfl (fun w hSw => ex_load rfl rfl (SG.get hSw (b := P) (p := p) (by simp)).loadA) hHeld ?_; (try simp only [Act.put, List.setIfInBounds_toArray, List.set_cons_zero, List.set_cons_succ])
    refine tk 1 (v := ?_) rfl (by kernel_rfl) (by kernel_rfl) (by kernel_rfl) (fun _ _ _ h => h) rfl ?_ hHeld ?_; rotate_left; (focus (intro w hSw; (try dsimp only at hSw);  go_simp; (try with_reducible rfl))); (try simp only [Act.put, List.setIfInBounds_toArray, List.set_cons_zero, List.set_cons_succ])
    refine tk 2 (v := ?_) rfl (by kernel_rfl) (by kernel_rfl) (by kernel_rfl) (fun _ _ _ h => h) rfl ?_ hHeld ?_; rotate_left; (focus (intro w hSw; (try dsimp only at hSw);  go_simp; (try with_reducible rfl))); (try simp only [Act.put, List.setIfInBounds_toArray, List.set_cons_zero, List.set_cons_succ])
    refine tk 3 (v := .agg #[.int .i64 e1, .int .i64 e2, .int .i64 e3, .int .i64 e4, .int .i64 e5, .int .u64 e6, .int .u64 e7]) rfl (by kernel_rfl) (by kernel_rfl) (by kernel_rfl) (fun _ _ _ h => h) rfl (fun w hSw => ex_load rfl rfl (Se.load (SG.ent hSw (b := LB) (n := 2) (g := (gl [⟨e1, e2, e3, e4, e5, ⟨e6, e7⟩⟩, ⟨f1, f2, f3, f4, f5, ⟨f6, f7⟩⟩])) (by simp)) 0 (by decide))) hHeld ?_; (try simp only [Act.put, List.setIfInBounds_toArray, List.set_cons_zero, List.set_cons_succ])
    refine twoUp 4 8 rfl rfl (by kernel_rfl) rfl rfl (fun K hK => ?_) (fun K hK => ?_)
    · go_simp
      refine (AP.out _).mono ?_
      rintro e' w' ⟨rfl, hb⟩
      try go_wp2_with fail
      refine hK.out _ _ (SG.below hHeld hb) (fun hz0 => ?_)
      clear hK hb
      try simp only [Act.put, List.setIfInBounds_toArray, List.set_cons_zero, List.set_cons_succ]
      refine tk 5 (v := ?_) rfl (by kernel_rfl) (by kernel_rfl) (by kernel_rfl) (fun _ _ _ h => h) rfl ?_ hz0 ?_; rotate_left; (focus (intro w hSw; (try dsimp only at hSw);  go_simp; (try with_reducible rfl))); (try simp only [Act.put, List.setIfInBounds_toArray, List.set_cons_zero, List.set_cons_succ])
      refine tk 6 (v := ?_) rfl (by kernel_rfl) (by kernel_rfl) (by kernel_rfl) (fun _ _ _ h => h) rfl ?_ hz0 ?_; rotate_left; (focus (intro w hSw; (try dsimp only at hSw);  go_simp; (try with_reducible rfl))); (try simp only [Act.put, List.setIfInBounds_toArray, List.set_cons_zero, List.set_cons_succ])
      refine tk 7 (v := ?_) rfl (by kernel_rfl) (by kernel_rfl) (by kernel_rfl) (fun _ _ _ h => h) rfl ?_ hz0 ?_; rotate_left; (focus (intro w hSw; (try dsimp only at hSw);  go_simp; (try with_reducible rfl))); (try simp only [Act.put, List.setIfInBounds_toArray, List.set_cons_zero, List.set_cons_succ])
      refine only 8 rfl (by kernel_rfl) rfl (fun K hK => ?_)
      go_simp
      have nL := SG.ne hz0
      have nE := SG.neE hz0 (fun x hx => by simp at hx; rcases hx with rfl | rfl <;> exact Nat.succ_pos 1)
      have lN := (SG.bl hz0).size
      refine hK.out _ _ (SG.alloc hz0 _) (fun hz1 => ?_)
      clear hK
      try simp only [Act.put, List.setIfInBounds_toArray, List.set_cons_zero, List.set_cons_succ]
      have NN := sg_newH hz1
      have ST := NN.storeA q
      have NW := NN.whole q
      refine only 9 rfl (by kernel_rfl) rfl (fun K hK => ?_)
      refine ov_store rfl rfl rfl ST ?_
      refine hK.out _ _ (SG.sets hz1 nL nE lN) (fun hE => ?_)
      clear hK
      try simp only [Act.put, List.setIfInBounds_toArray, List.set_cons_zero, List.set_cons_succ]
      refine tk 10 (v := ?_) rfl (by kernel_rfl) (by kernel_rfl) (by kernel_rfl) (fun _ _ _ h => h) rfl ?_ hE ?_; rotate_left; (focus (intro w hSw; (try dsimp only at hSw);  go_simp; (try with_reducible rfl))); (try simp only [Act.put, List.setIfInBounds_toArray, List.set_cons_zero, List.set_cons_succ])
      refine wpAnyH_done (by kernel_rfl) ?_ _
      go_wp2_with fail
      go_meet
      exact ⟨_, rfl, NW, lN, hE, nL (O, p) (by simp), nL (P, p) (by simp), nE (MB, 2, (gl [⟨e1, e2, e3, e4, e5, ⟨e6, e7⟩⟩, ⟨f1, f2, f3, f4, f5, ⟨f6, f7⟩⟩])) (by simp), nE (LB, 2, (gl [⟨e1, e2, e3, e4, e5, ⟨e6, e7⟩⟩, ⟨f1, f2, f3, f4, f5, ⟨f6, f7⟩⟩])) (by simp)⟩
    · go_simp
      have nL := SG.ne hHeld
      have nE := SG.neE hHeld (fun x hx => by simp at hx; rcases hx with rfl | rfl <;> exact Nat.succ_pos 1)
      have lN := (SG.bl hHeld).size
      refine hK.out _ _ (SG.alloc hHeld _) (fun hz0 => ?_)
      clear hK
      try simp only [Act.put, List.setIfInBounds_toArray, List.set_cons_zero, List.set_cons_succ]
      have NN := sg_newHD hz0
      refine only 4 rfl (by kernel_rfl) rfl (fun K hK => ?_)
      go_simp
      refine (AP.out _).mono ?_
      rintro e' w' ⟨rfl, hb⟩
      try go_wp2_with fail
      have NN := NN.below hb
      refine hK.out _ _ (SG.below hz0 hb) (fun hz1 => ?_)
      clear hK hb
      try simp only [Act.put, List.setIfInBounds_toArray, List.set_cons_zero, List.set_cons_succ]
      refine tk 5 (v := ?_) rfl (by kernel_rfl) (by kernel_rfl) (by kernel_rfl) (fun _ _ _ h => h) rfl ?_ hz1 ?_; rotate_left; (focus (intro w hSw; (try dsimp only at hSw);  go_simp; (try with_reducible rfl))); (try simp only [Act.put, List.setIfInBounds_toArray, List.set_cons_zero, List.set_cons_succ])
      refine tk 6 (v := ?_) rfl (by kernel_rfl) (by kernel_rfl) (by kernel_rfl) (fun _ _ _ h => h) rfl ?_ hz1 ?_; rotate_left; (focus (intro w hSw; (try dsimp only at hSw);  go_simp; (try with_reducible rfl))); (try simp only [Act.put, List.setIfInBounds_toArray, List.set_cons_zero, List.set_cons_succ])
      refine tk 7 (v := ?_) rfl (by kernel_rfl) (by kernel_rfl) (by kernel_rfl) (fun _ _ _ h => h) rfl ?_ hz1 ?_; rotate_left; (focus (intro w hSw; (try dsimp only at hSw);  go_simp; (try with_reducible rfl))); (try simp only [Act.put, List.setIfInBounds_toArray, List.set_cons_zero, List.set_cons_succ])
      have ST := NN.storeA q
      have NW := NN.whole q
      refine only 9 rfl (by kernel_rfl) rfl (fun K hK => ?_)
      refine ov_store rfl rfl rfl ST ?_
      refine hK.out _ _ (SG.sets hz1 nL nE lN) (fun hE => ?_)
      clear hK
      try simp only [Act.put, List.setIfInBounds_toArray, List.set_cons_zero, List.set_cons_succ]
      refine tk 10 (v := ?_) rfl (by kernel_rfl) (by kernel_rfl) (by kernel_rfl) (fun _ _ _ h => h) rfl ?_ hE ?_; rotate_left; (focus (intro w hSw; (try dsimp only at hSw);  go_simp; (try with_reducible rfl))); (try simp only [Act.put, List.setIfInBounds_toArray, List.set_cons_zero, List.set_cons_succ])
      refine wpAnyH_done (by kernel_rfl) ?_ _
      go_wp2_with fail
      go_meet
      exact ⟨_, rfl, NW, lN, hE, nL (O, p) (by simp), nL (P, p) (by simp), nE (MB, 2, (gl [⟨e1, e2, e3, e4, e5, ⟨e6, e7⟩⟩, ⟨f1, f2, f3, f4, f5, ⟨f6, f7⟩⟩])) (by simp), nE (LB, 2, (gl [⟨e1, e2, e3, e4, e5, ⟨e6, e7⟩⟩, ⟨f1, f2, f3, f4, f5, ⟨f6, f7⟩⟩])) (by simp)⟩
  case rest =>
    obtain ⟨U, rfl, hU, lU, hS, d1, d2, d3, d4⟩ := hcut
    have S7 := hid hS
    have cu : wc.cell? ⟨U, 4, none⟩ = some (.int .i64 (q.s 0).ad) := hU.cs 0 1 (by omega) (by omega)
    have fu := hU.2.2 4
    have SF := hid (show SG W (wc.setCell ⟨U, 4, none⟩ (.int .i64 99)) [(O, p), (P, p)] [(MB, 2, (gl [⟨e1, e2, e3, e4, e5, ⟨e6, e7⟩⟩, ⟨f1, f2, f3, f4, f5, ⟨f6, f7⟩⟩])), (LB, 2, (gl [⟨e1, e2, e3, e4, e5, ⟨e6, e7⟩⟩, ⟨f1, f2, f3, f4, f5, ⟨f6, f7⟩⟩]))] from SG.sets hS (c := U) (o := 4) (vs := [.int .i64 99]) (fun x hx => by simp at hx; rcases hx with rfl | rfl <;> assumption) (fun x hx => by simp at hx; rcases hx with rfl | rfl <;> assumption) lU)
    clear hU hS S6 S7 d1 d2 d3 d4
    go_upto_region 8 with (fail)
    clear cu fu
    generalize wc.setCell ⟨U, 4, none⟩ (.int .i64 99) = w8 at *
    have LP := (SG.get SF.out (b := P) (p := p) (by simp)).loadA
    go_wp2_with ((with_reducible refine wl_id ?_); refine wl_load rfl rfl rfl LP ?_)
    refine (AL.out _ _ (SG.ent SF.out (b := LB) (n := 2) (g := (gl [⟨e1, e2, e3, e4, e5, ⟨e6, e7⟩⟩, ⟨f1, f2, f3, f4, f5, ⟨f6, f7⟩⟩])) (by simp))).mono ?_
    rintro x w9 ⟨⟨v, rfl⟩, hb⟩
    clear LP
    have S9 := hid (SF.out.below hb)
    clear hb SF
    go_upto_region 9 with (fail)
    refine wp_region_held_drew (S := fun w' => SG W w' [(O, p), (P, p)] [(MB, 2, (gl [⟨e1, e2, e3, e4, e5, ⟨e6, e7⟩⟩, ⟨f1, f2, f3, f4, f5, ⟨f6, f7⟩⟩])), (LB, 2, (gl [⟨e1, e2, e3, e4, e5, ⟨e6, e7⟩⟩, ⟨f1, f2, f3, f4, f5, ⟨f6, f7⟩⟩]))]) (by kernel_rfl) ?_ (fun hHeld => ?_)
    · exact S9.out.drew
    refine tk 0 (v := .agg (PA p)) rfl (by kernel_rfl) (by kernel_rfl) (by kernel_rfl) (fun _ _ _ h => h) rfl (fun w hSw => ex_load rfl rfl (SG.get hSw (b := P) (p := p) (by simp)).loadA) hHeld ?_; (try simp only [Act.put, List.setIfInBounds_toArray, List.set_cons_zero, List.set_cons_succ])
    refine tk 1 (v := .agg (PA p)) rfl (by kernel_rfl) (by kernel_rfl) (by kernel_rfl) (fun _ _ _ h => h) rfl (fun w hSw => ex_load rfl rfl (SG.get hSw (b := O) (p := p) (by simp)).loadA) hHeld ?_; (try simp only [Act.put, List.setIfInBounds_toArray, List.set_cons_zero, List.set_cons_succ])
    refine tk 2 (v := .bool true) rfl (by kernel_rfl) (by kernel_rfl) (by kernel_rfl) (fun _ _ _ h => h) rfl (fun w hSw => ex_eql _ _ rfl p rfl rfl _) hHeld ?_; (try simp only [Act.put, List.setIfInBounds_toArray, List.set_cons_zero, List.set_cons_succ])
    refine tk 3 (v := ?_) rfl (by kernel_rfl) (by kernel_rfl) (by kernel_rfl) (fun _ _ _ h => h) rfl ?_ hHeld ?_; rotate_left; (focus (intro w hSw; (try dsimp only at hSw);  go_simp; (try with_reducible rfl))); (try simp only [Act.put, List.setIfInBounds_toArray, List.set_cons_zero, List.set_cons_succ])
    refine tk 4 (v := ?_) rfl (by kernel_rfl) (by kernel_rfl) (by kernel_rfl) (fun _ _ _ h => h) rfl ?_ hHeld ?_; rotate_left; (focus (intro w hSw; (try dsimp only at hSw);  go_simp; (try with_reducible rfl))); (try simp only [Act.put, List.setIfInBounds_toArray, List.set_cons_zero, List.set_cons_succ])
    refine tk 5 (v := ?_) rfl (by kernel_rfl) (by kernel_rfl) (by kernel_rfl) (fun _ _ _ h => h) rfl ?_ hHeld ?_; rotate_left; (focus (intro w hSw; (try dsimp only at hSw);  go_simp; (try with_reducible rfl))); (try simp only [Act.put, List.setIfInBounds_toArray, List.set_cons_zero, List.set_cons_succ])
    refine tk 6 (v := .agg #[.int .i64 e1, .int .i64 e2, .int .i64 e3, .int .i64 e4, .int .i64 e5, .int .u64 e6, .int .u64 e7]) rfl (by kernel_rfl) (by kernel_rfl) (by kernel_rfl) (fun _ _ _ h => h) rfl (fun w hSw => ex_load rfl rfl (Se.load (SG.ent hSw (b := LB) (n := 2) (g := (gl [⟨e1, e2, e3, e4, e5, ⟨e6, e7⟩⟩, ⟨f1, f2, f3, f4, f5, ⟨f6, f7⟩⟩])) (by simp)) 0 (by decide))) hHeld ?_; (try simp only [Act.put, List.setIfInBounds_toArray, List.set_cons_zero, List.set_cons_succ])
    refine tk 7 (v := ?_) rfl (by kernel_rfl) (by kernel_rfl) (by kernel_rfl) (fun _ _ _ h => h) rfl ?_ hHeld ?_; rotate_left; (focus (intro w hSw; (try dsimp only at hSw);  go_simp; (try with_reducible rfl))); (try simp only [Act.put, List.setIfInBounds_toArray, List.set_cons_zero, List.set_cons_succ])
    refine tk 8 (v := ?_) rfl (by kernel_rfl) (by kernel_rfl) (by kernel_rfl) (fun _ _ _ h => h) rfl ?_ hHeld ?_; rotate_left; (focus (intro w hSw; (try dsimp only at hSw);  go_simp; (try with_reducible rfl))); (try simp only [Act.put, List.setIfInBounds_toArray, List.set_cons_zero, List.set_cons_succ])
    refine tk 9 (v := .agg #[.int .i64 e1, .int .i64 e2, .int .i64 e3, .int .i64 e4, .int .i64 e5, .int .u64 e6, .int .u64 e7]) rfl (by kernel_rfl) (by kernel_rfl) (by kernel_rfl) (fun _ _ _ h => h) rfl (fun w hSw => ex_load rfl rfl (Se.load (SG.ent hSw (b := MB) (n := 2) (g := (gl [⟨e1, e2, e3, e4, e5, ⟨e6, e7⟩⟩, ⟨f1, f2, f3, f4, f5, ⟨f6, f7⟩⟩])) (by simp)) 0 (by decide))) hHeld ?_; (try simp only [Act.put, List.setIfInBounds_toArray, List.set_cons_zero, List.set_cons_succ])
    refine tk 10 (v := ?_) rfl (by kernel_rfl) (by kernel_rfl) (by kernel_rfl) (fun _ _ _ h => h) rfl ?_ hHeld ?_; rotate_left; (focus (intro w hSw; (try dsimp only at hSw);  go_simp; (try with_reducible rfl))); (try simp only [Act.put, List.setIfInBounds_toArray, List.set_cons_zero, List.set_cons_succ])
    refine tk 11 (v := ?_) rfl (by kernel_rfl) (by kernel_rfl) (by kernel_rfl) (fun _ _ _ h => h) rfl ?_ hHeld ?_; rotate_left; (focus (intro w hSw; (try dsimp only at hSw);  go_simp; (try with_reducible rfl))); (try simp only [Act.put, List.setIfInBounds_toArray, List.set_cons_zero, List.set_cons_succ])
    refine tk 12 (v := ?_) rfl (by kernel_rfl) (by kernel_rfl) (by kernel_rfl) (fun _ _ _ h => h) rfl ?_ hHeld ?_; rotate_left; (focus (intro w hSw; (try dsimp only at hSw);  go_simp; (try with_reducible rfl))); (try simp only [Act.put, List.setIfInBounds_toArray, List.set_cons_zero, List.set_cons_succ])
    refine tk 13 (v := ?_) rfl (by kernel_rfl) (by kernel_rfl) (by kernel_rfl) (fun _ _ _ h => h) rfl ?_ hHeld ?_; rotate_left; (focus (intro w hSw; (try dsimp only at hSw);  go_simp; (try with_reducible rfl))); (try simp only [Act.put, List.setIfInBounds_toArray, List.set_cons_zero, List.set_cons_succ])
    refine tk 14 (v := ?_) rfl (by kernel_rfl) (by kernel_rfl) (by kernel_rfl) (fun _ _ _ h => h) rfl ?_ hHeld ?_; rotate_left; (focus (intro w hSw; (try dsimp only at hSw);  go_simp; (try with_reducible rfl))); (try simp only [Act.put, List.setIfInBounds_toArray, List.set_cons_zero, List.set_cons_succ])
    refine tk 15 (v := .agg #[.int .i64 f1, .int .i64 f2, .int .i64 f3, .int .i64 f4, .int .i64 f5, .int .u64 f6, .int .u64 f7]) rfl (by kernel_rfl) (by kernel_rfl) (by kernel_rfl) (fun _ _ _ h => h) rfl (fun w hSw => ex_load rfl rfl (Se.load (SG.ent hSw (b := LB) (n := 2) (g := (gl [⟨e1, e2, e3, e4, e5, ⟨e6, e7⟩⟩, ⟨f1, f2, f3, f4, f5, ⟨f6, f7⟩⟩])) (by simp)) 1 (by decide))) hHeld ?_; (try simp only [Act.put, List.setIfInBounds_toArray, List.set_cons_zero, List.set_cons_succ])
    refine tk 16 (v := ?_) rfl (by kernel_rfl) (by kernel_rfl) (by kernel_rfl) (fun _ _ _ h => h) rfl ?_ hHeld ?_; rotate_left; (focus (intro w hSw; (try dsimp only at hSw);  go_simp; (try with_reducible rfl))); (try simp only [Act.put, List.setIfInBounds_toArray, List.set_cons_zero, List.set_cons_succ])
    refine tk 17 (v := ?_) rfl (by kernel_rfl) (by kernel_rfl) (by kernel_rfl) (fun _ _ _ h => h) rfl ?_ hHeld ?_; rotate_left; (focus (intro w hSw; (try dsimp only at hSw);  go_simp; (try with_reducible rfl))); (try simp only [Act.put, List.setIfInBounds_toArray, List.set_cons_zero, List.set_cons_succ])
    refine tk 18 (v := .agg #[.int .i64 f1, .int .i64 f2, .int .i64 f3, .int .i64 f4, .int .i64 f5, .int .u64 f6, .int .u64 f7]) rfl (by kernel_rfl) (by kernel_rfl) (by kernel_rfl) (fun _ _ _ h => h) rfl (fun w hSw => ex_load rfl rfl (Se.load (SG.ent hSw (b := MB) (n := 2) (g := (gl [⟨e1, e2, e3, e4, e5, ⟨e6, e7⟩⟩, ⟨f1, f2, f3, f4, f5, ⟨f6, f7⟩⟩])) (by simp)) 1 (by decide))) hHeld ?_; (try simp only [Act.put, List.setIfInBounds_toArray, List.set_cons_zero, List.set_cons_succ])
    refine tk 19 (v := ?_) rfl (by kernel_rfl) (by kernel_rfl) (by kernel_rfl) (fun _ _ _ h => h) rfl ?_ hHeld ?_; rotate_left; (focus (intro w hSw; (try dsimp only at hSw);  go_simp; (try with_reducible rfl))); (try simp only [Act.put, List.setIfInBounds_toArray, List.set_cons_zero, List.set_cons_succ])
    refine tk 20 (v := ?_) rfl (by kernel_rfl) (by kernel_rfl) (by kernel_rfl) (fun _ _ _ h => h) rfl ?_ hHeld ?_; rotate_left; (focus (intro w hSw; (try dsimp only at hSw);  go_simp; (try with_reducible rfl))); (try simp only [Act.put, List.setIfInBounds_toArray, List.set_cons_zero, List.set_cons_succ])
    refine tk 21 (v := ?_) rfl (by kernel_rfl) (by kernel_rfl) (by kernel_rfl) (fun _ _ _ h => h) rfl ?_ hHeld ?_; rotate_left; (focus (intro w hSw; (try dsimp only at hSw);  go_simp; (try with_reducible rfl))); (try simp only [Act.put, List.setIfInBounds_toArray, List.set_cons_zero, List.set_cons_succ])
    refine wpAnyH_done (by kernel_rfl) ?_ _
    go_wp2_with fail
    go_ret
    exact ⟨rfl, hHeld.bl⟩

set_option maxRecDepth 100000 in
theorem lifted (os : Os) (started : os.Started) (H : Type) (enc : TypeId × Value → H) :
    ReturnsInHanded {} Try.checked os 13 .any (Rows.poolOwnSpec.pre6 enc Try.prog Try.f13 [] false) (Rows.poolOwnSpec.post enc Try.prog Try.f13 false true false false) :=
  law_step (s := Rows.poolOwnSpec) started (by kernel_rfl) Try.func13
    (ChangeSpec.witness6 (s := Rows.poolOwnSpec) (enc := enc) (C := Try.checked) false ⟨#[], #[.slice none 0 0, .int .i64 0], []⟩ 8 (by kernel_rfl) (by kernel_rfl) (by kernel_rfl) (by kernel_rfl))
    rfl (by rw [Try.params13]; decide +kernel) rfl Try.underlying4
    (fun ds h => by
      rw [Try.params13] at h
      match ds, h with
      | [_, _], _ => rfl)
    (fun W base args ds ps hval hA hsz => by
      rw [Try.params13] at hA hval hsz
      obtain ⟨v0, vs0, d0, ds0, p0, q0, hargs, rfl, rfl, h0, r0⟩ := trodAll_cons hA
      obtain ⟨v1, vs1, d1, ds1, p1, q1, rfl, rfl, rfl, h1, r1⟩ := trodAll_cons r0
      obtain ⟨rfl, rfl, rfl⟩ := trodAll_nil r1
      obtain rfl : args = #[v0, v1] := by cases args; simp_all
      obtain ⟨A0, n0, c0, g0, rfl, hn0, hc0, hs0, hw0, hl0, hd0⟩ := open_row Try.underlying22 Try.underlying3 (by kernel_rfl) (hval 0 22 v0 rfl rfl) h0
      have re0 : c0 * 8 ≤ 140737488351232 := by
        rcases hd0 with ⟨_, h0⟩ | ⟨xs, ys, h1, h2⟩
        · omega
        · have := sized_slice hsz (j := 0) (t := 22) (e := 3) rfl (by rw [h1]; rfl) Try.underlying22
          rw [h2, show Try.prog.bytesOf 3 = 8 from by kernel_rfl] at this
          simpa [reachBytes] using this
      obtain ⟨a1, rfl, rfl, rfl, w1⟩ := open_int Try.underlying3 (hval 1 3 v1 rfl rfl) h1
      exact walk W A0 n0 c0 g0 hn0 hc0 hs0 (fun j => bounds_i64 (hw0 j)) hl0 re0 a1 (bounds_i64 w1))

theorem proved : Rows.PoolOwnSaid :=
  OpenClaim.holds_of_wide 13 Try.f13 rfl rfl rfl rfl rfl rfl rfl ⟨rfl, rfl, rfl, rfl, rfl⟩ rfl rfl rfl rfl rfl (by kernel_rfl) Try.func13 (by kernel_rfl)
    (of_decide_eq_true (by kernel_rfl)) (by unfold Func.isWrapper; first | (rw [if_pos (by decide +kernel)]; kernel_rfl) | (rw [if_neg (by decide +kernel)]; exact ⟨rfl, rfl⟩))
    (fun os started H enc _ => lifted os started H enc)
end Go.Proofs.Ytdobcdhdeagekaa.poolOwn
