/- roundhouselaw6.PoolMoves answers true for all numbers; no condition. -/
import Derived.Test.YtdobcdhdeagekaaPolRow
import Derived.Test.YtdobcdhdeagekaaPolSh
import Derived.Test.YtdobcdhdeagekaaPolKnown
import Derived.Test.YtdobcdhdeagekaaPolNew
import Derived.Test.YtdobcdhdeagekaaPolRall
import Derived.Test.YtdobcdhdeagekaaPolMake
import Derived.Test.YtdobcdhdeagekaaPolEq
import Derived.Test.YtdobcdhdeagekaaFloat2
import Derived.Test.YtdobcdhdeagekaaMovP
import Derived.Test.YtdobcdhdeagekaaMovF
import Derived.Deep.CutBlock
import Derived.Deep.CutRange
import Derived.Deep.LoopGhost
import Derived.BigQuiet
import Derived.Deep.RegionHeld3
import Derived.Deep.Cut
namespace Go.Proofs.Ytdobcdhdeagekaa.poolMoves
set_option linter.unusedVariables false
set_option linter.unusedSimpArgs false
open Go.RowKit Go.ChangeShapes Go.WideShapes Go.ChangeAt

attribute [local irreducible] PA
theorem run_inv {p : Pl} {g : Nat → En} {K : Int} (hp : Pinv p K) : ∀ {k : Nat} {q : Pl}, runP p g k = some q → Pinv q (K + k)
  | 0, q, h => by
    unfold runP at h
    injection h with h
    subst h
    exact hp.mono (by omega)
  | k + 1, q, h => by
    unfold runP at h
    cases h1 : runP p g k with
    | none => rw [h1] at h; cases h
    | some q1 =>
      rw [h1] at h
      simp only at h
      have ih := run_inv hp h1
      by_cases h0 : (apR q1 (g k)).2 = 0
      · rw [if_pos h0] at h
        injection h with h
        rw [← h]
        exact (apR_inv ih h0).mono (by omega)
      · rw [if_neg h0] at h; cases h
set_option maxRecDepth 100000 in
set_option maxHeartbeats 4000000 in
theorem walk (W : World) (a0 : Int) (r_a0 : -9223372036854775808 ≤ a0 ∧ a0 ≤ 9223372036854775807) (a1 : Int) (r_a1 : -9223372036854775808 ≤ a1 ∧ a1 ≤ 9223372036854775807) (a2 : Int) (r_a2 : -9223372036854775808 ≤ a2 ∧ a2 ≤ 9223372036854775807) (a3 : Int) (r_a3 : -9223372036854775808 ≤ a3 ∧ a3 ≤ 9223372036854775807) :
    Calls Try.prog 8 #[.int .i64 a0, .int .i64 a1, .int .i64 a2, .int .i64 a3] W fun e w' => e = .returned (.bool true) ∧ Below W.heap.size W w' := by
  have hz : ∀ w : World, (zeroValue 34).run Try.prog w = .ok (.agg (PA zPl)) w := fun w => zero_pl w
  have hz1 := pa_size zPl
  have hz2 := pa_ne zPl
  obtain ⟨s, hs⟩ : ∃ x, x = wi a2 64 := ⟨_, rfl⟩
  have bs := wi_bd a2 64 (by omega)
  rw [← hs] at bs
  have Ws := hid (fun w => re_i64 (within_any a2 64 w (by omega) (by omega)) hs.symm)
  clear hs
  obtain ⟨bs1, bs2⟩ := bs
  obtain ⟨s, rfl⟩ := Int.eq_ofNat_of_zero_le bs1
  obtain ⟨k, hk⟩ : ∃ x, x = wi a1 6 := ⟨_, rfl⟩
  have bk := wi_bd a1 6 (by omega)
  rw [← hk] at bk
  have Wk := hid (fun w => re_i64 (within_any a1 6 w (by omega) (by omega)) hk.symm)
  clear hk
  obtain ⟨bk1, bk2⟩ := bk
  obtain ⟨k, rfl⟩ := Int.eq_ofNat_of_zero_le bk1
  obtain ⟨tn, htn⟩ : ∃ x, x = wi a3 3 := ⟨_, rfl⟩
  have btn := wi_bd a3 3 (by omega)
  rw [← htn] at btn
  have Wtn := hid (fun w => re_i64 (within_any a3 3 w (by omega) (by omega)) htn.symm)
  clear htn
  obtain ⟨btn1, btn2⟩ := btn
  obtain ⟨tn, rfl⟩ := Int.eq_ofNat_of_zero_le btn1
  obtain ⟨st, hst⟩ : ∃ x, x = wi a0 5 := ⟨_, rfl⟩
  have bst := wi_bd a0 5 (by omega)
  rw [← hst] at bst
  have Wst := hid (fun w => re_i64 (within_any a0 5 w (by omega) (by omega)) hst.symm)
  clear hst
  obtain ⟨bst1, bst2⟩ := bst
  obtain ⟨st, rfl⟩ := Int.eq_ofNat_of_zero_le bst1
  have MV := mv_all (st := st) (t := tn) (k := k) (s := s) (by omega) (by omega) (by omega) (by omega)
  obtain ⟨q, hrun, x0, x4, hfin⟩ := MV
  obtain ⟨LL, hLL⟩ : ∃ LL, LL = mvL st tn (s : Int) := ⟨_, rfl⟩
  rw [← hLL] at hrun
  have HL := hid hLL
  have HR := hid hrun
  have HF := hid hfin
  have X0 := hid x0
  have X4 := hid x4
  clear hLL hrun hfin x0 x4
  have K1 := hid (fun w => lkey_any 1 w)
  have K2 := hid (fun w => lkey_any 2 w)
  unfold kyV at K1 K2
  have NW := hid (show ∀ w, Calls Try.prog 18 #[.int .i64 10, .int .i64 80, .agg #[.int .u64 (kyN 1).a, .int .u64 (kyN 1).b], .agg #[.int .u64 (kyN 2).a, .int .u64 (kyN 2).b]] w fun x w' => x = .returned (.tuple #[.agg (PA mkB), .int .i64 0]) ∧ Below w.heap.size w w' from fun w => by have h := rnew_any 10 80 (kyN 1) (kyN 2) w; rw [nwR_in (by decide) (by decide)] at h; exact h)
  generalize kyN 1 = ky1 at K1 NW
  generalize kyN 2 = ky2 at K2 NW
  go_enter Try.func8, Try.ntmps8
  go_wp2_with fail
  refine (known_any _).mono ?_
  rintro x w1 ⟨rfl, hB⟩
  have B1 := hid hB
  clear hB
  go_wp2_with fail
  refine (K1.out _).mono ?_
  rintro x w2 ⟨rfl, hb⟩
  have B2 := hid (B1.out.trans (hb.mono B1.out.size))
  clear hb K1
  go_wp2_with fail
  refine (K2.out _).mono ?_
  rintro x w3 ⟨rfl, hb⟩
  have B3 := hid (B2.out.trans (hb.mono B2.out.size))
  clear hb K2
  go_wp2_with fail
  refine (NW.out _).mono ?_
  rintro x w4 ⟨rfl, hb⟩
  have S2 := hid ((SG.start B3.out).below hb)
  clear hb NW B1 B2 B3
  have ST := hid ((sg_new (w := w4) (T := 34)).storeA mkB)
  have lP := S2.out.bl.size
  have S3 := hid (SG.put S2.out (T := 34) zPl mkB (by simp))
  go_upto_region 4 with ((with_reducible refine wl_id ?_); refine wl_store rfl rfl rfl rfl ST.out ?_)
  clear ST S2
  generalize (w4.alloc (.cells (PA zPl) 34)).setCells w4.heap.size 0 (PA mkB).toList = w5 at *
  generalize w4.heap.size = P at *
  go_wp2_with fail
  refine (Ws.out _).mono ?_
  rintro x w' ⟨rfl, rfl⟩
  go_wp2_with fail
  refine (Wk.out _).mono ?_
  rintro x w' ⟨rfl, rfl⟩
  go_wp2_with fail
  refine (Wtn.out _).mono ?_
  rintro x w' ⟨rfl, rfl⟩
  go_upto_region 6 with (fail)
  have nP := (SG.get S3.out (b := P) (p := mkB) (by simp)).1
  have T0 := hid ((SG.alloc S3.out (.cells #[.int .i64 1, .int .i64 s, .int .i64 3, .int .i64 4, .int .i64 5, .int .u64 0, .int .u64 0] 43)).row (se_made (w := w5) (T := 43) [mvB (s : Int)] rfl))
  have T1 := hid ((SG.alloc T0.out (.cells #[.int .i64 2, .int .i64 s, .int .i64 0, .int .i64 0, .int .i64 0, .int .u64 0, .int .u64 0] 43)).row (se_made (w := (w5.alloc (.cells #[.int .i64 1, .int .i64 s, .int .i64 3, .int .i64 4, .int .i64 5, .int .u64 0, .int .u64 0] 43))) (T := 43) [mvO (s : Int)] rfl))
  have T2 := hid ((SG.alloc T1.out (.cells #[.int .i64 3, .int .i64 s, .int .i64 0, .int .i64 0, .int .i64 0, .int .u64 0, .int .u64 0] 43)).row (se_made (w := ((w5.alloc (.cells #[.int .i64 1, .int .i64 s, .int .i64 3, .int .i64 4, .int .i64 5, .int .u64 0, .int .u64 0] 43)).alloc (.cells #[.int .i64 2, .int .i64 s, .int .i64 0, .int .i64 0, .int .i64 0, .int .u64 0, .int .u64 0] 43))) (T := 43) [mvD (s : Int)] rfl))
  have T3 := hid ((SG.alloc T2.out (.cells #[.int .i64 4, .int .i64 s, .int .i64 0, .int .i64 0, .int .i64 0, .int .u64 0, .int .u64 0] 43)).row (se_made (w := (((w5.alloc (.cells #[.int .i64 1, .int .i64 s, .int .i64 3, .int .i64 4, .int .i64 5, .int .u64 0, .int .u64 0] 43)).alloc (.cells #[.int .i64 2, .int .i64 s, .int .i64 0, .int .i64 0, .int .i64 0, .int .u64 0, .int .u64 0] 43)).alloc (.cells #[.int .i64 3, .int .i64 s, .int .i64 0, .int .i64 0, .int .i64 0, .int .u64 0, .int .u64 0] 43))) (T := 43) [mvS (s : Int)] rfl))
  clear S3 T0 T1 T2
  have hs1 : (w5.alloc (.cells #[.int .i64 1, .int .i64 s, .int .i64 3, .int .i64 4, .int .i64 5, .int .u64 0, .int .u64 0] 43)).heap.size = w5.heap.size + 1 := by simp
  have hs2 : ((w5.alloc (.cells #[.int .i64 1, .int .i64 s, .int .i64 3, .int .i64 4, .int .i64 5, .int .u64 0, .int .u64 0] 43)).alloc (.cells #[.int .i64 2, .int .i64 s, .int .i64 0, .int .i64 0, .int .i64 0, .int .u64 0, .int .u64 0] 43)).heap.size = w5.heap.size + 1 + 1 := by simp
  have hs3 : (((w5.alloc (.cells #[.int .i64 1, .int .i64 s, .int .i64 3, .int .i64 4, .int .i64 5, .int .u64 0, .int .u64 0] 43)).alloc (.cells #[.int .i64 2, .int .i64 s, .int .i64 0, .int .i64 0, .int .i64 0, .int .u64 0, .int .u64 0] 43)).alloc (.cells #[.int .i64 3, .int .i64 s, .int .i64 0, .int .i64 0, .int .i64 0, .int .u64 0, .int .u64 0] 43)).heap.size = w5.heap.size + 1 + 1 + 1 := by simp
  rw [hs3, hs2, hs1] at T3
  clear hs1 hs2 hs3
  have hD : ((((w5.alloc (.cells #[.int .i64 1, .int .i64 s, .int .i64 3, .int .i64 4, .int .i64 5, .int .u64 0, .int .u64 0] 43)).alloc (.cells #[.int .i64 2, .int .i64 s, .int .i64 0, .int .i64 0, .int .i64 0, .int .u64 0, .int .u64 0] 43)).alloc (.cells #[.int .i64 3, .int .i64 s, .int .i64 0, .int .i64 0, .int .i64 0, .int .u64 0, .int .u64 0] 43)).alloc (.cells #[.int .i64 4, .int .i64 s, .int .i64 0, .int .i64 0, .int .i64 0, .int .u64 0, .int .u64 0] 43)).heap.size = w5.heap.size + 1 + 1 + 1 + 1 := by simp
  replace hD := hid hD
  generalize ((((w5.alloc (.cells #[.int .i64 1, .int .i64 s, .int .i64 3, .int .i64 4, .int .i64 5, .int .u64 0, .int .u64 0] 43)).alloc (.cells #[.int .i64 2, .int .i64 s, .int .i64 0, .int .i64 0, .int .i64 0, .int .u64 0, .int .u64 0] 43)).alloc (.cells #[.int .i64 3, .int .i64 s, .int .i64 0, .int .i64 0, .int .i64 0, .int .u64 0, .int .u64 0] 43)).alloc (.cells #[.int .i64 4, .int .i64 s, .int .i64 0, .int .i64 0, .int .i64 0, .int .u64 0, .int .u64 0] 43)) = w6 at *
  generalize w5.heap.size + 1 + 1 + 1 = B3 at *
  generalize w5.heap.size + 1 + 1 = B2 at *
  generalize w5.heap.size + 1 = B1 at *
  generalize w5.heap.size = B0 at *
  have S6 := hid (show SG W w6 [(P, mkB)] [(B3, 1, gl [mvS s]), (B2, 1, gl [mvD s]), (B1, 1, gl [mvO s]), (B0, 1, gl [mvB s])] from T3.out)
  clear T3 nP
  have hm2 := mvStl_len st (s : Int)
  obtain ⟨m2, hM⟩ : ∃ m, m = (mvStl st (s : Int)).length := ⟨_, rfl⟩
  rw [← hM] at hm2
  have HN := hid (show LL.length = m2 + 3 from by rw [HL.out, mvL_len _ (by omega), hM]; omega)
  have G1 := hid (fun i (h : i < tn) => (show gl LL i = mvRot i from by rw [HL.out]; exact gl_rot1 _ h))
  have G2 := hid (fun j (h : j < m2) => (show gl (mvStl st (s : Int)) j = gl LL (tn + j) from by rw [HL.out]; exact (gl_mid _ (by omega)).symm))
  have G3 := hid (fun i (h : tn ≤ i) (h3 : i < 3) => (show gl LL (m2 + i) = mvRot i from by rw [HL.out, hM]; exact gl_rot2 _ h h3))
  have HM := hid hM
  clear hM
  obtain ⟨GG, hGG⟩ : ∃ g, g = gl LL := ⟨_, rfl⟩
  rw [← hGG] at G1 G2 G3
  have HG := hid hGG
  clear hGG
  have htn : tn < 3 := by omega
  go_wp2_with fail
  go_loopg [18, 19] 3 (fun gh v i wr => ∃ (k' : Nat) (A : Option Addr) (d : Nat), gh = 3 - k' ∧ k' ≤ tn ∧ v = .slice A k' d ∧ i = .int .i64 (k' : Int) ∧ OwE wr w6.heap.size (.slice A k' d) k' GG ∧ Below w6.heap.size w6 wr)
  case atStart => exact ⟨0, none, 0, rfl, by omega, rfl, rfl, OwE.nil, Below.refl _ _⟩
  case round =>
    obtain ⟨i, A, d, hgh, hi, rfl, rfl, hO, hb⟩ := hrel
    have HO := hid hO
    have BR := hid hb
    clear hO hb
    have i0 : (0 : Int) ≤ i := by omega
    by_cases hlt : i < tn
    · have i1 : (i : Int) < tn := by omega
      have KY := hid (fun w => lkey_any (i : Int) w)
      unfold kyV at KY
      have HE := hid ((G1.out i hlt).symm)
      unfold mvRot at HE
      generalize kyN (i : Int) = ky at KY HE
      go_wp2_with fail
      refine (KY.out _).mono ?_
      rintro x w7 ⟨rfl, hb⟩
      have HO7 := hid (HO.out.keep hb (Nat.le_refl _))
      have B7 := hid (BR.out.trans (hb.mono BR.out.size))
      clear hb HO BR KY
      go_wp2_with (at_builtin; refine wp_app_e rfl (.tmp 53) (.tmp 57) rfl w6.heap.size _ i GG rfl (Ow.alloc HO7.out _) w7.heap.size 1 rfl (by rw [← HE.out]; exact Ce.made rfl) (by omega) (by have := B7.out.size; simp; omega) ?_; intro A' d' w8 hown hbel hgr; have B8 := hid ((B7.out.alloc B7.out.size _).trans hbel); have HO8 := hid hown; clear hown hbel hgr HO7)
      go_roundg (3 - (i + 1))
      case measure => omega
      case rel => exact ⟨i + 1, A', d', rfl, by omega, rfl, by go_num, HO8.out, B8.out⟩
    · have i1 : ¬ (i : Int) < tn := by omega
      have ei : i = tn := by omega
      subst ei
      clear hlt hi hgh
      have SR := hid (S6.out.below BR.out)
      obtain ⟨wq, rfl⟩ : ∃ wo : World, wo = wr := ⟨_, rfl⟩
      go_upto_region 11 with (fail)
      refine wp_region_held_drew (S := (fun w' => SG W w' [(P, mkB)] [(B3, 1, gl [mvS s]), (B2, 1, gl [mvD s]), (B1, 1, gl [mvO s]), (B0, 1, gl [mvB s])])) (by kernel_rfl) ?_ (fun hHeld => ?_)
      · exact SR.out.drew
      refine tk 0 (v := ?_) rfl (by kernel_rfl) (by kernel_rfl) (by kernel_rfl) (fun _ _ _ h => h) rfl ?_ hHeld ?_; rotate_left; (focus (intro w hSw; (try dsimp only at hSw);  go_simp; (try with_reducible rfl))); (try simp only [Act.put, List.setIfInBounds_toArray, List.set_cons_zero, List.set_cons_succ])
      refine tk 1 (v := .agg #[.int .i64 1, .int .i64 s, .int .i64 3, .int .i64 4, .int .i64 5, .int .u64 0, .int .u64 0]) rfl (by kernel_rfl) (by kernel_rfl) (by kernel_rfl) (fun _ _ _ h => h) rfl (fun w hSw => ex_load rfl rfl (Se.load (SG.ent hSw (b := B0) (n := 1) (g := gl [mvB s]) (by simp)) 0 (by decide))) hHeld ?_; (try simp only [Act.put, List.setIfInBounds_toArray, List.set_cons_zero, List.set_cons_succ])
      refine tk 3 (v := .agg #[.int .i64 1, .int .i64 s, .int .i64 3, .int .i64 4, .int .i64 5, .int .u64 0, .int .u64 0]) rfl (by kernel_rfl) (by kernel_rfl) (by kernel_rfl) (fun _ _ _ h => h) rfl (fun w hSw => ex_load rfl rfl (Se.load (SG.ent hSw (b := B0) (n := 1) (g := gl [mvB s]) (by simp)) 0 (by decide))) hHeld ?_; (try simp only [Act.put, List.setIfInBounds_toArray, List.set_cons_zero, List.set_cons_succ])
      refine tk 4 (v := .agg #[.int .i64 2, .int .i64 s, .int .i64 0, .int .i64 0, .int .i64 0, .int .u64 0, .int .u64 0]) rfl (by kernel_rfl) (by kernel_rfl) (by kernel_rfl) (fun _ _ _ h => h) rfl (fun w hSw => ex_load rfl rfl (Se.load (SG.ent hSw (b := B1) (n := 1) (g := gl [mvO s]) (by simp)) 0 (by decide))) hHeld ?_; (try simp only [Act.put, List.setIfInBounds_toArray, List.set_cons_zero, List.set_cons_succ])
      refine tk 6 (v := .agg #[.int .i64 1, .int .i64 s, .int .i64 3, .int .i64 4, .int .i64 5, .int .u64 0, .int .u64 0]) rfl (by kernel_rfl) (by kernel_rfl) (by kernel_rfl) (fun _ _ _ h => h) rfl (fun w hSw => ex_load rfl rfl (Se.load (SG.ent hSw (b := B0) (n := 1) (g := gl [mvB s]) (by simp)) 0 (by decide))) hHeld ?_; (try simp only [Act.put, List.setIfInBounds_toArray, List.set_cons_zero, List.set_cons_succ])
      refine tk 7 (v := .agg #[.int .i64 2, .int .i64 s, .int .i64 0, .int .i64 0, .int .i64 0, .int .u64 0, .int .u64 0]) rfl (by kernel_rfl) (by kernel_rfl) (by kernel_rfl) (fun _ _ _ h => h) rfl (fun w hSw => ex_load rfl rfl (Se.load (SG.ent hSw (b := B1) (n := 1) (g := gl [mvO s]) (by simp)) 0 (by decide))) hHeld ?_; (try simp only [Act.put, List.setIfInBounds_toArray, List.set_cons_zero, List.set_cons_succ])
      refine tk 8 (v := .agg #[.int .i64 3, .int .i64 s, .int .i64 0, .int .i64 0, .int .i64 0, .int .u64 0, .int .u64 0]) rfl (by kernel_rfl) (by kernel_rfl) (by kernel_rfl) (fun _ _ _ h => h) rfl (fun w hSw => ex_load rfl rfl (Se.load (SG.ent hSw (b := B2) (n := 1) (g := gl [mvD s]) (by simp)) 0 (by decide))) hHeld ?_; (try simp only [Act.put, List.setIfInBounds_toArray, List.set_cons_zero, List.set_cons_succ])
      refine tk 10 (v := .agg #[.int .i64 1, .int .i64 s, .int .i64 3, .int .i64 4, .int .i64 5, .int .u64 0, .int .u64 0]) rfl (by kernel_rfl) (by kernel_rfl) (by kernel_rfl) (fun _ _ _ h => h) rfl (fun w hSw => ex_load rfl rfl (Se.load (SG.ent hSw (b := B0) (n := 1) (g := gl [mvB s]) (by simp)) 0 (by decide))) hHeld ?_; (try simp only [Act.put, List.setIfInBounds_toArray, List.set_cons_zero, List.set_cons_succ])
      refine tk 11 (v := .agg #[.int .i64 4, .int .i64 s, .int .i64 0, .int .i64 0, .int .i64 0, .int .u64 0, .int .u64 0]) rfl (by kernel_rfl) (by kernel_rfl) (by kernel_rfl) (fun _ _ _ h => h) rfl (fun w hSw => ex_load rfl rfl (Se.load (SG.ent hSw (b := B3) (n := 1) (g := gl [mvS s]) (by simp)) 0 (by decide))) hHeld ?_; (try simp only [Act.put, List.setIfInBounds_toArray, List.set_cons_zero, List.set_cons_succ])
      refine tk 14 (v := ?_) rfl (by kernel_rfl) (by kernel_rfl) (by kernel_rfl) (fun _ _ _ h => h) rfl ?_ hHeld ?_; rotate_left; (focus (intro w hSw; (try dsimp only at hSw);  go_simp; (try with_reducible rfl))); (try simp only [Act.put, List.setIfInBounds_toArray, List.set_cons_zero, List.set_cons_succ])
      have HO1 := hid (HO.out.drew)
      have BD := hid (BR.out.drew)
      generalize wq.drew = v0 at *
      clear HO BR SR
      refine float_mid (J := fun a0 l a w => ∃ (u61 u64 u68 u71 u72 u74 : Value), a = (Act.put (Act.put (Act.put (Act.put (Act.put (Act.put a0 (some 61) u61) (some 64) u64) (some 68) u68) (some 71) u71) (some 72) u72) (some 74) u74) ∧ (∀ i, i < 20 → i ∉ [2, 5, 9, 12, 13, 15] → l i = (#[true, true, false, true, true, false, true, true, true, false, true, true, false, false, true, false, false, false, false, false] : Array Bool).getD i true) ∧ SG W w [(P, mkB)] [(B3, 1, gl [mvS s]), (B2, 1, gl [mvD s]), (B1, 1, gl [mvO s]), (B0, 1, gl [mvB s])] ∧ OwE w w6.heap.size (.slice A i d) i GG ∧ Below w6.heap.size w6 w ∧ (l 2 = true → RowIs w u61 [mvB (s : Int)]) ∧ (l 5 = true → RowIs w u64 [mvB (s : Int), mvO (s : Int)]) ∧ (l 9 = true → RowIs w u68 [mvB (s : Int), mvO (s : Int), mvD (s : Int)]) ∧ (l 12 = true → RowIs w u71 [mvB (s : Int), mvS (s : Int)]) ∧ (l 13 = true → ∃ g : Nat, u72 = .slice (some ⟨g, 0, none⟩) 5 5 ∧ Ce w g [.slice none 0 0, u61, u64, u68, u71]) ∧ (l 15 = true → u74 = .int .i64 (st : Int)) ∧ (l 13 = true → l 2 = true ∧ l 5 = true ∧ l 9 = true ∧ l 12 = true)) [2, 5, 9, 12, 13, 15] 4 4 (listed1 := #[true, true, true, true, true, true, true, true, true, true, true, true, true, true, true, true, false, false, false, false]) (by decide +kernel) (by decide +kernel) (by decide +kernel) (by decide +kernel) (by decide +kernel) (by decide +kernel) (by decide +kernel) (by decide +kernel) ?_ ?_ ?_ ?_
      · intro l a w hJ j hj hn
        obtain ⟨u61, u64, u68, u71, u72, u74, rfl, hT, hS, hO, hB, h2, h5, h9, h12, h13, h15, hN⟩ := hJ
        exact hT j hj hn
      · refine ⟨undef, undef, undef, undef, undef, undef, by simp only [Act.put, List.setIfInBounds_toArray, List.set_cons_zero, List.set_cons_succ], fun _ _ _ => rfl, hHeld, HO1.out, BD.out, fun h => absurd h (by decide +kernel), fun h => absurd h (by decide +kernel), fun h => absurd h (by decide +kernel), fun h => absurd h (by decide +kernel), fun h => absurd h (by decide +kernel), fun h => absurd h (by decide +kernel), fun h => absurd h (by decide +kernel)⟩
      · refine all_cons (step_at 2 rfl rfl fun l a w hJ hL hP K hK => ?_) (all_cons (step_at 5 rfl rfl fun l a w hJ hL hP K hK => ?_) (all_cons (step_at 9 rfl rfl fun l a w hJ hL hP K hK => ?_) (all_cons (step_at 12 rfl rfl fun l a w hJ hL hP K hK => ?_) (all_cons (step_at 13 rfl rfl fun l a w hJ hL hP K hK => ?_) (all_cons (step_at 15 rfl rfl fun l a w hJ hL hP K hK => ?_) (all_nil))))))
        · obtain ⟨u61, u64, u68, u71, u72, u74, rfl, hT, hS, hO, hB, h2, h5, h9, h12, h13, h15, hN⟩ := hJ
          have n13 : l 13 = false := by
            cases e : l 13
            · rfl
            · exact absurd (hN e).1 (by rw [hL]; decide)
          simp only [Act.put, List.setIfInBounds_toArray, List.set_cons_zero, List.set_cons_succ]
          go_simp
          refine hK.out _ _ (hS.alloc _) ⟨(.slice (some ⟨w.heap.size, 0, none⟩) 1 1), u64, u68, u71, u72, u74, by simp only [Act.put, List.setIfInBounds_toArray, List.set_cons_zero, List.set_cons_succ], (fun j hj hn => by rw [up_ne (show j ≠ 2 from fun e => hn (by subst e; simp))]; exact hT j hj hn), hS.alloc _, Ow.alloc hO _, hB.alloc hB.size _, (fun _ => RowIs.made [mvB (s : Int)]), (fun h => (h5 (by rwa [up_ne (show 5 ≠ 2 by decide)] at h)).alloc _), (fun h => (h9 (by rwa [up_ne (show 9 ≠ 2 by decide)] at h)).alloc _), (fun h => (h12 (by rwa [up_ne (show 12 ≠ 2 by decide)] at h)).alloc _), (fun h => by rw [up_ne (show 13 ≠ 2 by decide), n13] at h; cases h), (fun h => (h15 (by rwa [up_ne (show 15 ≠ 2 by decide)] at h))), (fun h => by rw [up_ne (show 13 ≠ 2 by decide), n13] at h; cases h)⟩
        · obtain ⟨u61, u64, u68, u71, u72, u74, rfl, hT, hS, hO, hB, h2, h5, h9, h12, h13, h15, hN⟩ := hJ
          have n13 : l 13 = false := by
            cases e : l 13
            · rfl
            · exact absurd (hN e).2.1 (by rw [hL]; decide)
          simp only [Act.put, List.setIfInBounds_toArray, List.set_cons_zero, List.set_cons_succ]
          go_simp
          refine hK.out _ _ (hS.alloc _) ⟨u61, (.slice (some ⟨w.heap.size, 0, none⟩) 2 2), u68, u71, u72, u74, by simp only [Act.put, List.setIfInBounds_toArray, List.set_cons_zero, List.set_cons_succ], (fun j hj hn => by rw [up_ne (show j ≠ 5 from fun e => hn (by subst e; simp))]; exact hT j hj hn), hS.alloc _, Ow.alloc hO _, hB.alloc hB.size _, (fun h => (h2 (by rwa [up_ne (show 2 ≠ 5 by decide)] at h)).alloc _), (fun _ => RowIs.made [mvB (s : Int), mvO (s : Int)]), (fun h => (h9 (by rwa [up_ne (show 9 ≠ 5 by decide)] at h)).alloc _), (fun h => (h12 (by rwa [up_ne (show 12 ≠ 5 by decide)] at h)).alloc _), (fun h => by rw [up_ne (show 13 ≠ 5 by decide), n13] at h; cases h), (fun h => (h15 (by rwa [up_ne (show 15 ≠ 5 by decide)] at h))), (fun h => by rw [up_ne (show 13 ≠ 5 by decide), n13] at h; cases h)⟩
        · obtain ⟨u61, u64, u68, u71, u72, u74, rfl, hT, hS, hO, hB, h2, h5, h9, h12, h13, h15, hN⟩ := hJ
          have n13 : l 13 = false := by
            cases e : l 13
            · rfl
            · exact absurd (hN e).2.2.1 (by rw [hL]; decide)
          simp only [Act.put, List.setIfInBounds_toArray, List.set_cons_zero, List.set_cons_succ]
          go_simp
          refine hK.out _ _ (hS.alloc _) ⟨u61, u64, (.slice (some ⟨w.heap.size, 0, none⟩) 3 3), u71, u72, u74, by simp only [Act.put, List.setIfInBounds_toArray, List.set_cons_zero, List.set_cons_succ], (fun j hj hn => by rw [up_ne (show j ≠ 9 from fun e => hn (by subst e; simp))]; exact hT j hj hn), hS.alloc _, Ow.alloc hO _, hB.alloc hB.size _, (fun h => (h2 (by rwa [up_ne (show 2 ≠ 9 by decide)] at h)).alloc _), (fun h => (h5 (by rwa [up_ne (show 5 ≠ 9 by decide)] at h)).alloc _), (fun _ => RowIs.made [mvB (s : Int), mvO (s : Int), mvD (s : Int)]), (fun h => (h12 (by rwa [up_ne (show 12 ≠ 9 by decide)] at h)).alloc _), (fun h => by rw [up_ne (show 13 ≠ 9 by decide), n13] at h; cases h), (fun h => (h15 (by rwa [up_ne (show 15 ≠ 9 by decide)] at h))), (fun h => by rw [up_ne (show 13 ≠ 9 by decide), n13] at h; cases h)⟩
        · obtain ⟨u61, u64, u68, u71, u72, u74, rfl, hT, hS, hO, hB, h2, h5, h9, h12, h13, h15, hN⟩ := hJ
          have n13 : l 13 = false := by
            cases e : l 13
            · rfl
            · exact absurd (hN e).2.2.2 (by rw [hL]; decide)
          simp only [Act.put, List.setIfInBounds_toArray, List.set_cons_zero, List.set_cons_succ]
          go_simp
          refine hK.out _ _ (hS.alloc _) ⟨u61, u64, u68, (.slice (some ⟨w.heap.size, 0, none⟩) 2 2), u72, u74, by simp only [Act.put, List.setIfInBounds_toArray, List.set_cons_zero, List.set_cons_succ], (fun j hj hn => by rw [up_ne (show j ≠ 12 from fun e => hn (by subst e; simp))]; exact hT j hj hn), hS.alloc _, Ow.alloc hO _, hB.alloc hB.size _, (fun h => (h2 (by rwa [up_ne (show 2 ≠ 12 by decide)] at h)).alloc _), (fun h => (h5 (by rwa [up_ne (show 5 ≠ 12 by decide)] at h)).alloc _), (fun h => (h9 (by rwa [up_ne (show 9 ≠ 12 by decide)] at h)).alloc _), (fun _ => RowIs.made [mvB (s : Int), mvS (s : Int)]), (fun h => by rw [up_ne (show 13 ≠ 12 by decide), n13] at h; cases h), (fun h => (h15 (by rwa [up_ne (show 15 ≠ 12 by decide)] at h))), (fun h => by rw [up_ne (show 13 ≠ 12 by decide), n13] at h; cases h)⟩
        · obtain ⟨u61, u64, u68, u71, u72, u74, rfl, hT, hS, hO, hB, h2, h5, h9, h12, h13, h15, hN⟩ := hJ
          have p2 := hP { on := 2, ground := .data } (by simp) rfl
          have p5 := hP { on := 5, ground := .data } (by simp) rfl
          have p9 := hP { on := 9, ground := .data } (by simp) rfl
          have p12 := hP { on := 12, ground := .data } (by simp) rfl
          have q2 := h2 p2
          have q5 := h5 p5
          have q9 := h9 p9
          have q12 := h12 p12
          obtain ⟨g2', rfl, s2⟩ := h2 p2
          obtain ⟨g5', rfl, s5⟩ := h5 p5
          obtain ⟨g9', rfl, s9⟩ := h9 p9
          obtain ⟨g12', rfl, s12⟩ := h12 p12
          simp only [Act.put, List.setIfInBounds_toArray, List.set_cons_zero, List.set_cons_succ]
          go_simp
          refine hK.out _ _ (hS.alloc _) ⟨(.slice (some ⟨g2', 0, none⟩) 1 1), (.slice (some ⟨g5', 0, none⟩) 2 2), (.slice (some ⟨g9', 0, none⟩) 3 3), (.slice (some ⟨g12', 0, none⟩) 2 2), (.slice (some ⟨w.heap.size, 0, none⟩) 5 5), u74, by simp only [Act.put, List.setIfInBounds_toArray, List.set_cons_zero, List.set_cons_succ], (fun j hj hn => by rw [up_ne (show j ≠ 13 from fun e => hn (by subst e; simp))]; exact hT j hj hn), hS.alloc _, Ow.alloc hO _, hB.alloc hB.size _, (fun _ => q2.alloc _), (fun _ => q5.alloc _), (fun _ => q9.alloc _), (fun _ => q12.alloc _), (fun _ => ⟨w.heap.size, rfl, Ce.made rfl⟩), (fun h => (h15 (by rwa [up_ne (show 15 ≠ 13 by decide)] at h))), (fun _ => ⟨(up_ne (by decide)).trans p2, (up_ne (by decide)).trans p5, (up_ne (by decide)).trans p9, (up_ne (by decide)).trans p12⟩)⟩
        · obtain ⟨u61, u64, u68, u71, u72, u74, rfl, hT, hS, hO, hB, h2, h5, h9, h12, h13, h15, hN⟩ := hJ
          simp only [Act.put, List.setIfInBounds_toArray, List.set_cons_zero, List.set_cons_succ]
          go_simp
          refine (Wst.out _).mono ?_
          rintro e' w' ⟨rfl, rfl⟩
          try go_wp2_with fail
          refine hK.out _ _ hS ⟨u61, u64, u68, u71, u72, (.int .i64 (st : Int)), by simp only [Act.put, List.setIfInBounds_toArray, List.set_cons_zero, List.set_cons_succ], (fun j hj hn => by rw [up_ne (show j ≠ 15 from fun e => hn (by subst e; simp))]; exact hT j hj hn), hS, hO, hB, (fun h => (h2 (by rwa [up_ne (show 2 ≠ 15 by decide)] at h))), (fun h => (h5 (by rwa [up_ne (show 5 ≠ 15 by decide)] at h))), (fun h => (h9 (by rwa [up_ne (show 9 ≠ 15 by decide)] at h))), (fun h => (h12 (by rwa [up_ne (show 12 ≠ 15 by decide)] at h))), (fun h => (h13 (by rwa [up_ne (show 13 ≠ 15 by decide)] at h))), (fun _ => rfl), (fun h => by rw [up_ne (show 13 ≠ 15 by decide)] at h; obtain ⟨x1, x2, x3, x4⟩ := hN h; exact ⟨(up_ne (by decide)).trans x1, (up_ne (by decide)).trans x2, (up_ne (by decide)).trans x3, (up_ne (by decide)).trans x4⟩)⟩
      · intro l a w hJ hall
        obtain ⟨u61, u64, u68, u71, u72, u74, rfl, hT, hS, hO, hB, h2, h5, h9, h12, h13, h15, hN⟩ := hJ
        obtain ⟨g, rfl, hC⟩ := h13 (hall 13 (by decide))
        obtain rfl := h15 (hall 15 (by decide))
        have q2 := h2 (hall 2 (by decide))
        have q5 := h5 (hall 5 (by decide))
        have q9 := h9 (hall 9 (by decide))
        have q12 := h12 (hall 12 (by decide))
        clear h2 h5 h9 h12 h13 h15 hN hT
        simp only [Act.put, List.setIfInBounds_toArray, List.set_cons_zero, List.set_cons_succ]
        obtain ⟨X, c, hcell, hse⟩ : ∃ (X : Option Addr) (c : Nat), w.cell? ⟨g, st, none⟩ = some (.slice X m2 c) ∧ Se w X m2 (gl (mvStl st (s : Int))) := by
          have e := HM.out
          have h5 : st = 0 ∨ st = 1 ∨ st = 2 ∨ st = 3 ∨ st = 4 := by omega
          rcases h5 with rfl | rfl | rfl | rfl | rfl
          · obtain rfl : m2 = 0 := e
            exact ⟨none, 0, hC.2.1 0 _ rfl, Sl.nil _ _ _⟩
          · obtain ⟨gx, rfl, sx⟩ := q2
            obtain rfl : m2 = 1 := e
            exact ⟨_, _, hC.2.1 1 _ rfl, sx⟩
          · obtain ⟨gx, rfl, sx⟩ := q5
            obtain rfl : m2 = 2 := e
            exact ⟨_, _, hC.2.1 2 _ rfl, sx⟩
          · obtain ⟨gx, rfl, sx⟩ := q9
            obtain rfl : m2 = 3 := e
            exact ⟨_, _, hC.2.1 3 _ rfl, sx⟩
          · obtain ⟨gx, rfl, sx⟩ := q12
            obtain rfl : m2 = 2 := e
            exact ⟨_, _, hC.2.1 4 _ rfl, sx⟩
        have HC := hid hC
        clear hC q2 q5 q9 q12
        have s0 : (0 : Int) ≤ (st : Int) := by omega
        have s1 : (st : Int) < 5 := by omega
        refine tk 16 (v := ?_) rfl (by kernel_rfl) (by kernel_rfl) (by kernel_rfl) (fun _ _ _ h => h) rfl ?_ hS ?_; rotate_left; (focus (intro w hSw; (try dsimp only at hSw);  go_simp; (try with_reducible rfl))); (try simp only [Act.put, List.setIfInBounds_toArray, List.set_cons_zero, List.set_cons_succ])
        refine only 17 rfl (by kernel_rfl) rfl (fun K hK => ?_)
        go_simp
        refine hK.out _ _ hS (fun _ => ?_)
        clear hK
        try simp only [Act.put, List.setIfInBounds_toArray, List.set_cons_zero, List.set_cons_succ]
        refine only 18 rfl (by kernel_rfl) rfl (fun K hK => ?_)
        skip
        refine wpo_app_es (.tmp 59) (.tmp 76) rfl w6.heap.size _ i GG rfl hO X m2 c (gl (mvStl st (s : Int))) rfl hse G2.out (by omega) hB.size ?_
        intro A2 d2 w9 hO9 hb9
        have B9 := hid (hB.trans hb9)
        refine hK.out _ _ (S6.out.below B9.out) (fun hHeld2 => ?_)
        clear hK
        try simp only [Act.put, List.setIfInBounds_toArray, List.set_cons_zero, List.set_cons_succ]
        refine tk 19 (v := ?_) rfl (by kernel_rfl) (by kernel_rfl) (by kernel_rfl) (fun _ _ _ h => h) rfl ?_ hHeld2 ?_; rotate_left; (focus (intro w hSw; (try dsimp only at hSw);  go_simp; (try with_reducible rfl))); (try simp only [Act.put, List.setIfInBounds_toArray, List.set_cons_zero, List.set_cons_succ])
        refine wpAnyH_done (by kernel_rfl) ?_ _
        have HO9 := hid hO9
        clear hO9 hb9 hHeld2 hO hB hS hse hcell HC s0 s1
        go_wp2_with fail
        go_loopg [18, 20] (3 - i) (fun gh v x wr => ∃ (j : Nat) (A : Option Addr) (d : Nat), gh = 3 - j ∧ i ≤ j ∧ j ≤ 3 ∧ v = .slice A (m2 + j) d ∧ x = .int .i64 (j : Int) ∧ OwE wr w6.heap.size (.slice A (m2 + j) d) (m2 + j) GG ∧ Below w6.heap.size w6 wr)
        case atStart => exact ⟨i, A2, d2, rfl, Nat.le_refl _, by omega, by rw [Nat.add_comm], rfl, by rw [Nat.add_comm]; exact HO9.out, B9.out⟩
        case round =>
          clear HO9 B9
          obtain ⟨j, A3, d3, hgh, hij, hj, rfl, rfl, hO, hb⟩ := hrel
          have HO := hid hO
          have BR := hid hb
          clear hO hb
          have j0 : (0 : Int) ≤ j := by omega
          by_cases hlt : j < 3
          · have j1 : (j : Int) < 3 := by omega
            have KY := hid (fun w => lkey_any (j : Int) w)
            unfold kyV at KY
            have HE := hid ((G3.out j hij hlt).symm)
            unfold mvRot at HE
            generalize kyN (j : Int) = ky at KY HE
            go_wp2_with fail
            refine (KY.out _).mono ?_
            rintro x w7 ⟨rfl, hb⟩
            have HO7 := hid (HO.out.keep hb (Nat.le_refl _))
            have B7 := hid (BR.out.trans (hb.mono BR.out.size))
            clear hb HO BR KY
            go_wp2_with (at_builtin; refine wp_app_e rfl (.tmp 83) (.tmp 87) rfl w6.heap.size _ (m2 + j) GG rfl (Ow.alloc HO7.out _) w7.heap.size 1 rfl (by rw [← HE.out]; exact Ce.made rfl) (by omega) (by have := B7.out.size; simp; omega) ?_; intro A' d' w8 hown hbel hgr; have B8 := hid ((B7.out.alloc B7.out.size _).trans hbel); have HO8 := hid hown; clear hown hbel hgr HO7)
            go_roundg (3 - (j + 1))
            case measure => omega
            case rel => exact ⟨j + 1, A', d', rfl, by omega, by omega, rfl, by go_num, HO8.out, B8.out⟩
          · have j1 : ¬ (j : Int) < 3 := by omega
            have hn : m2 + j = LL.length := by rw [HN.out]; omega
            have HNN := hid hn
            clear hn hlt hgh hij
            have AL := hid (fun A d w (h : Se w A (m2 + j) GG) => (show Calls Try.prog 26 #[.agg (PA mkB), .slice A (m2 + j) d] w fun x w' => x = .returned (.tuple #[.agg (PA q), .int .i64 ((m2 + j : Nat) : Int), .int .i64 0]) ∧ Below w.heap.size w w' from (rall_any mkB GG A (m2 + j) d w h (by omega) 0 (mkP_inv (fun _ => 0) 0) (by omega)).mono (fun x w' ⟨q', k', er, hx, ho, hb⟩ => by obtain ⟨a, b, c⟩ := ho.uniq (show AllOut mkB GG (m2 + j) q (m2 + j) 0 from ⟨by rw [HNN.out, HG.out]; exact HR.out, .inl ⟨rfl, rfl⟩⟩); subst a; subst b; subst c; exact ⟨hx, hb⟩)))
            have S9 := hid (S6.out.below BR.out)
            have SE := hid HO.out.se
            obtain ⟨w9, rfl⟩ : ∃ wo : World, wo = wr := ⟨_, rfl⟩
            clear HO
            have LP := (SG.get S9.out (b := P) (p := mkB) (by simp)).loadA
            go_wp2_with ((with_reducible refine wl_id ?_); refine wl_load rfl rfl rfl LP ?_)
            refine (AL.out _ _ _ SE.out).mono ?_
            rintro x w10 ⟨rfl, hb⟩
            have S10 := hid (S9.out.below hb)
            clear hb S9 SE LP AL
            have Q1 := SG.get S10.out (b := P) (p := mkB) (by simp)
            have ST := hid (Q1.storeA q)
            have PW := Q1.whole q
            have S11 := hid (SG.cons (SG.sets ((S10.out.less (L' := []) (fun x hx => by cases hx)).lessE (E' := []) (fun x hx => by cases hx)) (c := P) (o := 0) (vs := (PA q).toList) (fun x hx => by cases hx) (fun x hx => by cases hx) lP) PW)
            clear Q1 PW S10
            go_upto_region 17 with ((with_reducible refine wl_id ?_); refine wl_store rfl rfl rfl rfl ST.out ?_)
            clear ST
            generalize w10.setCells P 0 (PA q).toList = w11 at *
            go_upto_if 100 with (fail)
            have CE := hid (Ce.made (w := w11) (l := [.int .i64 (1 + (k : Int)), .int .i64 (s : Int), .int .i64 0, .int .i64 0, .int .i64 0, .int .u64 0, .int .u64 0]) (T := 43) rfl)
            simp only [List.toArray] at CE
            have BE := hid ((Below.refl w11.heap.size w11).alloc (Nat.le_refl _) (.cells #[.int .i64 (1 + (k : Int)), .int .i64 (s : Int), .int .i64 0, .int .i64 0, .int .i64 0, .int .u64 0, .int .u64 0] 43))
            generalize w11.alloc (.cells #[.int .i64 (1 + (k : Int)), .int .i64 (s : Int), .int .i64 0, .int .i64 0, .int .i64 0, .int .u64 0, .int .u64 0] 43) = w12 at *
            obtain ⟨Eb, hEb⟩ : ∃ b, b = w11.heap.size := ⟨_, rfl⟩
            rw [← hEb] at CE ⊢
            have lE : w11.heap.size ≤ Eb := by omega
            clear hEb
            go_cut [] from 99 (fun wx => ∃ y2 y3 y4 : Int, Ce wx Eb [.int .i64 (1 + (k : Int)), .int .i64 (s : Int), .int .i64 y2, .int .i64 y3, .int .i64 y4, .int .u64 0, .int .u64 0] ∧ (k = 0 ∧ y2 = 1 ∧ y3 = 2 ∧ y4 = 3 ∨ k ≠ 0 ∧ y2 = 0 ∧ y3 = 0 ∧ y4 = 0) ∧ Below w11.heap.size w11 wx)
            case first =>
              by_cases hk0 : k = 0
              · have d1 : (1 + (k : Int) == 1) = true := by simp; omega
                have y2 := CE.out.2.1 2 _ rfl
                have y3 := CE.out.2.1 3 _ rfl
                have y4 := CE.out.2.1 4 _ rfl
                have fE := CE.out.2.2
                have lb := CE.out.1
                go_wp2_with fail
                go_meet
                exact ⟨1, 2, 3, ((CE.out.set 2 (.int .i64 1) (by simp)).set 3 (.int .i64 2) (by simp)).set 4 (.int .i64 3) (by simp), .inl ⟨hk0, rfl, rfl, rfl⟩, ((BE.out.setCell (p := ⟨Eb, 2, none⟩) lE _).setCell (p := ⟨Eb, 3, none⟩) lE _).setCell (p := ⟨Eb, 4, none⟩) lE _⟩
              · have d1 : (1 + (k : Int) == 1) = false := by simp; omega
                go_wp2_with fail
                go_meet
                exact ⟨0, 0, 0, CE.out, .inr ⟨hk0, rfl, rfl, rfl⟩, BE.out⟩
            case rest =>
              obtain ⟨y2, y3, y4, hc, hy, hb⟩ := hcut
              clear CE BE
              have CE := hid hc
              have BE := hid hb
              have HY := hid hy
              clear hc hy hb
              obtain ⟨w13, rfl⟩ : ∃ wo : World, wo = wc := ⟨_, rfl⟩
              go_upto_if 105 with (fail)
              go_cut [] from 99 (fun wx => ∃ y1 : Int, Ce wx Eb [.int .i64 (1 + (k : Int)), .int .i64 y1, .int .i64 y2, .int .i64 y3, .int .i64 y4, .int .u64 0, .int .u64 0] ∧ (k = 5 ∧ y1 = 0 ∨ k ≠ 5 ∧ y1 = (s : Int)) ∧ Below w11.heap.size w11 wx)
              case first =>
                by_cases hk5 : k = 5
                · have d1 : (1 + (k : Int) == 6) = true := by simp; omega
                  have y1 := CE.out.2.1 1 _ rfl
                  have fE := CE.out.2.2
                  have lb := CE.out.1
                  go_wp2_with fail
                  go_meet
                  exact ⟨0, CE.out.set 1 (.int .i64 0) (by simp), .inl ⟨hk5, rfl⟩, BE.out.setCell (p := ⟨Eb, 1, none⟩) lE _⟩
                · have d1 : (1 + (k : Int) == 6) = false := by simp; omega
                  go_wp2_with fail
                  go_meet
                  exact ⟨(s : Int), CE.out, .inr ⟨hk5, rfl⟩, BE.out⟩
              case rest =>
                obtain ⟨y1, hc, hy, hb⟩ := hcut
                have CE2 := hid (show Ce wc Eb (enL (mvE (k + 1) (s : Int))) from by
                  have e : [.int .i64 (1 + (k : Int)), .int .i64 y1, .int .i64 y2, .int .i64 y3, .int .i64 y4, .int .u64 0, .int .u64 0] = enL (mvE (k + 1) (s : Int)) := by
                    rcases HY.out with ⟨rfl, rfl, rfl, rfl⟩ | ⟨hk0, rfl, rfl, rfl⟩
                    · rcases hy with ⟨h, _⟩ | ⟨_, rfl⟩
                      · cases h
                      · rfl
                    · unfold mvE
                      rw [if_neg (by omega)]
                      rcases hy with ⟨rfl, rfl⟩ | ⟨hk5, rfl⟩
                      · rfl
                      · rw [if_neg (by omega)]
                        unfold enL zKy
                        simp only [List.cons.injEq, and_true, true_and, Value.int.injEq]
                        omega
                  rw [← e]; exact hc)
                have BE2 := hid hb
                clear hc hy hb CE BE HY
                obtain ⟨w14, rfl⟩ : ∃ wo : World, wo = wc := ⟨_, rfl⟩
                have S14 := hid (S11.out.below BE2.out)
                clear S11 BE2
                obtain ⟨xs, hxs⟩ : ∃ x : Int, x = (q.s s).st := ⟨_, rfl⟩
                have HX := hid hxs
                have xs0 : 0 ≤ xs := by rw [hxs]; exact X0.out
                have xs4 : xs ≤ 4 := by rw [hxs]; exact X4.out
                clear hxs
                obtain ⟨tv, hto⟩ : ∃ x : Int, x = mvTo (k + 1) xs := ⟨_, rfl⟩
                have HTO := hid hto
                clear hto
                obtain ⟨e, he⟩ : ∃ e, e = mvE (k + 1) (s : Int) := ⟨_, rfl⟩
                have HEE := hid he
                rw [← he] at CE2
                clear he
                obtain ⟨e1, e2, e3, e4, e5, ⟨e6, e7⟩⟩ := e
                unfold enL at CE2
                simp only at CE2
                have ek : IntKind.i64.wrap (1 + (k : Int) - 1) = (k : Int) := by rw [show 1 + (k : Int) - 1 = (k : Int) by omega]; exact IntWalk.i64_in _ (by omega)
                have s0 : (0 : Int) ≤ (s : Int) := by omega
                have s64 : (s : Int) < 64 := by omega
                go_upto_region 22 with (fail)
                refine wp_region_held_drew (S := fun w' => SG W w' [(P, q)] []) (by kernel_rfl) ?_ (fun hHeld => ?_)
                · exact S14.out.drew
                refine tk 7 (v := ?_) rfl (by kernel_rfl) (by kernel_rfl) (by kernel_rfl) (fun _ _ _ h => h) rfl ?_ hHeld ?_; rotate_left; (focus (intro w hSw; (try dsimp only at hSw);  go_simp; (try with_reducible rfl))); (try simp only [Act.put, List.setIfInBounds_toArray, List.set_cons_zero, List.set_cons_succ])
                refine tk 8 (v := ?_) rfl (by kernel_rfl) (by kernel_rfl) (by kernel_rfl) (fun _ _ _ h => h) rfl ?_ hHeld ?_; rotate_left; (focus (intro w hSw; (try dsimp only at hSw);  go_simp; (try with_reducible rfl))); (try simp only [Act.put, List.setIfInBounds_toArray, List.set_cons_zero, List.set_cons_succ])
                refine tk 11 (v := ?_) rfl (by kernel_rfl) (by kernel_rfl) (by kernel_rfl) (fun _ _ _ h => h) rfl ?_ hHeld ?_; rotate_left; (focus (intro w hSw; (try dsimp only at hSw);  go_simp; (try with_reducible rfl))); (try simp only [Act.put, List.setIfInBounds_toArray, List.set_cons_zero, List.set_cons_succ])
                refine tk 12 (v := ?_) rfl (by kernel_rfl) (by kernel_rfl) (by kernel_rfl) (fun _ _ _ h => h) rfl ?_ hHeld ?_; rotate_left; (focus (intro w hSw; (try dsimp only at hSw);  go_simp; (try with_reducible rfl))); (try simp only [Act.put, List.setIfInBounds_toArray, List.set_cons_zero, List.set_cons_succ])
                refine tk 13 (v := ?_) rfl (by kernel_rfl) (by kernel_rfl) (by kernel_rfl) (fun _ _ _ h => h) rfl ?_ hHeld ?_; rotate_left; (focus (intro w hSw; (try dsimp only at hSw);  go_simp; (try with_reducible rfl))); (try simp only [Act.put, List.setIfInBounds_toArray, List.set_cons_zero, List.set_cons_succ])
                refine tk 14 (v := ?_) rfl (by kernel_rfl) (by kernel_rfl) (by kernel_rfl) (fun _ _ _ h => h) rfl ?_ hHeld ?_; rotate_left; (focus (intro w hSw; (try dsimp only at hSw);  go_simp; (try with_reducible rfl))); (try simp only [Act.put, List.setIfInBounds_toArray, List.set_cons_zero, List.set_cons_succ])
                refine tk 15 (v := ?_) rfl (by kernel_rfl) (by kernel_rfl) (by kernel_rfl) (fun _ _ _ h => h) rfl ?_ hHeld ?_; rotate_left; (focus (intro w hSw; (try dsimp only at hSw); have qc : w.cell? ⟨P, 3 + s * 5, none⟩ = some (.int .i64 xs) := (by rw [HX.out]; exact (SG.get hSw (b := P) (p := q) (by simp)).cs s 0 (by omega) (by omega)); go_simp; (try with_reducible rfl))); (try simp only [Act.put, List.setIfInBounds_toArray, List.set_cons_zero, List.set_cons_succ])
                have CE3 := hid (show Ce w14.drew Eb [.int .i64 e1, .int .i64 e2, .int .i64 e3, .int .i64 e4, .int .i64 e5, .int .u64 e6, .int .u64 e7] from CE2)
                generalize w14.drew = v1 at *
                clear S14 CE2
                refine float_mid (J := fun a0 l a w => ∃ (u107 u108 u109 u110 u111 u112 u113 : Value), a = (Act.put (Act.put (Act.put (Act.put (Act.put (Act.put (Act.put a0 (some 107) u107) (some 108) u108) (some 109) u109) (some 110) u110) (some 111) u111) (some 112) u112) (some 113) u113) ∧ (∀ i, i < 19 → i ∉ [0, 1, 2, 3, 4, 5, 6] → l i = (#[false, false, false, false, false, false, false, true, true, false, false, true, true, true, true, true, false, false, false] : Array Bool).getD i true) ∧ SG W w [(P, q)] [] ∧ Ce w Eb [.int .i64 e1, .int .i64 e2, .int .i64 e3, .int .i64 e4, .int .i64 e5, .int .u64 e6, .int .u64 e7] ∧ (l 0 = true → NumIs w u107 [(1 : Int), (-1 : Int), (-1 : Int), (-1 : Int), (-1 : Int)]) ∧ (l 1 = true → NumIs w u108 [(-1 : Int), (2 : Int), (-1 : Int), (2 : Int), (-1 : Int)]) ∧ (l 2 = true → NumIs w u109 [(-1 : Int), (-1 : Int), (3 : Int), (-1 : Int), (-1 : Int)]) ∧ (l 3 = true → NumIs w u110 [(-1 : Int), (4 : Int), (-1 : Int), (4 : Int), (-1 : Int)]) ∧ (l 4 = true → NumIs w u111 [(-1 : Int), (-1 : Int), (-1 : Int), (-1 : Int), (0 : Int)]) ∧ (l 5 = true → NumIs w u112 [(0 : Int), (1 : Int), (2 : Int), (3 : Int), (4 : Int)]) ∧ (l 6 = true → ∃ g : Nat, u113 = .slice (some ⟨g, 0, none⟩) 6 6 ∧ Ce w g [u107, u108, u109, u110, u111, u112]) ∧ (l 6 = true → l 0 = true ∧ l 1 = true ∧ l 2 = true ∧ l 3 = true ∧ l 4 = true ∧ l 5 = true)) [0, 1, 2, 3, 4, 5, 6] 6 5 (listed1 := #[true, true, true, true, true, true, true, true, true, false, false, true, true, true, true, true, false, false, false]) (by decide +kernel) (by decide +kernel) (by decide +kernel) (by decide +kernel) (by decide +kernel) (by decide +kernel) (by decide +kernel) (by decide +kernel) ?_ ?_ ?_ ?_
                · intro l a w hJ j hj hn
                  obtain ⟨u107, u108, u109, u110, u111, u112, u113, rfl, hT, hS, hE, h0, h1, h2, h3, h4, h5, h6, hN⟩ := hJ
                  exact hT j hj hn
                · refine ⟨u107, u108, u109, u110, u111, u112, u113, by simp only [Act.put, List.setIfInBounds_toArray, List.set_cons_zero, List.set_cons_succ], fun _ _ _ => rfl, hHeld, CE3.out, fun h => absurd h (by decide +kernel), fun h => absurd h (by decide +kernel), fun h => absurd h (by decide +kernel), fun h => absurd h (by decide +kernel), fun h => absurd h (by decide +kernel), fun h => absurd h (by decide +kernel), fun h => absurd h (by decide +kernel), fun h => absurd h (by decide +kernel)⟩
                · refine all_cons (step_at 0 rfl rfl fun l a w hJ hL hP K hK => ?_) (all_cons (step_at 1 rfl rfl fun l a w hJ hL hP K hK => ?_) (all_cons (step_at 2 rfl rfl fun l a w hJ hL hP K hK => ?_) (all_cons (step_at 3 rfl rfl fun l a w hJ hL hP K hK => ?_) (all_cons (step_at 4 rfl rfl fun l a w hJ hL hP K hK => ?_) (all_cons (step_at 5 rfl rfl fun l a w hJ hL hP K hK => ?_) (all_cons (step_at 6 rfl rfl fun l a w hJ hL hP K hK => ?_) (all_nil)))))))
                  · obtain ⟨u107, u108, u109, u110, u111, u112, u113, rfl, hT, hS, hE, h0, h1, h2, h3, h4, h5, h6, hN⟩ := hJ
                    have n6 : l 6 = false := by
                      cases e : l 6
                      · rfl
                      · exact absurd (hN e).1 (by rw [hL]; decide)
                    simp only [Act.put, List.setIfInBounds_toArray, List.set_cons_zero, List.set_cons_succ]
                    go_simp
                    refine hK.out _ _ (hS.alloc _) ⟨(.slice (some ⟨w.heap.size, 0, none⟩) 5 5), u108, u109, u110, u111, u112, u113, by simp only [Act.put, List.setIfInBounds_toArray, List.set_cons_zero, List.set_cons_succ], (fun j hj hn => by rw [up_ne (show j ≠ 0 from fun e => hn (by subst e; simp))]; exact hT j hj hn), hS.alloc _, hE.alloc _, (fun _ => NumIs.made [(1 : Int), (-1 : Int), (-1 : Int), (-1 : Int), (-1 : Int)]), (fun h => (h1 (by rwa [up_ne (show 1 ≠ 0 by decide)] at h)).alloc _), (fun h => (h2 (by rwa [up_ne (show 2 ≠ 0 by decide)] at h)).alloc _), (fun h => (h3 (by rwa [up_ne (show 3 ≠ 0 by decide)] at h)).alloc _), (fun h => (h4 (by rwa [up_ne (show 4 ≠ 0 by decide)] at h)).alloc _), (fun h => (h5 (by rwa [up_ne (show 5 ≠ 0 by decide)] at h)).alloc _), (fun h => by rw [up_ne (show 6 ≠ 0 by decide), n6] at h; cases h), (fun h => by rw [up_ne (show 6 ≠ 0 by decide), n6] at h; cases h)⟩
                  · obtain ⟨u107, u108, u109, u110, u111, u112, u113, rfl, hT, hS, hE, h0, h1, h2, h3, h4, h5, h6, hN⟩ := hJ
                    have n6 : l 6 = false := by
                      cases e : l 6
                      · rfl
                      · exact absurd (hN e).2.1 (by rw [hL]; decide)
                    simp only [Act.put, List.setIfInBounds_toArray, List.set_cons_zero, List.set_cons_succ]
                    go_simp
                    refine hK.out _ _ (hS.alloc _) ⟨u107, (.slice (some ⟨w.heap.size, 0, none⟩) 5 5), u109, u110, u111, u112, u113, by simp only [Act.put, List.setIfInBounds_toArray, List.set_cons_zero, List.set_cons_succ], (fun j hj hn => by rw [up_ne (show j ≠ 1 from fun e => hn (by subst e; simp))]; exact hT j hj hn), hS.alloc _, hE.alloc _, (fun h => (h0 (by rwa [up_ne (show 0 ≠ 1 by decide)] at h)).alloc _), (fun _ => NumIs.made [(-1 : Int), (2 : Int), (-1 : Int), (2 : Int), (-1 : Int)]), (fun h => (h2 (by rwa [up_ne (show 2 ≠ 1 by decide)] at h)).alloc _), (fun h => (h3 (by rwa [up_ne (show 3 ≠ 1 by decide)] at h)).alloc _), (fun h => (h4 (by rwa [up_ne (show 4 ≠ 1 by decide)] at h)).alloc _), (fun h => (h5 (by rwa [up_ne (show 5 ≠ 1 by decide)] at h)).alloc _), (fun h => by rw [up_ne (show 6 ≠ 1 by decide), n6] at h; cases h), (fun h => by rw [up_ne (show 6 ≠ 1 by decide), n6] at h; cases h)⟩
                  · obtain ⟨u107, u108, u109, u110, u111, u112, u113, rfl, hT, hS, hE, h0, h1, h2, h3, h4, h5, h6, hN⟩ := hJ
                    have n6 : l 6 = false := by
                      cases e : l 6
                      · rfl
                      · exact absurd (hN e).2.2.1 (by rw [hL]; decide)
                    simp only [Act.put, List.setIfInBounds_toArray, List.set_cons_zero, List.set_cons_succ]
                    go_simp
                    refine hK.out _ _ (hS.alloc _) ⟨u107, u108, (.slice (some ⟨w.heap.size, 0, none⟩) 5 5), u110, u111, u112, u113, by simp only [Act.put, List.setIfInBounds_toArray, List.set_cons_zero, List.set_cons_succ], (fun j hj hn => by rw [up_ne (show j ≠ 2 from fun e => hn (by subst e; simp))]; exact hT j hj hn), hS.alloc _, hE.alloc _, (fun h => (h0 (by rwa [up_ne (show 0 ≠ 2 by decide)] at h)).alloc _), (fun h => (h1 (by rwa [up_ne (show 1 ≠ 2 by decide)] at h)).alloc _), (fun _ => NumIs.made [(-1 : Int), (-1 : Int), (3 : Int), (-1 : Int), (-1 : Int)]), (fun h => (h3 (by rwa [up_ne (show 3 ≠ 2 by decide)] at h)).alloc _), (fun h => (h4 (by rwa [up_ne (show 4 ≠ 2 by decide)] at h)).alloc _), (fun h => (h5 (by rwa [up_ne (show 5 ≠ 2 by decide)] at h)).alloc _), (fun h => by rw [up_ne (show 6 ≠ 2 by decide), n6] at h; cases h), (fun h => by rw [up_ne (show 6 ≠ 2 by decide), n6] at h; cases h)⟩
                  · obtain ⟨u107, u108, u109, u110, u111, u112, u113, rfl, hT, hS, hE, h0, h1, h2, h3, h4, h5, h6, hN⟩ := hJ
                    have n6 : l 6 = false := by
                      cases e : l 6
                      · rfl
                      · exact absurd (hN e).2.2.2.1 (by rw [hL]; decide)
                    simp only [Act.put, List.setIfInBounds_toArray, List.set_cons_zero, List.set_cons_succ]
                    go_simp
                    refine hK.out _ _ (hS.alloc _) ⟨u107, u108, u109, (.slice (some ⟨w.heap.size, 0, none⟩) 5 5), u111, u112, u113, by simp only [Act.put, List.setIfInBounds_toArray, List.set_cons_zero, List.set_cons_succ], (fun j hj hn => by rw [up_ne (show j ≠ 3 from fun e => hn (by subst e; simp))]; exact hT j hj hn), hS.alloc _, hE.alloc _, (fun h => (h0 (by rwa [up_ne (show 0 ≠ 3 by decide)] at h)).alloc _), (fun h => (h1 (by rwa [up_ne (show 1 ≠ 3 by decide)] at h)).alloc _), (fun h => (h2 (by rwa [up_ne (show 2 ≠ 3 by decide)] at h)).alloc _), (fun _ => NumIs.made [(-1 : Int), (4 : Int), (-1 : Int), (4 : Int), (-1 : Int)]), (fun h => (h4 (by rwa [up_ne (show 4 ≠ 3 by decide)] at h)).alloc _), (fun h => (h5 (by rwa [up_ne (show 5 ≠ 3 by decide)] at h)).alloc _), (fun h => by rw [up_ne (show 6 ≠ 3 by decide), n6] at h; cases h), (fun h => by rw [up_ne (show 6 ≠ 3 by decide), n6] at h; cases h)⟩
                  · obtain ⟨u107, u108, u109, u110, u111, u112, u113, rfl, hT, hS, hE, h0, h1, h2, h3, h4, h5, h6, hN⟩ := hJ
                    have n6 : l 6 = false := by
                      cases e : l 6
                      · rfl
                      · exact absurd (hN e).2.2.2.2.1 (by rw [hL]; decide)
                    simp only [Act.put, List.setIfInBounds_toArray, List.set_cons_zero, List.set_cons_succ]
                    go_simp
                    refine hK.out _ _ (hS.alloc _) ⟨u107, u108, u109, u110, (.slice (some ⟨w.heap.size, 0, none⟩) 5 5), u112, u113, by simp only [Act.put, List.setIfInBounds_toArray, List.set_cons_zero, List.set_cons_succ], (fun j hj hn => by rw [up_ne (show j ≠ 4 from fun e => hn (by subst e; simp))]; exact hT j hj hn), hS.alloc _, hE.alloc _, (fun h => (h0 (by rwa [up_ne (show 0 ≠ 4 by decide)] at h)).alloc _), (fun h => (h1 (by rwa [up_ne (show 1 ≠ 4 by decide)] at h)).alloc _), (fun h => (h2 (by rwa [up_ne (show 2 ≠ 4 by decide)] at h)).alloc _), (fun h => (h3 (by rwa [up_ne (show 3 ≠ 4 by decide)] at h)).alloc _), (fun _ => NumIs.made [(-1 : Int), (-1 : Int), (-1 : Int), (-1 : Int), (0 : Int)]), (fun h => (h5 (by rwa [up_ne (show 5 ≠ 4 by decide)] at h)).alloc _), (fun h => by rw [up_ne (show 6 ≠ 4 by decide), n6] at h; cases h), (fun h => by rw [up_ne (show 6 ≠ 4 by decide), n6] at h; cases h)⟩
                  · obtain ⟨u107, u108, u109, u110, u111, u112, u113, rfl, hT, hS, hE, h0, h1, h2, h3, h4, h5, h6, hN⟩ := hJ
                    have n6 : l 6 = false := by
                      cases e : l 6
                      · rfl
                      · exact absurd (hN e).2.2.2.2.2 (by rw [hL]; decide)
                    simp only [Act.put, List.setIfInBounds_toArray, List.set_cons_zero, List.set_cons_succ]
                    go_simp
                    refine hK.out _ _ (hS.alloc _) ⟨u107, u108, u109, u110, u111, (.slice (some ⟨w.heap.size, 0, none⟩) 5 5), u113, by simp only [Act.put, List.setIfInBounds_toArray, List.set_cons_zero, List.set_cons_succ], (fun j hj hn => by rw [up_ne (show j ≠ 5 from fun e => hn (by subst e; simp))]; exact hT j hj hn), hS.alloc _, hE.alloc _, (fun h => (h0 (by rwa [up_ne (show 0 ≠ 5 by decide)] at h)).alloc _), (fun h => (h1 (by rwa [up_ne (show 1 ≠ 5 by decide)] at h)).alloc _), (fun h => (h2 (by rwa [up_ne (show 2 ≠ 5 by decide)] at h)).alloc _), (fun h => (h3 (by rwa [up_ne (show 3 ≠ 5 by decide)] at h)).alloc _), (fun h => (h4 (by rwa [up_ne (show 4 ≠ 5 by decide)] at h)).alloc _), (fun _ => NumIs.made [(0 : Int), (1 : Int), (2 : Int), (3 : Int), (4 : Int)]), (fun h => by rw [up_ne (show 6 ≠ 5 by decide), n6] at h; cases h), (fun h => by rw [up_ne (show 6 ≠ 5 by decide), n6] at h; cases h)⟩
                  · obtain ⟨u107, u108, u109, u110, u111, u112, u113, rfl, hT, hS, hE, h0, h1, h2, h3, h4, h5, h6, hN⟩ := hJ
                    have p0 := hP { on := 0, ground := .data } (by simp) rfl
                    have p1 := hP { on := 1, ground := .data } (by simp) rfl
                    have p2 := hP { on := 2, ground := .data } (by simp) rfl
                    have p3 := hP { on := 3, ground := .data } (by simp) rfl
                    have p4 := hP { on := 4, ground := .data } (by simp) rfl
                    have p5 := hP { on := 5, ground := .data } (by simp) rfl
                    have q0 := h0 p0
                    have q1 := h1 p1
                    have q2 := h2 p2
                    have q3 := h3 p3
                    have q4 := h4 p4
                    have q5 := h5 p5
                    obtain ⟨r0, rfl, s0'⟩ := h0 p0
                    obtain ⟨r1, rfl, s1'⟩ := h1 p1
                    obtain ⟨r2, rfl, s2'⟩ := h2 p2
                    obtain ⟨r3, rfl, s3'⟩ := h3 p3
                    obtain ⟨r4, rfl, s4'⟩ := h4 p4
                    obtain ⟨r5, rfl, s5'⟩ := h5 p5
                    simp only [Act.put, List.setIfInBounds_toArray, List.set_cons_zero, List.set_cons_succ]
                    go_simp
                    refine hK.out _ _ (hS.alloc _) ⟨(.slice (some ⟨r0, 0, none⟩) 5 5), (.slice (some ⟨r1, 0, none⟩) 5 5), (.slice (some ⟨r2, 0, none⟩) 5 5), (.slice (some ⟨r3, 0, none⟩) 5 5), (.slice (some ⟨r4, 0, none⟩) 5 5), (.slice (some ⟨r5, 0, none⟩) 5 5), (.slice (some ⟨w.heap.size, 0, none⟩) 6 6), by simp only [Act.put, List.setIfInBounds_toArray, List.set_cons_zero, List.set_cons_succ], (fun j hj hn => by rw [up_ne (show j ≠ 6 from fun e => hn (by subst e; simp))]; exact hT j hj hn), hS.alloc _, hE.alloc _, (fun _ => q0.alloc _), (fun _ => q1.alloc _), (fun _ => q2.alloc _), (fun _ => q3.alloc _), (fun _ => q4.alloc _), (fun _ => q5.alloc _), (fun _ => ⟨w.heap.size, rfl, Ce.made rfl⟩), (fun _ => ⟨(up_ne (by decide)).trans p0, (up_ne (by decide)).trans p1, (up_ne (by decide)).trans p2, (up_ne (by decide)).trans p3, (up_ne (by decide)).trans p4, (up_ne (by decide)).trans p5⟩)⟩
                · intro l a w hJ hall
                  obtain ⟨u107, u108, u109, u110, u111, u112, u113, rfl, hT, hS, hE, h0, h1, h2, h3, h4, h5, h6, hN⟩ := hJ
                  obtain ⟨g, rfl, hC⟩ := h6 (hall 6 (by decide))
                  have q0 := h0 (hall 0 (by decide))
                  have q1 := h1 (hall 1 (by decide))
                  have q2 := h2 (hall 2 (by decide))
                  have q3 := h3 (hall 3 (by decide))
                  have q4 := h4 (hall 4 (by decide))
                  have q5 := h5 (hall 5 (by decide))
                  clear h0 h1 h2 h3 h4 h5 h6 hN hT
                  simp only [Act.put, List.setIfInBounds_toArray, List.set_cons_zero, List.set_cons_succ]
                  obtain ⟨gr, hcell, hto⟩ : ∃ gr : Nat, w.cell? ⟨g, k, none⟩ = some (.slice (some ⟨gr, 0, none⟩) 5 5) ∧ w.cell? ⟨gr, xs.toNat, none⟩ = some (.int .i64 tv) := by
                    rw [HTO.out]
                    have h5 : k = 0 ∨ k = 1 ∨ k = 2 ∨ k = 3 ∨ k = 4 ∨ k = 5 := by omega
                    have h6 : xs = 0 ∨ xs = 1 ∨ xs = 2 ∨ xs = 3 ∨ xs = 4 := by omega
                    rcases h5 with rfl | rfl | rfl | rfl | rfl | rfl
                    · obtain ⟨gx, rfl, sx⟩ := q0
                      refine ⟨gx, hC.2.1 0 _ rfl, ?_⟩
                      rcases h6 with rfl | rfl | rfl | rfl | rfl
                      · exact sx.2.1 0 _ rfl
                      · exact sx.2.1 1 _ rfl
                      · exact sx.2.1 2 _ rfl
                      · exact sx.2.1 3 _ rfl
                      · exact sx.2.1 4 _ rfl
                    · obtain ⟨gx, rfl, sx⟩ := q1
                      refine ⟨gx, hC.2.1 1 _ rfl, ?_⟩
                      rcases h6 with rfl | rfl | rfl | rfl | rfl
                      · exact sx.2.1 0 _ rfl
                      · exact sx.2.1 1 _ rfl
                      · exact sx.2.1 2 _ rfl
                      · exact sx.2.1 3 _ rfl
                      · exact sx.2.1 4 _ rfl
                    · obtain ⟨gx, rfl, sx⟩ := q2
                      refine ⟨gx, hC.2.1 2 _ rfl, ?_⟩
                      rcases h6 with rfl | rfl | rfl | rfl | rfl
                      · exact sx.2.1 0 _ rfl
                      · exact sx.2.1 1 _ rfl
                      · exact sx.2.1 2 _ rfl
                      · exact sx.2.1 3 _ rfl
                      · exact sx.2.1 4 _ rfl
                    · obtain ⟨gx, rfl, sx⟩ := q3
                      refine ⟨gx, hC.2.1 3 _ rfl, ?_⟩
                      rcases h6 with rfl | rfl | rfl | rfl | rfl
                      · exact sx.2.1 0 _ rfl
                      · exact sx.2.1 1 _ rfl
                      · exact sx.2.1 2 _ rfl
                      · exact sx.2.1 3 _ rfl
                      · exact sx.2.1 4 _ rfl
                    · obtain ⟨gx, rfl, sx⟩ := q4
                      refine ⟨gx, hC.2.1 4 _ rfl, ?_⟩
                      rcases h6 with rfl | rfl | rfl | rfl | rfl
                      · exact sx.2.1 0 _ rfl
                      · exact sx.2.1 1 _ rfl
                      · exact sx.2.1 2 _ rfl
                      · exact sx.2.1 3 _ rfl
                      · exact sx.2.1 4 _ rfl
                    · obtain ⟨gx, rfl, sx⟩ := q5
                      refine ⟨gx, hC.2.1 5 _ rfl, ?_⟩
                      rcases h6 with rfl | rfl | rfl | rfl | rfl
                      · exact sx.2.1 0 _ rfl
                      · exact sx.2.1 1 _ rfl
                      · exact sx.2.1 2 _ rfl
                      · exact sx.2.1 3 _ rfl
                      · exact sx.2.1 4 _ rfl
                  clear hC q0 q1 q2 q3 q4 q5
                  have k0 : (0 : Int) ≤ (k : Int) := by omega
                  have k6 : (k : Int) < 6 := by omega
                  have x5 : xs < 5 := by omega
                  refine tk 9 (v := ?_) rfl (by kernel_rfl) (by kernel_rfl) (by kernel_rfl) (fun _ _ _ h => h) rfl ?_ hS ?_; rotate_left; (focus (intro w hSw; (try dsimp only at hSw);  go_simp; (try with_reducible rfl))); (try simp only [Act.put, List.setIfInBounds_toArray, List.set_cons_zero, List.set_cons_succ])
                  refine only 10 rfl (by kernel_rfl) rfl (fun K hK => ?_)
                  go_simp
                  refine hK.out _ _ hS (fun _ => ?_)
                  clear hK
                  try simp only [Act.put, List.setIfInBounds_toArray, List.set_cons_zero, List.set_cons_succ]
                  refine tk 16 (v := ?_) rfl (by kernel_rfl) (by kernel_rfl) (by kernel_rfl) (fun _ _ _ h => h) rfl ?_ hS ?_; rotate_left; (focus (intro w hSw; (try dsimp only at hSw);  go_simp; (try with_reducible rfl))); (try simp only [Act.put, List.setIfInBounds_toArray, List.set_cons_zero, List.set_cons_succ])
                  refine only 17 rfl (by kernel_rfl) rfl (fun K hK => ?_)
                  go_simp
                  refine hK.out _ _ hS (fun _ => ?_)
                  clear hK
                  try simp only [Act.put, List.setIfInBounds_toArray, List.set_cons_zero, List.set_cons_succ]
                  refine tk 18 (v := ?_) rfl (by kernel_rfl) (by kernel_rfl) (by kernel_rfl) (fun _ _ _ h => h) rfl ?_ hS ?_; rotate_left; (focus (intro w hSw; (try dsimp only at hSw);  go_simp; (try with_reducible rfl))); (try simp only [Act.put, List.setIfInBounds_toArray, List.set_cons_zero, List.set_cons_succ])
                  refine wpAnyH_done (by kernel_rfl) ?_ _
                  have S15 := hid hS
                  have CE4 := hid hE
                  clear hS hE hcell hto k0 k6 ek CE3
                  obtain ⟨w15, rfl⟩ : ∃ wo : World, wo = w := ⟨_, rfl⟩
                  have PI := hid (run_inv (mkP_inv (fun _ => 0) 0) HR.out)
                  obtain ⟨ar, har⟩ : ∃ ar, ar = apR q ⟨e1, e2, e3, e4, e5, ⟨e6, e7⟩⟩ := ⟨_, rfl⟩
                  have HLL3 : LL.length ≤ 6 := by rw [HN.out]; omega
                  have AP := hid (show ∀ w, Calls Try.prog 19 #[.agg (PA q), .agg #[.int .i64 e1, .int .i64 e2, .int .i64 e3, .int .i64 e4, .int .i64 e5, .int .u64 e6, .int .u64 e7]] w fun x w' => x = .returned (.tuple #[.agg (PA ar.1), .int .i64 ar.2]) ∧ Below w.heap.size w w' from by rw [har]; exact fun w => apply_any q ⟨e1, e2, e3, e4, e5, ⟨e6, e7⟩⟩ (PI.out.pb (by omega)) w)
                  have HAR := hid (show ar = apR q (mvE (k + 1) (s : Int)) from by rw [har, HEE.out])
                  clear har
                  go_upto_region 23 with (fail)
                  have LP := (SG.get S15.out (b := P) (p := q) (by simp)).loadA
                  have y0 := CE4.out.2.1 0 _ rfl
                  have y1 := CE4.out.2.1 1 _ rfl
                  have y2 := CE4.out.2.1 2 _ rfl
                  have y3 := CE4.out.2.1 3 _ rfl
                  have y4 := CE4.out.2.1 4 _ rfl
                  have y5 := CE4.out.2.1 5 _ rfl
                  have y6 := CE4.out.2.1 6 _ rfl
                  go_wp2_with ((with_reducible refine wl_id ?_); refine wl_load rfl rfl rfl LP ?_)
                  refine (AP.out _).mono ?_
                  rintro x w16 ⟨rfl, hb⟩
                  have S16 := hid (S15.out.below hb)
                  clear hb S15 LP AP CE4 y0 y1 y2 y3 y4 y5 y6
                  have ST := hid ((sg_new (w := w16) (T := 34)).storeA ar.1)
                  have S17 := hid (SG.put S16.out (T := 34) zPl ar.1 (by simp))
                  go_upto_region 24 with ((with_reducible refine wl_id ?_); refine wl_store rfl rfl rfl rfl ST.out ?_)
                  clear ST S16
                  generalize (w16.alloc (.cells (PA zPl) 34)).setCells w16.heap.size 0 (PA ar.1).toList = w17 at *
                  generalize w16.heap.size = U at *
                  have hf := HF.out
                  rw [← HX.out, ← HTO.out, ← HAR.out] at hf
                  clear HF
                  by_cases ck : tv < 0
                  · rw [if_pos ck] at hf
                    have hz : ar.1 = zPl := by rw [HAR.out]; exact apR_no (by rw [← HAR.out, hf]; decide)
                    have LR := (SG.get S17.out (b := U) (p := ar.1) (by simp)).loadA
                    rw [hz] at LR
                    have BB := hid S17.out.bl
                    clear S17 hz
                    go_wp2_with (first | ((with_reducible refine wl_id ?_); refine wl_load rfl rfl rfl LR ?_) | ((with_reducible refine wl_id ?_); refine wl_build0 rfl rfl (build_zz _) ?_) | ((with_reducible refine wl_id ?_); refine wl_val rfl (ex_eql _ _ rfl zPl rfl rfl _) ?_))
                    go_ret
                    exact ⟨rfl, BB.out⟩
                  · rw [if_neg ck] at hf
                    have BB := hid S17.out.bl
                    have QP := SG.get S17.out (b := P) (p := q) (by simp)
                    have QU := SG.get S17.out (b := U) (p := ar.1) (by simp)
                    have c4 : w17.cell? ⟨P, 3 + s * 5 + 4, none⟩ = some (.int .i64 (q.s s).si) := QP.cs s 4 (by omega) (by omega)
                    have hHF := hid hf
                    clear hf S17
                    by_cases hk4 : k = 4
                    · have d1 : (1 + (k : Int) == 5) = true := by simp; omega
                      obtain ⟨si, hsi⟩ : ∃ x : Int, x = (q.s s).si := ⟨_, rfl⟩
                      rw [← hsi] at c4
                      have HSI := hid hsi
                      clear hsi
                      by_cases c5 : (1 : Int) < si
                      · have hf := hHF.out
                        rw [if_pos ⟨by omega, by rw [← HSI.out]; exact c5⟩] at hf
                        clear QP QU
                        go_wp2_with fail
                        go_ret
                        exact ⟨rfl, BB.out⟩
                      · have hf := hHF.out
                        rw [if_neg (fun h => c5 (by rw [HSI.out]; exact h.2))] at hf
                        obtain ⟨f1, f2, f3⟩ := hf
                        obtain ⟨pv1, pv2⟩ := PI.out.1
                        have u0 : w17.cell? ⟨U, 3 + s * 5, none⟩ = some (.int .i64 tv) := by rw [← f2]; exact QU.cs s 0 (by omega) (by omega)
                        have u1 : w17.cell? ⟨U, 0, none⟩ = some (.int .i64 (q.v + 1)) := by rw [← f3]; exact QU.c0
                        have u2 : w17.cell? ⟨P, 0, none⟩ = some (.int .i64 q.v) := QP.c0
                        have ew : IntKind.i64.wrap (q.v + 1) = q.v + 1 := IntWalk.i64_in _ (by omega)
                        clear QP QU f2 f3
                        go_wp2_with fail
                        go_ret
                        exact ⟨rfl, BB.out⟩
                    · have d1 : (1 + (k : Int) == 5) = false := by simp; omega
                      have hf := hHF.out
                      rw [if_neg (fun h => by have := h.1; omega)] at hf
                      obtain ⟨f1, f2, f3⟩ := hf
                      obtain ⟨pv1, pv2⟩ := PI.out.1
                      have u0 : w17.cell? ⟨U, 3 + s * 5, none⟩ = some (.int .i64 tv) := by rw [← f2]; exact QU.cs s 0 (by omega) (by omega)
                      have u1 : w17.cell? ⟨U, 0, none⟩ = some (.int .i64 (q.v + 1)) := by rw [← f3]; exact QU.c0
                      have u2 : w17.cell? ⟨P, 0, none⟩ = some (.int .i64 q.v) := QP.c0
                      have ew : IntKind.i64.wrap (q.v + 1) = q.v + 1 := IntWalk.i64_in _ (by omega)
                      clear QP QU f2 f3
                      go_wp2_with fail
                      go_ret
                      exact ⟨rfl, BB.out⟩

set_option maxRecDepth 100000 in
theorem lifted (os : Os) (started : os.Started) (H : Type) (enc : TypeId × Value → H) :
    ReturnsInHanded {} Try.checked os 8 .any (Rows.poolMovesSpec.pre6 enc Try.prog Try.f8 [] false) (Rows.poolMovesSpec.post enc Try.prog Try.f8 false true false false) :=
  law_step (s := Rows.poolMovesSpec) started (by kernel_rfl) Try.func8
    (ChangeSpec.witness6 (s := Rows.poolMovesSpec) (enc := enc) (C := Try.checked) false ⟨#[], #[.int .i64 0, .int .i64 0, .int .i64 0, .int .i64 0], []⟩ 8 (by kernel_rfl) (by kernel_rfl) (by kernel_rfl) (by kernel_rfl))
    rfl (by rw [Try.params8]; decide +kernel) rfl Try.underlying4
    (fun ds h => by
      rw [Try.params8] at h
      match ds, h with
      | [_, _, _, _], _ => rfl)
    (fun W base args ds ps hval hA hsz => by
      rw [Try.params8] at hA hval hsz
      obtain ⟨v0, vs0, d0, ds0, p0, q0, hargs, rfl, rfl, h0, r0⟩ := trodAll_cons hA
      obtain ⟨v1, vs1, d1, ds1, p1, q1, rfl, rfl, rfl, h1, r1⟩ := trodAll_cons r0
      obtain ⟨v2, vs2, d2, ds2, p2, q2, rfl, rfl, rfl, h2, r2⟩ := trodAll_cons r1
      obtain ⟨v3, vs3, d3, ds3, p3, q3, rfl, rfl, rfl, h3, r3⟩ := trodAll_cons r2
      obtain ⟨rfl, rfl, rfl⟩ := trodAll_nil r3
      obtain rfl : args = #[v0, v1, v2, v3] := by cases args; simp_all
      obtain ⟨a0, rfl, rfl, rfl, w0⟩ := open_int Try.underlying3 (hval 0 3 v0 rfl rfl) h0
      obtain ⟨a1, rfl, rfl, rfl, w1⟩ := open_int Try.underlying3 (hval 1 3 v1 rfl rfl) h1
      obtain ⟨a2, rfl, rfl, rfl, w2⟩ := open_int Try.underlying3 (hval 2 3 v2 rfl rfl) h2
      obtain ⟨a3, rfl, rfl, rfl, w3⟩ := open_int Try.underlying3 (hval 3 3 v3 rfl rfl) h3
      exact walk W a0 (bounds_i64 w0) a1 (bounds_i64 w1) a2 (bounds_i64 w2) a3 (bounds_i64 w3))

theorem proved : Rows.PoolMovesSaid :=
  OpenClaim.holds_of_wide 8 Try.f8 rfl rfl rfl rfl rfl rfl rfl ⟨rfl, rfl, rfl, rfl, rfl⟩ rfl rfl rfl rfl rfl (by kernel_rfl) Try.func8 (by kernel_rfl)
    (of_decide_eq_true (by kernel_rfl)) (by unfold Func.isWrapper; first | (rw [if_pos (by decide +kernel)]; kernel_rfl) | (rw [if_neg (by decide +kernel)]; exact ⟨rfl, rfl⟩))
    (fun os started H enc _ => lifted os started H enc)
end Go.Proofs.Ytdobcdhdeagekaa.poolMoves
