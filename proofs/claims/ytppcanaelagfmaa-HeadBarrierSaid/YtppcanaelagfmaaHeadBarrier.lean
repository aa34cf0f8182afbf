/- roundhouselaw11.HeadBarrier answers true for every row, any three numbers; no condition. -/
import Derived.Test.YtppcanaelagfmaaHdKnown
import Derived.BigQuiet
import Derived.Deep.RegionHeld3
import Derived.Deep.Cut
import Derived.Deep.CutRange
import Derived.IntWalk
namespace Go.Proofs.Ytppcanaelagfmaa.headBarrier
set_option linter.unusedVariables false
set_option linter.unusedSimpArgs false
open Go.RowKit Go.ChangeShapes Go.WideShapes Go.ChangeAt

def eR (j : Nat) : En := ⟨6, 0, 0, 0, 0, ⟨j, 0⟩⟩
def rp (p : Pl) : Nat → Pl
  | 0 => p
  | j + 1 => nxP (rp p j) (eR j)
theorem rp_inv {p : Pl} (h : Pinv p 30) : ∀ j : Nat, Pinv (rp p j) (30 + j)
  | 0 => h
  | j + 1 => (nxP_inv (rp_inv h j) (eR j) (show (0 : Int).toNat < 64 by decide)).mono (by omega)
def hB (p : Pl) (u j : Nat) (f : Nat → Wd) : Hd := ⟨p, rp p j, (List.range j).map eR, zEn, u, f⟩
theorem wishB (p : Pl) (j : Nat) : AllOut (rp p j) (gl [eR j]) 1 (rp p (j + 1)) 1 0 := by
  refine ⟨?_, .inl ⟨rfl, rfl⟩⟩
  have h1 : runP (rp p j) (gl [eR j]) 1 = if (apR (rp p j) (eR j)).2 = 0 then some (apR (rp p j) (eR j)).1 else none := rfl
  rw [h1, show apR (rp p j) (eR j) = (nxP (rp p j) (eR j), 0) from q_rot _ _]
  rfl
theorem sB {p : Pl} {u j w : Nat} {f : Nat → Wd} (hw : w < u) (hf : f w = ⟨0, -1⟩) (hv : 0 ≤ p.v) : sendH (hB p u j f) = hB p u j f := by
  unfold sendH
  rw [show allB (hB p u j f) = false from all_no (hB p u j f) w u hw (by show ¬ (f w).v = p.v; rw [hf]; show ¬ (-1 : Int) = p.v; omega)]
  rfl
theorem heardB {p : Pl} {u j k : Nat} {f : Nat → Wd} {pv : Int} (hp : p.v = pv) (hk : k < u) (hf : f k = ⟨0, -1⟩ ∨ f k = ⟨0, pv⟩) (hv : 0 ≤ pv) : heardH (hB p u j f) ⟨(k : Int), 0, pv, false, true, zEn, zPl⟩ = hB p u j (setW f k ⟨0, pv⟩) := by
  have h1 : mx pv = pv := by unfold mx; rw [if_neg (by omega)]
  have h2 : (k : Int) < u := by omega
  have h3 : (0 : Int) ≤ k := by omega
  unfold heardH earB hB
  simp only [h2, h3, h1, decide_true, Bool.and_self, if_true, Int.toNat_natCast]
  rcases hf with hf | hf
  · rw [hf, if_pos (by unfold cntB; simp; omega)]
  · rw [hf, if_neg (by unfold cntB; simp)]
    have : setW f k ⟨0, pv⟩ = f := by
      funext x
      unfold setW
      by_cases e : x = k
      · rw [if_pos e, e, hf]
      · rw [if_neg e]
    rw [this]
def hZ (p : Pl) (u : Nat) (f : Nat → Wd) : Hd := ⟨nxP p (eR 0), rp p 3, [eR 1, eR 2], eR 0, u, f⟩
theorem sZ {p : Pl} {u : Nat} {f : Nat → Wd} (hf : ∀ i, i < u → f i = ⟨0, p.v⟩) : sendH (hB p u 3 f) = hZ p u f := by
  unfold sendH
  have h1 : allB (hB p u 3 f) = true := by
    unfold allB
    rw [List.all_eq_true]
    intro i hi
    show ((f i).v == p.v) = true
    rw [hf i (by simpa [hB] using hi)]
    simp
  rw [if_pos h1]
  show pubH (hB p u 3 f) = _
  have h2 : pubH (hB p u 3 f) = if (apR p (eR 0)).2 = 0 then { hB p u 3 f with pl := (apR p (eR 0)).1, la := eR 0, q := [eR 1, eR 2] } else { hB p u 3 f with q := [eR 1, eR 2] } := rfl
  rw [h2, show apR p (eR 0) = (nxP p (eR 0), 0) from q_rot _ _]
  rfl
theorem build_nt024F (u v : Int) (w : World) : (Instr.build 58 #[(0, .int .i64 u), (2, .int .i64 v), (4, .bool true)]).run Try.prog w = .ok (.agg (FA 342 (ntc ⟨u, 0, v, false, true, zEn, zPl⟩))) w := run_build w _ _ _ (by kernel_rfl)
/-- What is known of the words ahead of the last: one is not heard. -/
def WB (pv : Int) (w : Nat) (f : Nat → Wd) : Prop := f w = ⟨0, -1⟩ ∧ ∀ i, f i = ⟨0, -1⟩ ∨ f i = ⟨0, pv⟩
theorem WB.set {pv : Int} {w k : Nat} {f : Nat → Wd} (h : WB pv w f) (hk : k ≠ w) : WB pv w (setW f k ⟨0, pv⟩) := by
  refine ⟨?_, fun i => ?_⟩
  · unfold setW; rw [if_neg (Ne.symm hk)]; exact h.1
  · unfold setW
    by_cases e : i = k
    · rw [if_pos e]; exact .inr rfl
    · rw [if_neg e]; exact h.2 i
theorem set_up {pv : Int} {w k : Nat} {f : Nat → Wd} (h : ∀ i, i < k → i ≠ w → f i = ⟨0, pv⟩) : ∀ i, i < k + 1 → i ≠ w → setW f k ⟨0, pv⟩ i = ⟨0, pv⟩ := by
  intro i hi hw
  unfold setW
  by_cases e : i = k
  · rw [if_pos e]
  · rw [if_neg e]; exact h i (by omega) hw
theorem set_keep {pv : Int} {w k : Nat} {f : Nat → Wd} (n : Nat) (h : ∀ i, i < n → i ≠ w → f i = ⟨0, pv⟩) : ∀ i, i < n → i ≠ w → setW f k ⟨0, pv⟩ i = ⟨0, pv⟩ := by
  intro i hi hw
  unfold setW
  by_cases e : i = k
  · rw [if_pos e]
  · rw [if_neg e]; exact h i hi hw
attribute [local irreducible] FA FL
set_option maxRecDepth 100000 in
set_option maxHeartbeats 8000000 in
theorem walk (W : World) (A1 : Option Addr) (n1 c1 : Nat) (g1 : Nat → Int) (hn1 : n1 ≤ c1) (hc1 : c1 ≤ maxLen) (hr1 : Is W A1 n1 g1) (hg1 : IsI g1) (hl1 : ∀ ad, A1 = some ad → 0 < n1 → ad.block < W.heap.size) (re1 : c1 * 8 ≤ 140737488351232) (a0 : Int) (r_a0 : -9223372036854775808 ≤ a0 ∧ a0 ≤ 9223372036854775807) (b0 : Int) (r_b0 : -9223372036854775808 ≤ b0 ∧ b0 ≤ 9223372036854775807) (d_ : Int) (r_d_ : -9223372036854775808 ≤ d_ ∧ d_ ≤ 9223372036854775807) :
    Calls Try.prog 4 #[.slice A1 n1 c1, .int .i64 a0, .int .i64 b0, .int .i64 d_] W fun e w' => e = .returned (.bool true) ∧ Below W.heap.size W w' := by
  unfold maxLen at hc1
  have hnm : (n1 : Int) ≤ 9223372036854775807 := by have := hn1; omega
  have HL := hid hl1
  clear hl1 re1
  obtain ⟨p, hp⟩ : ∃ p, p = mkP g1 (min n1 30) := ⟨_, rfl⟩
  have HQ := hid (show Pinv p 30 from by rw [hp]; exact (mkP_inv g1 _).mono (by omega))
  have MK := hid (fun (w : World) (h : Is w A1 n1 g1) (hl : ∀ ad, A1 = some ad → 0 < n1 → ad.block < w.heap.size) => (show Calls Try.prog 13 #[.slice A1 n1 c1, .int .i64 30] w fun x w' => x = .returned (.agg (FA 330 (pc p))) ∧ Below w.heap.size w w' from by rw [hp]; exact make_fa w A1 n1 c1 g1 h hl hnm 30 (by omega)))
  clear hp
  obtain ⟨x0, hx0⟩ : ∃ x : Nat, (x : Int) = wi a0 6 := ⟨(wi a0 6).toNat, by have := wi_bd a0 6 (by omega); omega⟩
  have bx0 := wi_bd a0 6 (by omega)
  rw [← hx0] at bx0
  have Wx0 := hid (fun w => re_i64 (within_any a0 6 w (by omega) (by omega)) hx0.symm)
  clear hx0
  obtain ⟨bx01, bx02⟩ := bx0
  obtain ⟨u, hu⟩ : ∃ u : Nat, u = 2 + x0 := ⟨_, rfl⟩
  have hu1 : 2 ≤ u := by omega
  have hu2 : u ≤ 7 := by omega
  have HUX := hid (show (2 : Int) + x0 = u from by omega)
  obtain ⟨w0, hw0⟩ : ∃ x : Nat, (x : Int) = wi b0 u := ⟨(wi b0 u).toNat, by have := wi_bd b0 u (by omega); omega⟩
  have bw0 := wi_bd b0 u (by omega)
  rw [← hw0] at bw0
  have Ww0 := hid (fun w => re_i64 (within_any b0 u w (by omega) (by omega)) hw0.symm)
  clear hw0
  obtain ⟨bw01, bw02⟩ := bw0
  have hw : w0 < u := by omega
  obtain ⟨t0, ht0⟩ : ∃ x : Nat, (x : Int) = wi d_ 6 := ⟨(wi d_ 6).toNat, by have := wi_bd d_ 6 (by omega); omega⟩
  have bt0 := wi_bd d_ 6 (by omega)
  rw [← ht0] at bt0
  have Wt0 := hid (fun w => re_i64 (within_any d_ 6 w (by omega) (by omega)) ht0.symm)
  clear ht0
  obtain ⟨bt01, bt02⟩ := bt0
  obtain ⟨pv, hpv⟩ : ∃ x, p.v = x := ⟨_, rfl⟩
  have HPV := hid hpv
  have hv1 : 0 ≤ pv := by rw [← hpv]; exact HQ.out.1.1
  have hv2 : pv ≤ 30 := by rw [← hpv]; exact HQ.out.1.2
  clear hpv
  have S0 : Hid (HS [] W W []) := hid HS.start
  go_enter Try.func4, Try.ntmps4
  go_wp2_with fail
  refine (hknown_any _).mono ?_
  rintro x w1 ⟨rfl, hB⟩
  have R1 := hid (hr1.below hB (Nat.le_refl _))
  have B1 := hid hB
  have S1 : Hid (HS [] W w1 []) := hid (S0.out.below hB)
  clear hr1 hB S0
  go_wp2_with fail
  refine (MK.out _ R1.out (fun ad e h => Nat.lt_of_lt_of_le (HL.out ad e h) B1.out.size)).mono ?_
  rintro x w2 ⟨rfl, hb⟩
  have S2 : Hid (HS [] W w2 []) := hid (S1.out.below hb)
  clear hb S1 MK
  go_simp
  go_upto_region 4 with (first | ((with_reducible refine wl_id ?_); refine wl_ow rfl (ow_alloc rfl (zpl_fa _) (by omega) S2.out ?_); intro P w_ hZ _; have SA := hid hZ; clear hZ) | ((with_reducible refine wl_id ?_); refine wl_ow rfl (ow_store (A := []) 0 330 (pc p) (pc p) rfl rfl rfl SA.out (by omega) (fun j hj => patch_all _ _ _ j hj) info_pl (pc_one _) ?_); intro w_ hZ; have SX := hid hZ; clear hZ))
  have S3 : Hid (HS [] W _ [thB P 330 (pc p)]) := hid (SX.out)
  go_wp2_with fail
  refine (Wx0.out _).mono ?_
  rintro x w_ ⟨rfl, rfl⟩
  go_simp
  clear hu
  go_upto_region 5 with (fail)
  rw [HUX.out]
  have NW := hid (hnew_fa p (u) ⟨by omega, by omega⟩)
  go_wp2_with ((with_reducible refine wl_id ?_); refine wl_ow rfl (ow_load 0 rfl 0 330 (pc p) rfl rfl S3.out (by omega) (fun j hj => by rw [Nat.zero_add]) Try.underlying33 rfl info_pl ?_))
  refine (NW.out _).mono ?_
  rintro x w103 ⟨b, c, m, rfl, hH, hg1, hg2, hg3, hB⟩
  have S4 : Hid (HS [] W w103 [thH b c m (u) (newH p (u)), thB P 330 (pc p)]) := hid (HS.addH S3.out hH hg1 hg2 hg3 hB)
  clear hH hg1 hg2 hg3 hB NW S3
  go_simp
  go_wp2_with fail
  refine (Ww0.out _).mono ?_
  rintro x w_ ⟨rfl, rfl⟩
  go_simp
  go_wp2_with fail
  have T0 : Hid (HS [] W _ [thH b c m u (hB p u 0 (fun _ => ⟨0, -1⟩)), thB P 330 (pc p)]) := hid S4.out
  go_loopw [14] (fun i wx => ∃ k : Nat, k ≤ 3 ∧ i = .int .i64 (k : Int) ∧ HS [] W wx [thH b c m u (hB p u k (fun _ => ⟨0, -1⟩)), thB P 330 (pc p)]) (fun i _ => 3 - (intOf i).toNat)
  case atStart => exact ⟨0, by omega, rfl, T0.out⟩
  case round =>
    clear T0 S4
    obtain ⟨k, hk, rfl, hS⟩ := hrel
    have U0 := hid hS
    clear hS
    by_cases hlt : (k : Int) < 3
    · go_wp2_with fail
      have SE := se_made (w := wr) [eR k] (T := 44) rfl
      have U1 : Hid (HS [] W (wr.alloc (.cells #[.int .i64 6, .int .i64 0, .int .i64 0, .int .i64 0, .int .i64 0, .int .u64 (k : Int), .int .u64 0] 44)) [thC wr.heap.size [.int .i64 6, .int .i64 0, .int .i64 0, .int .i64 0, .int .i64 0, .int .u64 (k : Int), .int .u64 0], thH b c m u (hB p u k (fun _ => ⟨0, -1⟩)), thB P 330 (pc p)]) := hid (U0.out.cells (T := 44) [.int .i64 6, .int .i64 0, .int .i64 0, .int .i64 0, .int .i64 0, .int .u64 (k : Int), .int .u64 0])
      refine (wish_any (U1.out.nth 1 rfl : HeadAt _ b c m u (hB p u k (fun _ => ⟨0, -1⟩))) (gl [eR k]) _ 1 1 SE (fun ad e h0 => ?_) (show ((List.range k).map eR).length + 1 ≤ 200 by simp; omega) (30 + k) (rp_inv HQ.out k) (by omega)).mono ?_
      · injection e with e
        subst e
        have h1 : HeadAt wr b c m u (hB p u k (fun _ => ⟨0, -1⟩)) := U0.out.nth 0 rfl
        have := h1.lt
        have := h1.ltc
        have := h1.ltm
        simp
        omega
      rintro x w6 ⟨q_, j_, er_, ho, rfl, hH, hC⟩
      obtain ⟨a, b', c'⟩ := ho.uniq (wishB p k)
      subst a; subst b'; subst c'
      rw [if_pos rfl] at hH
      have hH2 : HeadAt w6 b c m u (hB p u (k + 1) (fun _ => ⟨0, -1⟩)) := by unfold hB; rw [show (List.range (k + 1)).map eR = (List.range k).map eR ++ [eR k] by rw [List.range_succ, List.map_append]; rfl]; exact hH
      have U2 : Hid (HS [] W w6 [thH b c m u (hB p u (k + 1) (fun _ => ⟨0, -1⟩)), thB P 330 (pc p)]) := hid (HS.tail (HS.upd (A := [thC wr.heap.size [.int .i64 6, .int .i64 0, .int .i64 0, .int .i64 0, .int .i64 0, .int .u64 (k : Int), .int .u64 0]]) (B := [thB P 330 (pc p)]) U1.out (thH b c m u (hB p u (k + 1) (fun _ => ⟨0, -1⟩))) rfl hC hH2))
      clear hH hH2 hC ho SE U1 U0
      go_simp
      go_wp2_with fail
      go_roundw
      case rel => exact ⟨k + 1, by omega, by go_num, U2.out⟩
      case measure => simp [intOf]; omega
    · have hk3 : k = 3 := by omega
      subst hk3
      clear hlt hk
      go_wp2_with fail
      go_loopg [15, 16] (1 + t0) (fun gh i i2 wx => ∃ (k n : Nat) (f : Nat → Wd), gh = 1 + t0 - k ∧ k ≤ 1 + t0 ∧ n ≤ 7 + 8 * k ∧ i = .int .i64 (k : Int) ∧ WB pv w0 f ∧ (0 < k → ∀ j, j < u → j ≠ w0 → f j = ⟨0, pv⟩) ∧ HS [] W wx [thH b c m n (hB p u 3 f), thB P 330 (pc p)])
      case atStart => exact ⟨0, u, _, by omega, by omega, by omega, rfl, ⟨rfl, fun _ => .inl rfl⟩, fun h => absurd h (by omega), U0.out⟩
      case round =>
        clear U0
        obtain ⟨k, n, f, hgh, hk, hn, rfl, hWB, hdone, hS⟩ := hrel
        have U0 := hid hS
        have HWB := hid hWB
        have HD := hid hdone
        clear hS hWB hdone
        have VA := hid (show ∀ (w : World) (n : Nat) (g : Nat → Wd), HeadAt w b c m n (hB p u 3 g) → Calls Try.prog 21 #[.pointer (some ⟨b, 0, none⟩)] w fun x w' => x = .returned (.int .i64 pv) ∧ w = w' from fun w n g h => by rw [← HPV.out]; exact version_any h)
        by_cases hlt : (k : Int) < 1 + t0
        · go_wp2_with fail
          refine (Wt0.out _).mono ?_
          rintro x w_ ⟨rfl, rfl⟩
          go_simp
          go_wp2_with fail
          refine (send_fa (U0.out.nth 0 rfl : HeadAt _ b c m n (hB p u 3 f)) (show u ≤ 16 by omega) (HQ.out.pb (by omega)) (by rw [sB hw HWB.out.1 HQ.out.1.1]; exact ⟨HQ.out.1.1, Int.le_trans HQ.out.1.2 (by omega)⟩) (hB p u 3 f) _ (sB hw HWB.out.1 HQ.out.1.1) rfl).mono ?_
          rintro x w7 ⟨A7, cc7, rfl, hlc, hH, hC, hrow⟩
          have U1 : Hid (HS [] W w7 [thH b c m n (hB p u 3 f), thB P 330 (pc p)]) := hid (HS.upd (A := []) (B := [thB P 330 (pc p)]) U0.out (thH b c m n (hB p u 3 f)) rfl hC hH)
          clear hlc hH hC hrow U0
          go_simp
          go_wp2_with fail
          go_loopw [16] (fun i wx => ∃ (j n2 : Nat) (g : Nat → Wd), j ≤ u ∧ n2 ≤ 7 + 8 * k + j ∧ i = .int .i64 (j : Int) ∧ WB pv w0 g ∧ (∀ i, i < j → i ≠ w0 → g i = ⟨0, pv⟩) ∧ HS [] W wx [thH b c m n2 (hB p u 3 g), thB P 330 (pc p)]) (fun i _ => u - (intOf i).toNat)
          case atStart => exact ⟨0, n, f, by omega, by omega, rfl, HWB.out, fun i hi => absurd hi (Nat.not_lt_zero _), U1.out⟩
          case round =>
            clear U1
            obtain ⟨j, n2, g, hj, hn2, rfl, hWB, hup, hS⟩ := hrel
            have U2 := hid hS
            have HWG := hid hWB
            have HUP := hid hup
            clear hS hWB hup
            by_cases hlj : (j : Int) < u
            · by_cases hjw : j = w0
              · have hjb : ((j : Int) != (w0 : Int)) = false := by simp [hjw]
                have HJW := hid hjw
                clear hjw
                go_wp2_with fail
                go_roundw
                case rel => exact ⟨j + 1, n2, g, by omega, by omega, by go_num, HWG.out, fun i hi hne => HUP.out i (by have := HJW.out; omega) hne, U2.out⟩
                case measure => simp [intOf]; omega
              · have hjb : ((j : Int) != (w0 : Int)) = true := by simp; omega
                have HJW := hid hjw
                clear hjw
                go_upto_region 22 with (fail)
                apply wp_region_lit
                refine wl_val (v := ?_) rfl ?_ ?_; rotate_left; (focus ( go_simp; (try with_reducible rfl))); (try simp only [Act.put, List.setIfInBounds_toArray, List.set_cons_zero, List.set_cons_succ])
                refine wl_val (v := ?_) rfl ?_ ?_; rotate_left; (focus ( go_simp; (try with_reducible rfl))); (try simp only [Act.put, List.setIfInBounds_toArray, List.set_cons_zero, List.set_cons_succ])
                refine wl_val (v := ?_) rfl ?_ ?_; rotate_left; (focus ( go_simp; (try with_reducible rfl))); (try simp only [Act.put, List.setIfInBounds_toArray, List.set_cons_zero, List.set_cons_succ])
                go_wp2_with fail
                refine (VA.out _ _ _ (U2.out.nth 0 rfl)).mono ?_
                rintro x w_ ⟨rfl, rfl⟩
                go_simp
                apply_assumption
                refine wl_build3 rfl rfl rfl rfl rfl (build_nt024F (j : Int) pv _) ?_
                try simp only [Act.put, List.setIfInBounds_toArray, List.set_cons_zero, List.set_cons_succ]
                go_wp2_with fail
                refine (heard_fa (U2.out.nth 0 rfl : HeadAt _ b c m n2 (hB p u 3 g)) ⟨(j : Int), 0, pv, false, true, zEn, zPl⟩ (show u ≤ 16 by omega) (by omega) (hB p u 3 (setW g j ⟨0, pv⟩)) (heardB HPV.out (by omega) (HWG.out.2 j) hv1)).mono ?_
                rintro x w8 ⟨rfl, hH, hC⟩
                have U3 : Hid (HS [] W w8 [thH b c m (n2 + 1) (hB p u 3 (setW g j ⟨0, pv⟩)), thB P 330 (pc p)]) := hid (HS.upd (A := []) (B := [thB P 330 (pc p)]) U2.out (thH b c m (n2 + 1) (hB p u 3 (setW g j ⟨0, pv⟩))) rfl hC hH)
                clear hH hC U2
                go_simp
                go_wp2_with fail
                go_roundw
                case rel => exact ⟨j + 1, n2 + 1, _, by omega, by omega, by go_num, HWG.out.set HJW.out, set_up HUP.out, U3.out⟩
                case measure => simp [intOf]; omega
            · have hju : j = u := by omega
              subst hju
              go_upto_region 23 with (fail)
              have cp := hid (show ∀ w, Fb w P 330 (pc p) → w.cell? ⟨P, 0, none⟩ = some (.int .i64 pv) from fun w h => by rw [← HPV.out]; exact h.2.1 0 (by omega))
              have WA := hid (show ∀ (w : World), HeadAt w b c m n2 (hB p j 3 g) → Calls Try.prog 19 #[.pointer (some ⟨b, 0, none⟩)] w fun x w' => x = .returned (.int .i64 3) ∧ w = w' from fun w h => waiting_any h)
              refine wp_region_held_drew (S := fun (w' : World) => HS [] W w' [thH b c m n2 (hB p j 3 g), thB P 330 (pc p)]) (by kernel_rfl) ?_ (fun hHeld => ?_)
              · exact U2.out.drew
              refine tk 0 (v := ?_) rfl (by kernel_rfl) (by kernel_rfl) (by kernel_rfl) (fun _ _ _ h => h) rfl ?_ hHeld ?_; rotate_left; (focus (intro w hSw; (try dsimp only at hSw);  go_simp; (try with_reducible rfl))); (try simp only [Act.put, List.setIfInBounds_toArray, List.set_cons_zero, List.set_cons_succ])
              refine tk 2 (v := ?_) rfl (by kernel_rfl) (by kernel_rfl) (by kernel_rfl) (fun _ _ _ h => h) rfl ?_ hHeld ?_; rotate_left; (focus (intro w hSw; (try dsimp only at hSw);  go_simp; (try with_reducible rfl))); (try simp only [Act.put, List.setIfInBounds_toArray, List.set_cons_zero, List.set_cons_succ])
              refine tk 3 (v := ?_) rfl (by kernel_rfl) (by kernel_rfl) (by kernel_rfl) (fun _ _ _ h => h) rfl ?_ hHeld ?_; rotate_left; (focus (intro w hSw; (try dsimp only at hSw); have x0 := cp.out _ (hSw.fb 1 rfl); go_simp; (try with_reducible rfl))); (try simp only [Act.put, List.setIfInBounds_toArray, List.set_cons_zero, List.set_cons_succ])
              refine only 1 rfl (by kernel_rfl) rfl (fun K hK => ?_)
              go_simp
              refine (VA.out _ _ _ (hHeld.nth 0 rfl)).mono ?_
              rintro e' w' ⟨rfl, rfl⟩
              try go_wp2_with fail
              refine hK.out _ _ (hHeld) (fun h2 => ?_)
              clear hK
              try simp only [Act.put, List.setIfInBounds_toArray, List.set_cons_zero, List.set_cons_succ]
              refine tk 4 (v := ?_) rfl (by kernel_rfl) (by kernel_rfl) (by kernel_rfl) (fun _ _ _ h => h) rfl ?_ h2 ?_; rotate_left; (focus (intro w hSw; (try dsimp only at hSw);  go_simp; (try with_reducible rfl))); (try simp only [Act.put, List.setIfInBounds_toArray, List.set_cons_zero, List.set_cons_succ])
              refine tk 5 (v := ?_) rfl (by kernel_rfl) (by kernel_rfl) (by kernel_rfl) (fun _ _ _ h => h) rfl ?_ h2 ?_; rotate_left; (focus (intro w hSw; (try dsimp only at hSw);  go_simp; (try with_reducible rfl))); (try simp only [Act.put, List.setIfInBounds_toArray, List.set_cons_zero, List.set_cons_succ])
              refine tk 6 (v := ?_) rfl (by kernel_rfl) (by kernel_rfl) (by kernel_rfl) (fun _ _ _ h => h) rfl ?_ h2 ?_; rotate_left; (focus (intro w hSw; (try dsimp only at hSw);  go_simp; (try with_reducible rfl))); (try simp only [Act.put, List.setIfInBounds_toArray, List.set_cons_zero, List.set_cons_succ])
              refine only 7 rfl (by kernel_rfl) rfl (fun K hK => ?_)
              go_simp
              refine (WA.out _ (h2.nth 0 rfl)).mono ?_
              rintro e' w' ⟨rfl, rfl⟩
              try go_wp2_with fail
              refine hK.out _ _ (h2) (fun h3 => ?_)
              clear hK
              try simp only [Act.put, List.setIfInBounds_toArray, List.set_cons_zero, List.set_cons_succ]
              refine tk 8 (v := ?_) rfl (by kernel_rfl) (by kernel_rfl) (by kernel_rfl) (fun _ _ _ h => h) rfl ?_ h3 ?_; rotate_left; (focus (intro w hSw; (try dsimp only at hSw);  go_simp; (try with_reducible rfl))); (try simp only [Act.put, List.setIfInBounds_toArray, List.set_cons_zero, List.set_cons_succ])
              refine tk 9 (v := ?_) rfl (by kernel_rfl) (by kernel_rfl) (by kernel_rfl) (fun _ _ _ h => h) rfl ?_ h3 ?_; rotate_left; (focus (intro w hSw; (try dsimp only at hSw);  go_simp; (try with_reducible rfl))); (try simp only [Act.put, List.setIfInBounds_toArray, List.set_cons_zero, List.set_cons_succ])
              have U4 := hid h3
              clear h3 h2 hHeld U2
              refine wpAnyH_done (by kernel_rfl) ?_ _
              go_wp2_with fail
              go_roundg (1 + t0 - (k + 1))
              case rel => exact ⟨k + 1, n2, g, by omega, by omega, by omega, by go_num, HWG.out, fun _ => HUP.out, U4.out⟩
              case measure => omega
        · have HD2 := hid (HD.out (by omega))
          go_wp2_with fail
          refine (Wt0.out _).mono ?_
          rintro x w_ ⟨rfl, rfl⟩
          go_simp
          go_upto_region 25 with (fail)
          apply wp_region_lit
          refine wl_val (v := ?_) rfl ?_ ?_; rotate_left; (focus ( go_simp; (try with_reducible rfl))); (try simp only [Act.put, List.setIfInBounds_toArray, List.set_cons_zero, List.set_cons_succ])
          refine wl_val (v := ?_) rfl ?_ ?_; rotate_left; (focus ( go_simp; (try with_reducible rfl))); (try simp only [Act.put, List.setIfInBounds_toArray, List.set_cons_zero, List.set_cons_succ])
          refine wl_val (v := ?_) rfl ?_ ?_; rotate_left; (focus ( go_simp; (try with_reducible rfl))); (try simp only [Act.put, List.setIfInBounds_toArray, List.set_cons_zero, List.set_cons_succ])
          go_wp2_with fail
          refine (VA.out _ _ _ (U0.out.nth 0 rfl)).mono ?_
          rintro x w_ ⟨rfl, rfl⟩
          go_simp
          apply_assumption
          refine wl_build3 rfl rfl rfl rfl rfl (build_nt024F (w0 : Int) pv _) ?_
          try simp only [Act.put, List.setIfInBounds_toArray, List.set_cons_zero, List.set_cons_succ]
          go_wp2_with fail
          refine (heard_fa (U0.out.nth 0 rfl : HeadAt _ b c m n (hB p u 3 f)) ⟨(w0 : Int), 0, pv, false, true, zEn, zPl⟩ (show u ≤ 16 by omega) (by omega) (hB p u 3 (setW f w0 ⟨0, pv⟩)) (heardB HPV.out hw (.inl HWB.out.1) hv1)).mono ?_
          rintro x w8 ⟨rfl, hH, hC⟩
          have U3 : Hid (HS [] W w8 [thH b c m (n + 1) (hB p u 3 (setW f w0 ⟨0, pv⟩)), thB P 330 (pc p)]) := hid (HS.upd (A := []) (B := [thB P 330 (pc p)]) U0.out (thH b c m (n + 1) (hB p u 3 (setW f w0 ⟨0, pv⟩))) rfl hC hH)
          clear hH hC U0
          go_simp
          go_wp2_with fail
          have ALL : ∀ i, i < u → setW f w0 ⟨0, pv⟩ i = ⟨0, p.v⟩ := fun i hi => by rw [HPV.out]; unfold setW; by_cases e : i = w0; rw [if_pos e]; rw [if_neg e]; exact HD2.out i hi e
          have SZ := hid (sZ ALL)
          clear ALL
          refine (send_fa (U3.out.nth 0 rfl : HeadAt _ b c m (n + 1) (hB p u 3 (setW f w0 ⟨0, pv⟩))) (show u ≤ 16 by omega) (HQ.out.pb (by omega)) (by rw [SZ.out]; show 0 ≤ p.v + 1 ∧ p.v + 1 ≤ 1000000000; rw [HPV.out]; omega) (hZ p u (setW f w0 ⟨0, pv⟩)) _ SZ.out rfl).mono ?_
          rintro x w9 ⟨A9, cc9, rfl, hlc, hH, hC, hrow⟩
          have U4 : Hid (HS [] W w9 [thH b c m (n + 1) (hZ p u (setW f w0 ⟨0, pv⟩)), thB P 330 (pc p)]) := hid (HS.upd (A := []) (B := [thB P 330 (pc p)]) U3.out (thH b c m (n + 1) (hZ p u (setW f w0 ⟨0, pv⟩))) rfl hC hH)
          clear hlc hH hC hrow U3
          go_simp
          go_upto_region 27 with (fail)
          have VZ := hid (show ∀ (w : World), HeadAt w b c m (n + 1) (hZ p u (setW f w0 ⟨0, pv⟩)) → Calls Try.prog 21 #[.pointer (some ⟨b, 0, none⟩)] w fun x w' => x = .returned (.int .i64 (pv + 1)) ∧ w = w' from fun w h => by have h2 := version_any h; rw [show (hZ p u (setW f w0 ⟨0, pv⟩)).pl.v = pv + 1 from by rw [← HPV.out]; rfl] at h2; exact h2)
          have WZ := hid (show ∀ (w : World), HeadAt w b c m (n + 1) (hZ p u (setW f w0 ⟨0, pv⟩)) → Calls Try.prog 19 #[.pointer (some ⟨b, 0, none⟩)] w fun x w' => x = .returned (.int .i64 2) ∧ w = w' from fun w h => waiting_any h)
          have cp := hid (show ∀ w, Fb w P 330 (pc p) → w.cell? ⟨P, 0, none⟩ = some (.int .i64 pv) from fun w h => by rw [← HPV.out]; exact h.2.1 0 (by omega))
          refine wp_region_held_drew (S := fun (w' : World) => HS [] W w' [thH b c m (n + 1) (hZ p u (setW f w0 ⟨0, pv⟩)), thB P 330 (pc p)]) (by kernel_rfl) ?_ (fun hHeld => ?_)
          · exact U4.out.drew
          refine tk 0 (v := ?_) rfl (by kernel_rfl) (by kernel_rfl) (by kernel_rfl) (fun _ _ _ h => h) rfl ?_ hHeld ?_; rotate_left; (focus (intro w hSw; (try dsimp only at hSw);  go_simp; (try with_reducible rfl))); (try simp only [Act.put, List.setIfInBounds_toArray, List.set_cons_zero, List.set_cons_succ])
          refine tk 2 (v := ?_) rfl (by kernel_rfl) (by kernel_rfl) (by kernel_rfl) (fun _ _ _ h => h) rfl ?_ hHeld ?_; rotate_left; (focus (intro w hSw; (try dsimp only at hSw);  go_simp; (try with_reducible rfl))); (try simp only [Act.put, List.setIfInBounds_toArray, List.set_cons_zero, List.set_cons_succ])
          refine tk 3 (v := ?_) rfl (by kernel_rfl) (by kernel_rfl) (by kernel_rfl) (fun _ _ _ h => h) rfl ?_ hHeld ?_; rotate_left; (focus (intro w hSw; (try dsimp only at hSw); have x0 := cp.out _ (hSw.fb 1 rfl); go_simp; (try with_reducible rfl))); (try simp only [Act.put, List.setIfInBounds_toArray, List.set_cons_zero, List.set_cons_succ])
          refine tk 4 (v := ?_) rfl (by kernel_rfl) (by kernel_rfl) (by kernel_rfl) (fun _ _ _ h => h) rfl ?_ hHeld ?_; rotate_left; (focus (intro w hSw; (try dsimp only at hSw); have x9 : IntKind.i64.wrap (pv + 1) = pv + 1 := IntWalk.i64_in _ (by omega); go_simp; (try with_reducible rfl))); (try simp only [Act.put, List.setIfInBounds_toArray, List.set_cons_zero, List.set_cons_succ])
          refine only 1 rfl (by kernel_rfl) rfl (fun K hK => ?_)
          go_simp
          refine (VZ.out _ (hHeld.nth 0 rfl)).mono ?_
          rintro e' w' ⟨rfl, rfl⟩
          try go_wp2_with fail
          refine hK.out _ _ (hHeld) (fun h2 => ?_)
          clear hK
          try simp only [Act.put, List.setIfInBounds_toArray, List.set_cons_zero, List.set_cons_succ]
          refine tk 5 (v := ?_) rfl (by kernel_rfl) (by kernel_rfl) (by kernel_rfl) (fun _ _ _ h => h) rfl ?_ h2 ?_; rotate_left; (focus (intro w hSw; (try dsimp only at hSw);  go_simp; (try with_reducible rfl))); (try simp only [Act.put, List.setIfInBounds_toArray, List.set_cons_zero, List.set_cons_succ])
          refine tk 6 (v := ?_) rfl (by kernel_rfl) (by kernel_rfl) (by kernel_rfl) (fun _ _ _ h => h) rfl ?_ h2 ?_; rotate_left; (focus (intro w hSw; (try dsimp only at hSw);  go_simp; (try with_reducible rfl))); (try simp only [Act.put, List.setIfInBounds_toArray, List.set_cons_zero, List.set_cons_succ])
          refine tk 7 (v := ?_) rfl (by kernel_rfl) (by kernel_rfl) (by kernel_rfl) (fun _ _ _ h => h) rfl ?_ h2 ?_; rotate_left; (focus (intro w hSw; (try dsimp only at hSw);  go_simp; (try with_reducible rfl))); (try simp only [Act.put, List.setIfInBounds_toArray, List.set_cons_zero, List.set_cons_succ])
          refine only 8 rfl (by kernel_rfl) rfl (fun K hK => ?_)
          go_simp
          refine (WZ.out _ (h2.nth 0 rfl)).mono ?_
          rintro e' w' ⟨rfl, rfl⟩
          try go_wp2_with fail
          refine hK.out _ _ (h2) (fun h3 => ?_)
          clear hK
          try simp only [Act.put, List.setIfInBounds_toArray, List.set_cons_zero, List.set_cons_succ]
          refine tk 9 (v := ?_) rfl (by kernel_rfl) (by kernel_rfl) (by kernel_rfl) (fun _ _ _ h => h) rfl ?_ h3 ?_; rotate_left; (focus (intro w hSw; (try dsimp only at hSw);  go_simp; (try with_reducible rfl))); (try simp only [Act.put, List.setIfInBounds_toArray, List.set_cons_zero, List.set_cons_succ])
          refine tk 10 (v := ?_) rfl (by kernel_rfl) (by kernel_rfl) (by kernel_rfl) (fun _ _ _ h => h) rfl ?_ h3 ?_; rotate_left; (focus (intro w hSw; (try dsimp only at hSw);  go_simp; (try with_reducible rfl))); (try simp only [Act.put, List.setIfInBounds_toArray, List.set_cons_zero, List.set_cons_succ])
          refine tk 11 (v := ?_) rfl (by kernel_rfl) (by kernel_rfl) (by kernel_rfl) (fun _ _ _ h => h) rfl ?_ h3 ?_; rotate_left; (focus (intro w hSw; (try dsimp only at hSw);  go_simp; (try with_reducible rfl))); (try simp only [Act.put, List.setIfInBounds_toArray, List.set_cons_zero, List.set_cons_succ])
          have B9 := hid h3.bl
          clear h3 h2 hHeld U4
          refine wpAnyH_done (by kernel_rfl) ?_ _
          go_wp2_with fail
          go_ret
          exact ⟨rfl, B9.out⟩

set_option maxRecDepth 100000 in
theorem lifted (os : Os) (started : os.Started) (H : Type) (enc : TypeId × Value → H) :
    ReturnsInHanded {} Try.checked os 4 .any (Rows.headBarrierSpec.pre6 enc Try.prog Try.f4 [] false) (Rows.headBarrierSpec.post enc Try.prog Try.f4 false true false false) :=
  law_step (s := Rows.headBarrierSpec) started (by kernel_rfl) Try.func4
    (ChangeSpec.witness6 (s := Rows.headBarrierSpec) (enc := enc) (C := Try.checked) false ⟨#[], #[.slice none 0 0, .int .i64 0, .int .i64 0, .int .i64 0], []⟩ 8 (by kernel_rfl) (by kernel_rfl) (by kernel_rfl) (by kernel_rfl))
    rfl (by rw [Try.params4]; decide +kernel) rfl Try.underlying4
    (fun ds h => by
      rw [Try.params4] at h
      match ds, h with
      | [_, _, _, _], _ => rfl)
    (fun W base args ds ps hval hA hsz => by
      rw [Try.params4] at hA hval hsz
      obtain ⟨v0, vs0, d0, ds0, p0, q0, hargs, rfl, rfl, h0, r0⟩ := trodAll_cons hA
      obtain ⟨v1, vs1, d1, ds1, p1, q1, rfl, rfl, rfl, h1, r1⟩ := trodAll_cons r0
      obtain ⟨v2, vs2, d2, ds2, p2, q2, rfl, rfl, rfl, h2, r2⟩ := trodAll_cons r1
      obtain ⟨v3, vs3, d3, ds3, p3, q3, rfl, rfl, rfl, h3, r3⟩ := trodAll_cons r2
      obtain ⟨rfl, rfl, rfl⟩ := trodAll_nil r3
      obtain rfl : args = #[v0, v1, v2, v3] := by cases args; simp_all
      obtain ⟨A0, n0, c0, g0, rfl, hn0, hc0, hs0, hw0, hl0, hd0⟩ := open_row Try.underlying22 Try.underlying3 (by kernel_rfl) (hval 0 22 v0 rfl rfl) h0
      have re0 : c0 * 8 ≤ 140737488351232 := by
        rcases hd0 with ⟨_, h0⟩ | ⟨xs, ys, h1, h2⟩
        · omega
        · have := sized_slice hsz (j := 0) (t := 22) (e := 3) rfl (by rw [h1]; rfl) Try.underlying22
          rw [h2, show Try.prog.bytesOf 3 = 8 from by kernel_rfl] at this
          simpa [reachBytes] using this
      obtain ⟨a1, rfl, rfl, rfl, w1⟩ := open_int Try.underlying3 (hval 1 3 v1 rfl rfl) h1
      obtain ⟨a2, rfl, rfl, rfl, w2⟩ := open_int Try.underlying3 (hval 2 3 v2 rfl rfl) h2
      obtain ⟨a3, rfl, rfl, rfl, w3⟩ := open_int Try.underlying3 (hval 3 3 v3 rfl rfl) h3
      exact walk W A0 n0 c0 g0 hn0 hc0 hs0 (fun j => bounds_i64 (hw0 j)) hl0 re0 a1 (bounds_i64 w1) a2 (bounds_i64 w2) a3 (bounds_i64 w3))

theorem proved : Rows.HeadBarrierSaid :=
  OpenClaim.holds_of_wide 4 Try.f4 rfl rfl rfl rfl rfl rfl rfl ⟨rfl, rfl, rfl, rfl, rfl⟩ rfl rfl rfl rfl rfl (by kernel_rfl) Try.func4 (by kernel_rfl)
    (of_decide_eq_true (by kernel_rfl)) (by unfold Func.isWrapper; first | (rw [if_pos (by decide +kernel)]; kernel_rfl) | (rw [if_neg (by decide +kernel)]; exact ⟨rfl, rfl⟩))
    (fun os started H enc _ => lifted os started H enc)
end Go.Proofs.Ytppcanaelagfmaa.headBarrier
