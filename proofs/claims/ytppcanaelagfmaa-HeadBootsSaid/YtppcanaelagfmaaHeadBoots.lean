/- roundhouselaw11.HeadBoots answers true for every row, any three numbers; no condition. -/
import Derived.Test.YtppcanaelagfmaaHdKnown
import Derived.BigQuiet
import Derived.Deep.RegionHeld3
import Derived.Deep.Cut
import Derived.Deep.CutRange
import Derived.IntWalk
namespace Go.Proofs.Ytppcanaelagfmaa.headBoots
set_option linter.unusedVariables false
set_option linter.unusedSimpArgs false
open Go.RowKit Go.ChangeShapes Go.WideShapes Go.ChangeAt

def bh1 (p : Pl) (x : Int) : Hd := ⟨p, p, [], zEn, 1, setW (fun _ => ⟨0, -1⟩) 0 ⟨x, p.v⟩⟩
def bh2 (p : Pl) (x y : Int) : Hd := ⟨p, p, [], zEn, 1, setW (setW (fun _ => ⟨0, -1⟩) 0 ⟨x, p.v⟩) 0 ⟨y, -1⟩⟩
theorem bt1 (p : Pl) (x pv : Int) (hv : p.v = pv) (hx : 0 < x) (h0 : 0 ≤ pv) : heardH (newH p 1) ⟨0, x, pv, false, true, zEn, zPl⟩ = bh1 p x := by
  have h1 : mx pv = pv := by unfold mx; rw [if_neg (by omega)]
  unfold heardH earB cntB newH bh1
  simp [h1, hx, hv]
theorem bs1 (p : Pl) (x : Int) : sendH (bh1 p x) = bh1 p x := by
  unfold sendH
  split <;> rfl
theorem bn1 (p : Pl) (x : Int) : notesK (bh1 p x) 1 = [] := by
  rw [notesK_succ]
  rw [if_neg (by show ¬ p.v < p.v; omega)]
  rfl
theorem bt2 (p : Pl) (x y d : Int) (hd : 0 ≤ d) (h : x < y) : heardH (bh1 p x) ⟨0, y, -1 - d, false, true, zEn, zPl⟩ = bh2 p x y := by
  have h1 : mx (-1 - d) = -1 := by unfold mx; split <;> omega
  unfold heardH earB cntB bh1 bh2
  simp [h1, h, setW]
theorem bt3 (p : Pl) (x y d : Int) (hv : 0 ≤ p.v) (hd : 0 ≤ d) (h : ¬ x < y) : heardH (bh1 p x) ⟨0, y, -1 - d, false, true, zEn, zPl⟩ = bh1 p x := by
  have h1 : mx (-1 - d) = -1 := by unfold mx; split <;> omega
  have h2 : ¬ p.v < -1 := by omega
  unfold heardH earB cntB bh1
  simp [h1, h, setW, h2]
theorem bs2 (p : Pl) (x y : Int) : sendH (bh2 p x y) = bh2 p x y := by
  unfold sendH
  split <;> rfl
theorem bn2 (p : Pl) (x y : Int) (hv : 0 ≤ p.v) : notesK (bh2 p x y) 1 = [⟨0, y, p.v, true, false, zEn, p⟩] := by
  rw [notesK_succ]
  rw [if_pos (by show (-1 : Int) < p.v; omega)]
  rfl
theorem build_nt124F (b v : Int) (w : World) : (Instr.build 58 #[(1, .int .i64 b), (2, .int .i64 v), (4, .bool true)]).run Try.prog w = .ok (.agg (FA 342 (ntc ⟨0, b, v, false, true, zEn, zPl⟩))) w := run_build w _ _ _ (by kernel_rfl)
attribute [local irreducible] FA FL
set_option maxRecDepth 100000 in
set_option maxHeartbeats 8000000 in
theorem walk (W : World) (A1 : Option Addr) (n1 c1 : Nat) (g1 : Nat → Int) (hn1 : n1 ≤ c1) (hc1 : c1 ≤ maxLen) (hr1 : Is W A1 n1 g1) (hg1 : IsI g1) (hl1 : ∀ ad, A1 = some ad → 0 < n1 → ad.block < W.heap.size) (re1 : c1 * 8 ≤ 140737488351232) (a0 : Int) (r_a0 : -9223372036854775808 ≤ a0 ∧ a0 ≤ 9223372036854775807) (b0 : Int) (r_b0 : -9223372036854775808 ≤ b0 ∧ b0 ≤ 9223372036854775807) (d_ : Int) (r_d_ : -9223372036854775808 ≤ d_ ∧ d_ ≤ 9223372036854775807) :
    Calls Try.prog 6 #[.slice A1 n1 c1, .int .i64 a0, .int .i64 b0, .int .i64 d_] W fun e w' => e = .returned (.bool true) ∧ Below W.heap.size W w' := by
  unfold maxLen at hc1
  have hnm : (n1 : Int) ≤ 9223372036854775807 := by have := hn1; omega
  have HL := hid hl1
  clear hl1 re1
  obtain ⟨p, hp⟩ : ∃ p, p = mkP g1 (min n1 30) := ⟨_, rfl⟩
  have HQ := hid (show Pinv p 30 from by rw [hp]; exact (mkP_inv g1 _).mono (by omega))
  have MK := hid (fun (w : World) (h : Is w A1 n1 g1) (hl : ∀ ad, A1 = some ad → 0 < n1 → ad.block < w.heap.size) => (show Calls Try.prog 13 #[.slice A1 n1 c1, .int .i64 30] w fun x w' => x = .returned (.agg (FA 330 (pc p))) ∧ Below w.heap.size w w' from by rw [hp]; exact make_fa w A1 n1 c1 g1 h hl hnm 30 (by omega)))
  clear hp
  obtain ⟨x0, hx0⟩ : ∃ x : Nat, (x : Int) = wi a0 9 := ⟨(wi a0 9).toNat, by have := wi_bd a0 9 (by omega); omega⟩
  have bx0 := wi_bd a0 9 (by omega)
  rw [← hx0] at bx0
  have Wx0 := hid (fun w => re_i64 (within_any a0 9 w (by omega) (by omega)) hx0.symm)
  clear hx0
  obtain ⟨bx01, bx02⟩ := bx0
  obtain ⟨y0, hy0⟩ : ∃ x : Nat, (x : Int) = wi b0 12 := ⟨(wi b0 12).toNat, by have := wi_bd b0 12 (by omega); omega⟩
  have by0 := wi_bd b0 12 (by omega)
  rw [← hy0] at by0
  have Wy0 := hid (fun w => re_i64 (within_any b0 12 w (by omega) (by omega)) hy0.symm)
  clear hy0
  obtain ⟨by01, by02⟩ := by0
  obtain ⟨d0, hd0⟩ : ∃ x : Nat, (x : Int) = wi d_ 3 := ⟨(wi d_ 3).toNat, by have := wi_bd d_ 3 (by omega); omega⟩
  have bd0 := wi_bd d_ 3 (by omega)
  rw [← hd0] at bd0
  have Wd0 := hid (fun w => re_i64 (within_any d_ 3 w (by omega) (by omega)) hd0.symm)
  clear hd0
  obtain ⟨bd01, bd02⟩ := bd0
  obtain ⟨pv, hpv⟩ : ∃ x, p.v = x := ⟨_, rfl⟩
  have HPV := hid hpv
  have hv1 : 0 ≤ pv := by rw [← hpv]; exact HQ.out.1.1
  have hv2 : pv ≤ 30 := by rw [← hpv]; exact HQ.out.1.2
  clear hpv
  have S0 : Hid (HS [] W W []) := hid HS.start
  go_enter Try.func6, Try.ntmps6
  go_wp2_with fail
  refine (hknown_any _).mono ?_
  rintro x w1 ⟨rfl, hB⟩
  have R1 := hid (hr1.below hB (Nat.le_refl _))
  have B1 := hid hB
  have S1 : Hid (HS [] W w1 []) := hid (S0.out.below hB)
  clear hr1 hB S0
  go_wp2_with fail
  refine (MK.out _ R1.out (fun ad e h => Nat.lt_of_lt_of_le (HL.out ad e h) B1.out.size)).mono ?_
  rintro x w2 ⟨rfl, hb⟩
  have S2 : Hid (HS [] W w2 []) := hid (S1.out.below hb)
  clear hb S1 MK
  go_simp
  go_upto_region 4 with (first | ((with_reducible refine wl_id ?_); refine wl_ow rfl (ow_alloc rfl (zpl_fa _) (by omega) S2.out ?_); intro P w_ hZ _; have SA := hid hZ; clear hZ) | ((with_reducible refine wl_id ?_); refine wl_ow rfl (ow_store (A := []) 0 330 (pc p) (pc p) rfl rfl rfl SA.out (by omega) (fun j hj => patch_all _ _ _ j hj) info_pl (pc_one _) ?_); intro w_ hZ; have SX := hid hZ; clear hZ))
  have S3 : Hid (HS [] W _ [thB P 330 (pc p)]) := hid (SX.out)
  have NW := hid (hnew_fa p (1) ⟨by omega, by omega⟩)
  go_wp2_with ((with_reducible refine wl_id ?_); refine wl_ow rfl (ow_load 0 rfl 0 330 (pc p) rfl rfl S3.out (by omega) (fun j hj => by rw [Nat.zero_add]) Try.underlying33 rfl info_pl ?_))
  refine (NW.out _).mono ?_
  rintro x w103 ⟨b, c, m, rfl, hH, hg1, hg2, hg3, hB⟩
  have S4 : Hid (HS [] W w103 [thH b c m (1) (newH p (1)), thB P 330 (pc p)]) := hid (HS.addH S3.out hH hg1 hg2 hg3 hB)
  clear hH hg1 hg2 hg3 hB NW S3
  go_simp
  go_wp2_with fail
  go_wp2_with fail
  refine (Wx0.out _).mono ?_
  rintro x w_ ⟨rfl, rfl⟩
  go_simp
  go_wp2_with fail
  refine (Wy0.out _).mono ?_
  rintro x w_ ⟨rfl, rfl⟩
  go_simp
  have cp : ∀ w, Fb w P 330 (pc p) → w.cell? ⟨P, 0, none⟩ = some (.int .i64 pv) := fun w h => by rw [← HPV.out]; exact h.2.1 0 (by omega)
  have cp0 := cp _ (S4.out.nth 1 rfl)
  clear cp
  go_upto_region 8 with (fail)
  apply wp_region_lit
  refine wl_val (v := ?_) rfl ?_ ?_; rotate_left; (focus ( go_simp; (try with_reducible rfl))); (try simp only [Act.put, List.setIfInBounds_toArray, List.set_cons_zero, List.set_cons_succ])
  refine wl_val (v := ?_) rfl ?_ ?_; rotate_left; (focus ( go_simp; (try with_reducible rfl))); (try simp only [Act.put, List.setIfInBounds_toArray, List.set_cons_zero, List.set_cons_succ])
  refine wl_val (v := ?_) rfl ?_ ?_; rotate_left; (focus ( go_simp; (try with_reducible rfl))); (try simp only [Act.put, List.setIfInBounds_toArray, List.set_cons_zero, List.set_cons_succ])
  refine wl_val (v := ?_) rfl ?_ ?_; rotate_left; (focus ( go_simp; (try with_reducible rfl))); (try simp only [Act.put, List.setIfInBounds_toArray, List.set_cons_zero, List.set_cons_succ])
  refine wl_build3 rfl rfl rfl rfl rfl (build_nt124F (1 + (x0 : Int)) pv _) ?_
  try simp only [Act.put, List.setIfInBounds_toArray, List.set_cons_zero, List.set_cons_succ]
  go_wp2_with fail
  clear cp0
  refine (heard_fa (S4.out.nth 0 rfl : HeadAt _ b c m (1) (newH p 1)) ⟨0, 1 + (x0 : Int), pv, false, true, zEn, zPl⟩ (show (1 : Nat) ≤ 16 by omega) (by omega) (bh1 p (1 + (x0 : Int))) (bt1 p _ pv HPV.out (by omega) hv1)).mono ?_
  rintro x w104 ⟨rfl, hH, hC⟩
  have S5 : Hid (HS [] W w104 [thH b c m (1 + 1) (bh1 p (1 + (x0 : Int))), thB P 330 (pc p)]) := hid (HS.upd (A := []) (B := [thB P 330 (pc p)]) S4.out (thH b c m (1 + 1) (bh1 p (1 + (x0 : Int)))) rfl hC hH)
  clear hH hC S4
  go_simp
  go_wp2_with fail
  refine (send_fa (S5.out.nth 0 rfl : HeadAt _ b c m (1 + 1) (bh1 p (1 + (x0 : Int)))) (show (1 : Nat) ≤ 16 by omega) (HQ.out.pb (by omega)) (by rw [bs1]; exact ⟨HQ.out.1.1, Int.le_trans HQ.out.1.2 (by omega)⟩) (bh1 p (1 + (x0 : Int))) ([]) (bs1 _ _) (bn1 _ _)).mono ?_
  rintro x w105 ⟨A_5, cc5, rfl, hlc, hH, hC, hrow⟩
  have S6 : Hid (HS [] W w105 [thH b c m (1 + 1) (bh1 p (1 + (x0 : Int))), thB P 330 (pc p)]) := hid (HS.upd (A := []) (B := [thB P 330 (pc p)]) S5.out (thH b c m (1 + 1) (bh1 p (1 + (x0 : Int)))) rfl hC hH)
  clear hlc hH hC hrow S5
  go_simp
  go_wp2_with fail
  refine (Wd0.out _).mono ?_
  rintro x w_ ⟨rfl, rfl⟩
  go_simp
  apply_assumption
  refine wl_val (v := ?_) rfl ?_ ?_; rotate_left; (focus (have x9 : IntKind.i64.wrap (-1 - (d0 : Int)) = -1 - (d0 : Int) := IntWalk.i64_in _ (by omega); go_simp; (try with_reducible rfl))); (try simp only [Act.put, List.setIfInBounds_toArray, List.set_cons_zero, List.set_cons_succ])
  refine wl_build3 rfl rfl rfl rfl rfl (build_nt124F (y0 : Int) (-1 - (d0 : Int)) _) ?_
  try simp only [Act.put, List.setIfInBounds_toArray, List.set_cons_zero, List.set_cons_succ]
  go_wp2_with fail
  by_cases hxy : 1 + (x0 : Int) < y0
  · refine (heard_fa (S6.out.nth 0 rfl : HeadAt _ b c m (1 + 1) (bh1 p (1 + (x0 : Int)))) ⟨0, (y0 : Int), -1 - (d0 : Int), false, true, zEn, zPl⟩ (show (1 : Nat) ≤ 16 by omega) (by omega) (bh2 p (1 + (x0 : Int)) y0) (bt2 _ _ _ _ (by omega) hxy)).mono ?_
    rintro x w106 ⟨rfl, hH, hC⟩
    have S7 : Hid (HS [] W w106 [thH b c m (1 + 1 + 1) (bh2 p (1 + (x0 : Int)) y0), thB P 330 (pc p)]) := hid (HS.upd (A := []) (B := [thB P 330 (pc p)]) S6.out (thH b c m (1 + 1 + 1) (bh2 p (1 + (x0 : Int)) y0)) rfl hC hH)
    clear hH hC S6
    go_simp
    go_wp2_with fail
    refine (send_fa (S7.out.nth 0 rfl : HeadAt _ b c m (1 + 1 + 1) (bh2 p (1 + (x0 : Int)) y0)) (show (1 : Nat) ≤ 16 by omega) (HQ.out.pb (by omega)) (by rw [bs2]; exact ⟨HQ.out.1.1, Int.le_trans HQ.out.1.2 (by omega)⟩) (bh2 p (1 + (x0 : Int)) y0) ([⟨0, (y0 : Int), p.v, true, false, zEn, p⟩]) (bs2 _ _ _) (bn2 _ _ _ HQ.out.1.1)).mono ?_
    rintro x w107 ⟨A_7, cc7, rfl, hlc, hH, hC, hrow⟩
    obtain ⟨G2, rfl, hg, hF⟩ := hrow (by simp)
    have S8 : Hid (HS [] W w107 [thB G2 342 (ntf ([⟨0, (y0 : Int), p.v, true, false, zEn, p⟩])), thH b c m (1 + 1 + 1) (bh2 p (1 + (x0 : Int)) y0), thB P 330 (pc p)]) := hid (HS.updNew (A := []) (B := [thB P 330 (pc p)]) S7.out (thH b c m (1 + 1 + 1) (bh2 p (1 + (x0 : Int)) y0)) rfl hC hH hF hg)
    have HLC8 := hid hlc
    clear hlc hH hC hrow hg hF S7
    go_simp
    have f1 : World.cell? _ ⟨G2, 1, none⟩ = some (.int .i64 (y0 : Int)) := (S8.out.fb 0 rfl).ntk 0 _ rfl (by omega) 1 (by omega)
    have f3 : World.cell? _ ⟨G2, 3, none⟩ = some (.bool true) := (S8.out.fb 0 rfl).ntk 0 _ rfl (by omega) 3 (by omega)
    have B9 := hid S8.out.bl
    go_wp2_with fail
    go_ret
    exact ⟨rfl, B9.out⟩
  · refine (heard_fa (S6.out.nth 0 rfl : HeadAt _ b c m (1 + 1) (bh1 p (1 + (x0 : Int)))) ⟨0, (y0 : Int), -1 - (d0 : Int), false, true, zEn, zPl⟩ (show (1 : Nat) ≤ 16 by omega) (by omega) (bh1 p (1 + (x0 : Int))) (bt3 _ _ _ _ HQ.out.1.1 (by omega) hxy)).mono ?_
    rintro x w106 ⟨rfl, hH, hC⟩
    have S7 : Hid (HS [] W w106 [thH b c m (1 + 1 + 1) (bh1 p (1 + (x0 : Int))), thB P 330 (pc p)]) := hid (HS.upd (A := []) (B := [thB P 330 (pc p)]) S6.out (thH b c m (1 + 1 + 1) (bh1 p (1 + (x0 : Int)))) rfl hC hH)
    clear hH hC S6
    go_simp
    go_wp2_with fail
    refine (send_fa (S7.out.nth 0 rfl : HeadAt _ b c m (1 + 1 + 1) (bh1 p (1 + (x0 : Int)))) (show (1 : Nat) ≤ 16 by omega) (HQ.out.pb (by omega)) (by rw [bs1]; exact ⟨HQ.out.1.1, Int.le_trans HQ.out.1.2 (by omega)⟩) (bh1 p (1 + (x0 : Int))) ([]) (bs1 _ _) (bn1 _ _)).mono ?_
    rintro x w107 ⟨A_7, cc7, rfl, hlc, hH, hC, hrow⟩
    have S8 : Hid (HS [] W w107 [thH b c m (1 + 1 + 1) (bh1 p (1 + (x0 : Int))), thB P 330 (pc p)]) := hid (HS.upd (A := []) (B := [thB P 330 (pc p)]) S7.out (thH b c m (1 + 1 + 1) (bh1 p (1 + (x0 : Int)))) rfl hC hH)
    clear hlc hH hC hrow S7
    go_simp
    have B9 := hid S8.out.bl
    go_wp2_with fail
    go_ret
    exact ⟨rfl, B9.out⟩

set_option maxRecDepth 100000 in
theorem lifted (os : Os) (started : os.Started) (H : Type) (enc : TypeId × Value → H) :
    ReturnsInHanded {} Try.checked os 6 .any (Rows.headBootsSpec.pre6 enc Try.prog Try.f6 [] false) (Rows.headBootsSpec.post enc Try.prog Try.f6 false true false false) :=
  law_step (s := Rows.headBootsSpec) started (by kernel_rfl) Try.func6
    (ChangeSpec.witness6 (s := Rows.headBootsSpec) (enc := enc) (C := Try.checked) false ⟨#[], #[.slice none 0 0, .int .i64 0, .int .i64 0, .int .i64 0], []⟩ 8 (by kernel_rfl) (by kernel_rfl) (by kernel_rfl) (by kernel_rfl))
    rfl (by rw [Try.params6]; decide +kernel) rfl Try.underlying4
    (fun ds h => by
      rw [Try.params6] at h
      match ds, h with
      | [_, _, _, _], _ => rfl)
    (fun W base args ds ps hval hA hsz => by
      rw [Try.params6] at hA hval hsz
      obtain ⟨v0, vs0, d0, ds0, p0, q0, hargs, rfl, rfl, h0, r0⟩ := trodAll_cons hA
      obtain ⟨v1, vs1, d1, ds1, p1, q1, rfl, rfl, rfl, h1, r1⟩ := trodAll_cons r0
      obtain ⟨v2, vs2, d2, ds2, p2, q2, rfl, rfl, rfl, h2, r2⟩ := trodAll_cons r1
      obtain ⟨v3, vs3, d3, ds3, p3, q3, rfl, rfl, rfl, h3, r3⟩ := trodAll_cons r2
      obtain ⟨rfl, rfl, rfl⟩ := trodAll_nil r3
      obtain rfl : args = #[v0, v1, v2, v3] := by cases args; simp_all
      obtain ⟨A0, n0, c0, g0, rfl, hn0, hc0, hs0, hw0, hl0, hd0⟩ := open_row Try.underlying22 Try.underlying3 (by kernel_rfl) (hval 0 22 v0 rfl rfl) h0
      have re0 : c0 * 8 ≤ 140737488351232 := by
        rcases hd0 with ⟨_, h0⟩ | ⟨xs, ys, h1, h2⟩
        · omega
        · have := sized_slice hsz (j := 0) (t := 22) (e := 3) rfl (by rw [h1]; rfl) Try.underlying22
          rw [h2, show Try.prog.bytesOf 3 = 8 from by kernel_rfl] at this
          simpa [reachBytes] using this
      obtain ⟨a1, rfl, rfl, rfl, w1⟩ := open_int Try.underlying3 (hval 1 3 v1 rfl rfl) h1
      obtain ⟨a2, rfl, rfl, rfl, w2⟩ := open_int Try.underlying3 (hval 2 3 v2 rfl rfl) h2
      obtain ⟨a3, rfl, rfl, rfl, w3⟩ := open_int Try.underlying3 (hval 3 3 v3 rfl rfl) h3
      exact walk W A0 n0 c0 g0 hn0 hc0 hs0 (fun j => bounds_i64 (hw0 j)) hl0 re0 a1 (bounds_i64 w1) a2 (bounds_i64 w2) a3 (bounds_i64 w3))

theorem proved : Rows.HeadBootsSaid :=
  OpenClaim.holds_of_wide 6 Try.f6 rfl rfl rfl rfl rfl rfl rfl ⟨rfl, rfl, rfl, rfl, rfl⟩ rfl rfl rfl rfl rfl (by kernel_rfl) Try.func6 (by kernel_rfl)
    (of_decide_eq_true (by kernel_rfl)) (by unfold Func.isWrapper; first | (rw [if_pos (by decide +kernel)]; kernel_rfl) | (rw [if_neg (by decide +kernel)]; exact ⟨rfl, rfl⟩))
    (fun os started H enc _ => lifted os started H enc)
end Go.Proofs.Ytppcanaelagfmaa.headBoots
