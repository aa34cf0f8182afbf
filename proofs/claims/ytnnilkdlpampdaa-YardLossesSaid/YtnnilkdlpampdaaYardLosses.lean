/- roundhouselaw12.YardLosses answers true for every row, any number, every row; no condition. -/
import Derived.Test.YtnnilkdlpampdaaYdWays
import Derived.BigQuiet
import Derived.Deep.RegionHeld3
import Derived.Deep.Cut
import Derived.Deep.CutRange
import Derived.IntWalk
namespace Go.Proofs.Ytnnilkdlpampdaa.yardLosses
set_option linter.unusedVariables false
set_option linter.unusedSimpArgs false
open Go.RowKit Go.ChangeShapes Go.WideShapes Go.ChangeAt
def yl (p : Pl) (u : Nat) (L : List Nat) : Yd := ⟨newH p u, fun _ => z0, L.map (wN p)⟩
def ML (p : Pl) (L : List Nat) : List Nt := L.map (wN p) ++ L.map (aN p)
/-- So many arrived. -/
def DP (p : Pl) (u : Nat) (L : List Nat) (t : Nat) (y : Yd) : Prop := y.h.un = u ∧ y.ns = ((ML p L).drop t).take L.length ∧ ∀ i, y.uf i = if i ∈ L.take t then ⟨0, p, true⟩ else z0
section
variable {p : Pl} {u : Nat} {L : List Nat}
theorem fit_yl (GP : good p) (hv : p.v ≤ 30) (hu : 1 ≤ u ∧ u ≤ 6) (hL : L.Sublist (List.range u)) : Fit (yl p u L) 31 := by
  have f0 : Fit (newY p u) 30 := Fit.new GP ⟨hu.1, by omega⟩ hv
  have f1 : Fit (tickY (newY p u)) 31 := f0.tick
  rw [tick_new GP.v] at f1
  exact ⟨f1.1.less (l := L.map (wN p)) (fun n hn => (hL.map (wN p)).subset hn), f1.2⟩
theorem lose_yl (k : Nat) : loY (yl p u L) k = yl p u (L.eraseIdx k) := by
  show (⟨_, _, (L.map (wN p)).eraseIdx k⟩ : Yd) = ⟨_, _, (L.eraseIdx k).map (wN p)⟩
  congr 1
  induction L generalizing k with
  | nil => rfl
  | cons x xs ih => cases k with
    | zero => rfl
    | succ j => simp only [List.map_cons, List.eraseIdx_cons_succ, ih]
theorem dp_start : DP p u L 0 (yl p u L) := by
  refine ⟨rfl, ?_, fun i => by simp [yl]⟩
  show L.map (wN p) = _
  unfold ML
  rw [List.drop_zero, List.take_append_of_le_length (by simp), List.take_of_length_le (by simp)]
theorem ml_len : (ML p L).length = L.length + L.length := by unfold ML; simp
theorem dp_len {t : Nat} {y : Yd} (h : DP p u L t y) : y.ns.length = min L.length (2 * L.length - t) := by
  rw [h.2.1, List.length_take, List.length_drop, ml_len]
  omega
theorem dp_step {t : Nat} {y : Yd} (hv : 0 ≤ p.v) (h : DP p u L t y) (ht : t < 2 * L.length) : DP p u L (t + 1) (delY y 0 false) := by
  obtain ⟨h1, h2, h3⟩ := h
  have hlt : t < (ML p L).length := by rw [ml_len]; omega
  have hd : (ML p L).drop t = (ML p L)[t] :: (ML p L).drop (t + 1) := List.drop_eq_getElem_cons hlt
  obtain ⟨n, hn⟩ : ∃ n, L.length = n + 1 := ⟨L.length - 1, by omega⟩
  have hns : y.ns = (ML p L)[t] :: ((ML p L).drop (t + 1)).take n := by rw [h2, hd, hn, List.take_succ_cons]
  by_cases hc : t < L.length
  · have e : (ML p L)[t] = wN p L[t] := by
      have h9 : (ML p L)[t]? = some (wN p L[t]) := by
        unfold ML
        rw [List.getElem?_append_left (by simpa using hc), List.getElem?_map, List.getElem?_eq_getElem hc]
        rfl
      rw [List.getElem?_eq_getElem hlt] at h9
      exact Option.some.inj h9
    rw [e] at hns
    have hx : y.uf L[t] = z0 ∨ y.uf L[t] = ⟨0, p, true⟩ := by
      rw [h3]
      split
      · exact .inr rfl
      · exact .inl rfl
    rw [del_w (y := y) (j := 0) (i := L[t]) hv (by rw [hns]; rfl) hx false]
    refine ⟨h1, ?_, fun i => ?_⟩
    · show dropL y.ns 0 false ++ [aN p L[t]] = _
      have e2 : dropL y.ns 0 false = ((ML p L).drop (t + 1)).take n := by rw [hns]; rfl
      have hk : t + 1 + n < (ML p L).length := by rw [ml_len]; omega
      have e3 : (ML p L)[t + 1 + n]? = some (aN p L[t]) := by
        unfold ML
        rw [List.getElem?_append_right (by simp; omega), List.length_map, show t + 1 + n - L.length = t by omega, List.getElem?_map, List.getElem?_eq_getElem hc]
        rfl
      rw [e2, hn, List.take_add_one, List.getElem?_drop, e3]
      rfl
    · show setU y.uf L[t] ⟨0, p, true⟩ i = _
      have e4 : L.take (t + 1) = L.take t ++ [L[t]] := by rw [List.take_add_one, List.getElem?_eq_getElem hc]; rfl
      rw [e4]
      unfold setU
      by_cases hi : i = L[t]
      · rw [if_pos hi, if_pos (List.mem_append.2 (.inr (List.mem_singleton.2 hi)))]
      · rw [if_neg hi, h3]
        by_cases hm : i ∈ L.take t
        · rw [if_pos hm, if_pos (List.mem_append.2 (.inl hm))]
        · rw [if_neg hm, if_neg (fun h => by rcases List.mem_append.1 h with h | h; exact hm h; rw [List.mem_singleton] at h; exact hi h)]
  · have ha : ((ML p L)[t]).ak = true := by
      have hj : t - L.length < L.length := by omega
      have h9 : (ML p L)[t]? = some (aN p L[t - L.length]) := by
        unfold ML
        rw [List.getElem?_append_right (by simpa using Nat.le_of_not_lt hc), List.length_map, List.getElem?_map, List.getElem?_eq_getElem hj]
        rfl
      rw [List.getElem?_eq_getElem hlt] at h9
      rw [Option.some.inj h9]
      rfl
    rw [delY_some (n := (ML p L)[t]) (by rw [hns]; rfl)]
    unfold getY
    rw [if_pos ha]
    refine ⟨(heardH_un _ _).trans h1, ?_, fun i => ?_⟩
    · show dropL y.ns 0 false = _
      have e2 : dropL y.ns 0 false = ((ML p L).drop (t + 1)).take n := by rw [hns]; rfl
      have hl : ((ML p L).drop (t + 1)).length ≤ n := by rw [List.length_drop, ml_len]; omega
      rw [e2, List.take_of_length_le hl, List.take_of_length_le (by omega)]
    · show y.uf i = _
      rw [h3, List.take_of_length_le (by omega), List.take_of_length_le (by omega)]
theorem filt {M K : List Nat} (h : K.Sublist M) (hn : M.Nodup) : M.filter (fun i => decide (i ∈ K)) = K := by
  induction h with
  | slnil => rfl
  | cons a h ih =>
    rw [List.nodup_cons] at hn
    rw [List.filter_cons_of_neg (by simpa using fun hm => hn.1 (h.subset hm))]
    exact ih hn.2
  | cons_cons a h ih =>
    rw [List.nodup_cons] at hn
    rw [List.filter_cons_of_pos (by simp)]
    congr 1
    refine Eq.trans ?_ (ih hn.2)
    refine List.filter_congr fun x hx => ?_
    have : x ≠ a := fun e => hn.1 (e ▸ hx)
    simp [this]
def cnt (L : List Nat) (j : Nat) : Nat := ((List.range j).filter fun i => decide (i ∈ L)).length
theorem cnt_succ (L : List Nat) (j : Nat) : cnt L (j + 1) = if j ∈ L then cnt L j + 1 else cnt L j := by
  unfold cnt
  rw [List.range_succ, List.filter_append, List.length_append]
  by_cases h : j ∈ L
  · rw [if_pos h]; simp [h]
  · rw [if_neg h]; simp [h]
theorem cnt_all (hL : L.Sublist (List.range u)) : cnt L u = L.length := by
  unfold cnt
  rw [filt hL List.nodup_range]
theorem cnt_le (L : List Nat) (j : Nat) : cnt L j ≤ j := by
  unfold cnt
  exact Nat.le_trans (List.length_filter_le _ _) (by simp)
theorem hasB_lt {x n : Nat} : hasB ((x : Int) - 2) n = (decide (2 ≤ x) && decide (x < n + 2)) := by
  unfold hasB
  congr 1
  · rw [decide_eq_decide]; omega
  · rw [decide_eq_decide]; omega
end
attribute [local irreducible] FA FL
set_option maxRecDepth 100000 in
set_option maxHeartbeats 32000000 in
theorem walk (W : World) (A1 : Option Addr) (n1 c1 : Nat) (g1 : Nat → Int) (hn1 : n1 ≤ c1) (hc1 : c1 ≤ maxLen) (hr1 : Is W A1 n1 g1) (hg1 : IsI g1) (hl1 : ∀ ad, A1 = some ad → 0 < n1 → ad.block < W.heap.size) (re1 : c1 * 8 ≤ 140737488351232) (a0 : Int) (r_a0 : -9223372036854775808 ≤ a0 ∧ a0 ≤ 9223372036854775807) (A2 : Option Addr) (n2 c2 : Nat) (g2 : Nat → Int) (hn2 : n2 ≤ c2) (hc2 : c2 ≤ maxLen) (hr2 : Is W A2 n2 g2) (hg2 : IsI g2) (hl2 : ∀ ad, A2 = some ad → 0 < n2 → ad.block < W.heap.size) (re2 : c2 * 8 ≤ 140737488351232) :
    Calls Try.prog 7 #[.slice A1 n1 c1, .int .i64 a0, .slice A2 n2 c2] W fun e w' => e = .returned (.bool true) ∧ Below W.heap.size W w' := by
  unfold maxLen at hc1
  have hnm : (n1 : Int) ≤ 9223372036854775807 := by have := hn1; omega
  have HL := hid hl1
  clear hl1 re1
  obtain ⟨p, hp⟩ : ∃ p, p = mkP g1 (min n1 30) := ⟨_, rfl⟩
  have GP : good p ∧ p.v ≤ 30 := by rw [hp]; exact good_mk g1 _ (by omega)
  have MK := hid (fun (w : World) (h : Is w A1 n1 g1) (hl : ∀ ad, A1 = some ad → 0 < n1 → ad.block < w.heap.size) => (show Calls Try.prog 9 #[.slice A1 n1 c1, .int .i64 30] w fun x w' => x = .returned (.agg (FA 330 (pc p))) ∧ Below w.heap.size w w' from by rw [hp]; exact make_fa w A1 n1 c1 g1 h hl hnm 30 (by omega)))
  clear hp
  have hv0 := GP.1.v
  have hv30 := GP.2
  have HR2 := hid (show ∀ (w : World), Below W.heap.size W w → Is w A2 n2 g2 from fun w h => hr2.below h (Nat.le_refl _))
  have HG2 := hid hg2
  clear hr2 hl2 re2 hg2
  unfold maxLen at hc2
  have hnm2 : (n2 : Int) ≤ 9223372036854775807 := by have := hn2; omega
  obtain ⟨x0, hx0⟩ : ∃ x : Nat, (x : Int) = wi a0 6 := ⟨(wi a0 6).toNat, by have := wi_bd a0 6 (by omega); omega⟩
  have bx0 := wi_bd a0 6 (by omega)
  rw [← hx0] at bx0
  have Wx0 := hid (fun w => re_i64 (within_any a0 6 w (by omega) (by omega)) hx0.symm)
  clear hx0
  obtain ⟨bx01, bx02⟩ := bx0
  obtain ⟨u, hu⟩ : ∃ u : Nat, u = 1 + x0 := ⟨_, rfl⟩
  have hu1 : 1 ≤ u := by omega
  have hu2 : u ≤ 6 := by omega
  have HUX := hid (show (1 : Int) + x0 = u from by omega)
  clear hu
  have GP1 := hid GP.1
  have f0 : Fit (newY p u) 30 := Fit.new GP.1 ⟨hu1, by omega⟩ hv30
  have F0 := hid f0
  clear f0 GP
  have TK := hid (show tickY (newY p u) = yl p u (List.range u) from tick_new hv0)
  have FY := hid (fun (L : List Nat) (hL : L.Sublist (List.range u)) => fit_yl GP1.out hv30 ⟨hu1, hu2⟩ hL)
  have S0 : Hid (HS [] W W []) := hid HS.start
  go_enter Try.func7, Try.ntmps7
  go_wp2_with fail
  refine (yknown_any _).mono ?_
  rintro x w1 ⟨rfl, hB⟩
  have R1 := hid (hr1.below hB (Nat.le_refl _))
  have B1 := hid hB
  have S1 := hid (S0.out.below hB)
  clear hr1 hB S0
  go_wp2_with fail
  refine (MK.out _ R1.out (fun ad e h => Nat.lt_of_lt_of_le (HL.out ad e h) B1.out.size)).mono ?_
  rintro x w2 ⟨rfl, hb⟩
  have S2 := hid (S1.out.below hb)
  clear hb S1 MK
  go_simp
  go_upto_region 4 with (first | ((with_reducible refine wl_id ?_); refine wl_ow rfl (ow_alloc rfl (zpl_fa _) (by omega) S2.out ?_); intro P w_ hZ _; have SA := hid hZ; clear hZ) | ((with_reducible refine wl_id ?_); refine wl_ow rfl (ow_store (A := []) 0 330 (pc p) (pc p) rfl rfl rfl SA.out (by omega) (fun j hj => patch_all _ _ _ j hj) info_pl (pc_one _) ?_); intro w_ hZ; have S3 := hid hZ; clear hZ))
  clear S2 R1 B1
  go_wp2_with fail
  refine (Wx0.out _).mono ?_
  rintro x w_ ⟨rfl, rfl⟩
  go_simp
  go_upto_region 5 with (fail)
  rw [HUX.out]
  go_wp2_with ((with_reducible refine wl_id ?_); refine wl_ow rfl (ow_load 0 rfl 0 330 (pc p) rfl rfl S3.out (by omega) (fun j hj => by rw [Nat.zero_add]) Try.underlying33 rfl info_pl ?_))
  refine (ya_new S3.out p u ⟨hu1, by omega⟩).mono ?_
  rintro x w4 ⟨D, rfl, hY⟩
  have Y0 := hid hY
  clear hY S3
  go_simp
  go_wp2_with fail
  refine (ya_tick Y0.out F0.out (by omega) (by show (0 : Nat) ≤ 900000; omega)).mono ?_
  rintro x w5 ⟨rfl, hY⟩
  rw [TK.out] at hY ⊢
  rw [show (yl p u (List.range u)).ns.length = u from by show ((List.range u).map (wN p)).length = u; simp]
  have Y1 := hid hY
  clear hY Y0 F0 TK
  go_simp
  go_wp2_with fail
  go_loopw [11, 12] (fun nv iv wr => ∃ (k : Nat) (L : List Nat), k ≤ n2 ∧ k ≤ 10 ∧ nv = .int .i64 (L.length : Int) ∧ iv = .int .i64 (k : Int) ∧ L.Sublist (List.range u) ∧ YA [] W wr D (yl p u L) [thB P 330 (pc p)] 16) (fun _ i _ => 10 - (intOf i).toNat)
  case atStart => exact ⟨0, List.range u, by omega, by omega, by rw [List.length_range], rfl, List.Sublist.refl _, Y1.out⟩
  case round =>
    clear Y1
    obtain ⟨k, L, hk, hk10, rfl, rfl, hL, hY⟩ := hrel
    have HL_ := hid hL
    have Y2 := hid hY
    have F2 := hid (FY.out L hL)
    have hle := hL.length_le
    rw [List.length_range] at hle
    clear hL hY
    go_upto_region 12 with (fail)
    obtain ⟨bb, hbb⟩ : ∃ bb : Bool, bb = (decide (k < n2) && decide (k < 10)) := ⟨_, rfl⟩
    have HBB := hid hbb
    clear hbb
    go_cut [50] from 43 to 50 (fun x wx => x = .bool bb ∧ wr = wx)
    case first =>
      by_cases h1 : (k : Int) < n2
      · by_cases h2 : (k : Int) < 10
        · go_wp2_with fail
          go_meet
          exact ⟨by rw [HBB.out]; simp; omega, rfl⟩
        · go_wp2_with fail
          go_meet
          exact ⟨by rw [HBB.out]; simp; omega, rfl⟩
      · go_wp2_with fail
        go_meet
        exact ⟨by rw [HBB.out]; simp; omega, rfl⟩
    case rest =>
      obtain ⟨rfl, rfl⟩ := hcut
      cases bb
      · clear HBB
        obtain ⟨n, hn⟩ : ∃ n, n = L.length := ⟨_, rfl⟩
        rw [← hn] at hle ⊢
        have HN := hid hn
        clear hn
        go_wp2_with fail
        go_loopw [14] (fun v wx => ∃ (tt : Nat) (y : Yd), tt ≤ 2 * n ∧ v = .int .i64 (tt : Int) ∧ DP p u L tt y ∧ Fit y 31 ∧ YA [] W wx D y [thB P 330 (pc p)] (16 + tt)) (fun v _ => 2 * n - (intOf v).toNat)
        case atStart => exact ⟨0, yl p u L, by omega, rfl, dp_start, F2.out, Y2.out⟩
        case round =>
          clear Y2 F2
          obtain ⟨tt, y, htt, rfl, hD, hF, hY⟩ := hrel
          have Y3 := hid hY
          have F3 := hid hF
          have DD := hid hD
          have hl := dp_len hD
          rw [← HN.out] at hl
          clear hY hF hD
          by_cases hlt : tt < 2 * n
          · have h0 : 0 < y.ns.length := by rw [hl]; omega
            have DL := hid (ya_del Y3.out F3.out (by omega) (by omega) (by rw [hl]; omega) 0 h0 false)
            have DS := hid (dp_step hv0 DD.out (by rw [← HN.out]; exact hlt))
            have FS := hid (F3.out.del 0 false)
            clear Y3 F3 DD h0
            have i9 : (tt : Int) < 100 := by omega
            go_wp2_with fail
            refine DL.out.mono ?_
            rintro e_ w6 ⟨rfl, hY⟩
            have Y4 := hid hY
            clear hY DL
            go_simp
            go_wp2_with fail
            go_roundw
            case rel => exact ⟨tt + 1, _, by omega, by go_num, DS.out, FS.out, Y4.out.mono (by omega)⟩
            case measure => simp [intOf]; omega
          · have htn : tt = 2 * n := by omega
            have h0 : y.ns.length = 0 := by rw [hl]; omega
            have DL := hid (ya_delN Y3.out 0 (by rw [h0]; rfl) false)
            clear Y3 h0 hl
            have hU := DD.out.2.2
            rw [List.take_of_length_le (by rw [← HN.out]; omega)] at hU
            have UU := hid hU
            have UN := hid DD.out.1
            clear hU DD
            go_wp2_with fail
            refine DL.out.mono ?_
            rintro e_ w6 ⟨rfl, hY⟩
            have Y4 := hid hY
            clear hY DL
            go_simp
            go_wp2_with fail
            go_loopw [15, 16] (fun cv jv wx => ∃ j : Nat, j ≤ u ∧ cv = .int .i64 (cnt L j : Int) ∧ jv = .int .i64 (j : Int) ∧ YA [] W wx D y [thB P 330 (pc p)] (16 + tt)) (fun _ j _ => u - (intOf j).toNat)
            case atStart => exact ⟨0, Nat.zero_le _, rfl, rfl, Y4.out⟩
            case round =>
              clear Y4
              obtain ⟨j, hj, rfl, rfl, hY⟩ := hrel
              have Y5 := hid hY
              clear hY
              by_cases hlt : (j : Int) < u
              · have VE := hid (ya_ver Y5.out j (by rw [UN.out]; omega))
                have CS := hid (cnt_succ L j)
                have cl := cnt_le L j
                have YB := hid (fun (w' : World) (hb : Below wr.heap.size wr w') => Y5.out.below hb)
                rw [UU.out j] at VE
                obtain ⟨c, hc⟩ : ∃ c, c = cnt L j := ⟨_, rfl⟩
                rw [← hc] at CS cl ⊢
                clear hc Y5
                by_cases hm : j ∈ L
                · rw [if_pos hm] at VE CS
                  simp only [if_true] at VE
                  clear hm
                  have xc : IntKind.i64.wrap ((c : Int) + 1) = (c : Int) + 1 := IntWalk.i64_in _ (by omega)
                  go_wp2_with fail
                  refine VE.out.mono ?_
                  rintro e_ w7 ⟨rfl, hb⟩
                  have Y6 := hid (YB.out _ hb)
                  clear hb VE YB
                  go_simp
                  go_wp2_with fail
                  go_roundw
                  case rel => exact ⟨j + 1, by omega, by rw [CS.out]; go_num, by go_num, Y6.out⟩
                  case measure => simp [intOf]; omega
                · rw [if_neg hm] at VE CS
                  simp only [z0, Bool.false_eq_true, if_false] at VE
                  clear hm
                  have xc : IntKind.i64.wrap ((c : Int) + 1) = (c : Int) + 1 := IntWalk.i64_in _ (by omega)
                  go_wp2_with fail
                  refine VE.out.mono ?_
                  rintro e_ w7 ⟨rfl, hb⟩
                  have Y6 := hid (YB.out _ hb)
                  clear hb VE YB
                  go_simp
                  go_wp2_with fail
                  go_roundw
                  case rel => exact ⟨j + 1, by omega, by rw [CS.out], by go_num, Y6.out⟩
                  case measure => simp [intOf]; omega
              · have hju : j = u := by omega
                have hcu : cnt L j = n := by rw [hju, HN.out]; exact cnt_all HL_.out
                rw [hcu]
                clear hcu
                subst htn
                have xm : IntKind.i64.wrap (2 * (n : Int)) = 2 * (n : Int) := IntWalk.i64_in _ (by omega)
                have xe : (((2 * n : Nat) : Int) == 2 * (n : Int)) = true := by simp
                have xe2 : ((2 * (n : Int)) == 2 * (n : Int)) = true := by simp
                go_wp2_with fail
                go_ret
                exact ⟨rfl, Y5.out.ch.below (by simp) (Nat.le_refl _)⟩
      · have hkn2 : k < n2 ∧ k < 10 := by have := HBB.out; simp at this; exact this
        obtain ⟨hl1, hl2⟩ := hkn2
        clear HBB
        have i1 : (k : Int) < n2 := by omega
        have i2 : (k : Int) < 10 := by omega
        obtain ⟨bb, off, rfl⟩ := Sl.addr (HR2.out W (Below.refl _ _)) (by omega)
        have RR := hid (Sl.at_ (show Sl wr (some ⟨bb, off, none⟩) n2 (fun j => .int .i64 (g2 j)) from HR2.out wr (Y2.out.ch.below (by simp) (Nat.le_refl _))) (j := k) hl1)
        obtain ⟨gk, hgk⟩ : ∃ x, x = g2 k := ⟨_, rfl⟩
        have hgb := HG2.out k
        rw [← hgk] at RR hgb
        clear hgk
        obtain ⟨x, hx⟩ : ∃ x : Nat, (x : Int) = wi gk 12 := ⟨(wi gk 12).toNat, by have := wi_bd gk 12 (by omega); omega⟩
        have bx := wi_bd gk 12 (by omega)
        rw [← hx] at bx
        have Wx := hid (fun w => re_i64 (within_any gk 12 w (by omega) (by omega)) hx.symm)
        clear hx
        obtain ⟨bx1, bx2⟩ := bx
        have i0 : (0 : Int) ≤ k := by omega
        have cgk := RR.out
        go_wp2_with fail
        clear cgk
        refine (Wx.out _).mono ?_
        rintro x w_ ⟨rfl, rfl⟩
        go_simp
        have xw : IntKind.i64.wrap ((x : Int) - 2) = (x : Int) - 2 := IntWalk.i64_in _ (by omega)
        obtain ⟨v, hv⟩ : ∃ v, v = (x : Int) - 2 := ⟨_, rfl⟩
        have HX := hid hv
        clear xw hv
        by_cases hin : 2 ≤ x ∧ x < L.length + 2
        · obtain ⟨i, hi⟩ : ∃ i : Nat, (i : Int) = v := ⟨x - 2, by have := HX.out; omega⟩
          have hil : i < L.length := by have := HX.out; omega
          subst hi
          have xs : (x : Int) - 2 = (i : Int) := HX.out.symm
          clear HX
          have LEN := hid (show (L.eraseIdx i).length = L.length - 1 from by rw [List.length_eraseIdx, if_pos hil])
          have SUB := hid ((List.eraseIdx_sublist L i).trans HL_.out)
          have LO := hid (ya_lose Y2.out i (by show i < (L.map (wN p)).length; rw [List.length_map]; exact hil))
          rw [lose_yl] at LO
          have NO := hid (fun (w : World) (h : YA [] W w D (yl p u (L.eraseIdx i)) [thB P 330 (pc p)] 16) => (show Calls Try.prog 12 #[.pointer (some ⟨D.Y, 0, none⟩)] w fun x w' => x = .returned (.int .i64 ((L.length - 1 : Nat) : Int)) ∧ w = w' from by have := ya_notes h; rwa [show (yl p u (L.eraseIdx i)).ns.length = L.length - 1 from by rw [← LEN.out]; show ((L.eraseIdx i).map (wN p)).length = _; rw [List.length_map]] at this))
          obtain ⟨n, hn⟩ : ∃ n, n = L.length := ⟨_, rfl⟩
          rw [← hn] at hle hil LEN NO hin ⊢
          have HN := hid hn
          clear hn
          obtain ⟨n1', hn1'⟩ : ∃ m, n - 1 = m := ⟨_, rfl⟩
          rw [hn1'] at LEN NO
          have xn : IntKind.i64.wrap ((n : Int) - 1) = (n1' : Int) := by rw [show (n : Int) - 1 = (n1' : Int) from by omega]; exact IntWalk.i64_in _ (by omega)
          have j0 : (0 : Int) ≤ i := by omega
          have j1 : (i : Int) < n := by omega
          go_wp2_with fail
          refine LO.out.mono ?_
          rintro e_ w6 ⟨rfl, hY⟩
          have Y3 := hid hY
          clear hY Y2 LO
          go_simp
          go_wp2_with fail
          refine (NO.out _ Y3.out).mono ?_
          rintro e_ w' ⟨rfl, rfl⟩
          go_simp
          go_wp2_with fail
          go_roundw
          case rel => exact ⟨k + 1, L.eraseIdx i, by omega, by omega, by rw [LEN.out], by go_num, SUB.out, Y3.out⟩
          case measure => simp [intOf]; omega
        · have hb : hasB v L.length = false := by rw [HX.out, hasB_lt]; simp; omega
          have LO := hid (ya_loseN Y2.out v (by show hasB v (L.map (wN p)).length = false; rw [List.length_map]; exact hb))
          have NO := hid (ya_notes Y2.out)
          rw [show (yl p u L).ns.length = L.length from by show (L.map (wN p)).length = _; rw [List.length_map]] at NO
          obtain ⟨n, hn⟩ : ∃ n, n = L.length := ⟨_, rfl⟩
          rw [← hn] at hle NO hin ⊢
          have HN := hid hn
          clear hn hb
          by_cases hvn : 2 ≤ x
          · have j0 : (0 : Int) ≤ v := by have := HX.out; omega
            have j1 : ¬ v < (n : Int) := by have := HX.out; omega
            have xs : (x : Int) - 2 = v := HX.out.symm
            clear HX
            go_wp2_with fail
            refine LO.out.mono ?_
            rintro e_ w' ⟨rfl, rfl⟩
            go_simp
            go_wp2_with fail
            refine NO.out.mono ?_
            rintro e_ w' ⟨rfl, rfl⟩
            go_simp
            go_wp2_with fail
            go_roundw
            case rel => exact ⟨k + 1, L, by omega, by omega, by rw [HN.out], by go_num, HL_.out, Y2.out⟩
            case measure => simp [intOf]; omega
          · have j0 : ¬ (0 : Int) ≤ v := by have := HX.out; omega
            have xs : (x : Int) - 2 = v := HX.out.symm
            clear HX
            go_wp2_with fail
            refine LO.out.mono ?_
            rintro e_ w' ⟨rfl, rfl⟩
            go_simp
            go_wp2_with fail
            refine NO.out.mono ?_
            rintro e_ w' ⟨rfl, rfl⟩
            go_simp
            go_wp2_with fail
            go_roundw
            case rel => exact ⟨k + 1, L, by omega, by omega, by rw [HN.out], by go_num, HL_.out, Y2.out⟩
            case measure => simp [intOf]; omega

set_option maxRecDepth 100000 in
theorem lifted (os : Os) (started : os.Started) (H : Type) (enc : TypeId × Value → H) :
    ReturnsInHanded {} Try.checked os 7 .any (Rows.yardLossesSpec.pre6 enc Try.prog Try.f7 [] false) (Rows.yardLossesSpec.post enc Try.prog Try.f7 false true false false) :=
  law_step (s := Rows.yardLossesSpec) started (by kernel_rfl) Try.func7
    (ChangeSpec.witness6 (s := Rows.yardLossesSpec) (enc := enc) (C := Try.checked) false ⟨#[], #[.slice none 0 0, .int .i64 0, .slice none 0 0], []⟩ 8 (by kernel_rfl) (by kernel_rfl) (by kernel_rfl) (by kernel_rfl))
    rfl (by rw [Try.params7]; decide +kernel) rfl Try.underlying4
    (fun ds h => by
      rw [Try.params7] at h
      match ds, h with
      | [_, _, _], _ => rfl)
    (fun W base args ds ps hval hA hsz => by
      rw [Try.params7] at hA hval hsz
      obtain ⟨v0, vs0, d0, ds0, p0, q0, hargs, rfl, rfl, h0, r0⟩ := trodAll_cons hA
      obtain ⟨v1, vs1, d1, ds1, p1, q1, rfl, rfl, rfl, h1, r1⟩ := trodAll_cons r0
      obtain ⟨v2, vs2, d2, ds2, p2, q2, rfl, rfl, rfl, h2, r2⟩ := trodAll_cons r1
      obtain ⟨rfl, rfl, rfl⟩ := trodAll_nil r2
      obtain rfl : args = #[v0, v1, v2] := by cases args; simp_all
      obtain ⟨A0, n0, c0, g0, rfl, hn0, hc0, hs0, hw0, hl0, hd0⟩ := open_row Try.underlying22 Try.underlying3 (by kernel_rfl) (hval 0 22 v0 rfl rfl) h0
      have re0 : c0 * 8 ≤ 140737488351232 := by
        rcases hd0 with ⟨_, h0⟩ | ⟨xs, ys, h1, h2⟩
        · omega
        · have := sized_slice hsz (j := 0) (t := 22) (e := 3) rfl (by rw [h1]; rfl) Try.underlying22
          rw [h2, show Try.prog.bytesOf 3 = 8 from by kernel_rfl] at this
          simpa [reachBytes] using this
      obtain ⟨a1, rfl, rfl, rfl, w1⟩ := open_int Try.underlying3 (hval 1 3 v1 rfl rfl) h1
      obtain ⟨A2, n2, c2, g2, rfl, hn2, hc2, hs2, hw2, hl2, hd2⟩ := open_row Try.underlying22 Try.underlying3 (by kernel_rfl) (hval 2 22 v2 rfl rfl) h2
      have re2 : c2 * 8 ≤ 140737488351232 := by
        rcases hd2 with ⟨_, h0⟩ | ⟨xs, ys, h1, h2⟩
        · omega
        · have := sized_slice hsz (j := 2) (t := 22) (e := 3) rfl (by rw [h1]; rfl) Try.underlying22
          rw [h2, show Try.prog.bytesOf 3 = 8 from by kernel_rfl] at this
          simpa [reachBytes] using this
      exact walk W A0 n0 c0 g0 hn0 hc0 hs0 (fun j => bounds_i64 (hw0 j)) hl0 re0 a1 (bounds_i64 w1) A2 n2 c2 g2 hn2 hc2 hs2 (fun j => bounds_i64 (hw2 j)) hl2 re2)

theorem proved : Rows.YardLossesSaid :=
  OpenClaim.holds_of_wide 7 Try.f7 rfl rfl rfl rfl rfl rfl rfl ⟨rfl, rfl, rfl, rfl, rfl⟩ rfl rfl rfl rfl rfl (by kernel_rfl) Try.func7 (by kernel_rfl)
    (of_decide_eq_true (by kernel_rfl)) (by unfold Func.isWrapper; first | (rw [if_pos (by decide +kernel)]; kernel_rfl) | (rw [if_neg (by decide +kernel)]; exact ⟨rfl, rfl⟩))
    (fun os started H enc _ => lifted os started H enc)
end Go.Proofs.Ytnnilkdlpampdaa.yardLosses
