/- roundhouselaw8.PulseDrops answers true for every length, slot, numbers; no condition. -/
import Derived.Test.YtcbnebabeekegaaPulKnown
import Derived.BigQuiet
import Derived.Deep.RegionHeld3
import Derived.Deep.Cut
namespace Go.Proofs.Ytcbnebabeekegaa.pulseDrops
set_option linter.unusedVariables false
set_option linter.unusedSimpArgs false
open Go.RowKit Go.ChangeShapes Go.WideShapes Go.ChangeAt

theorem cur_upd (M : Int → Option Life) (s : Int) (l : Life) : cur (upd M s (some l)) s = l := by simp [cur, upd]
theorem rowUp_bd (wh : Bool) (lo : Int) (x : Bool) (k : Nat) (h0 : 0 ≤ lo) (h1 : lo ≤ k) : 0 ≤ rowUp wh lo x ∧ rowUp wh lo x ≤ (k + 1 : Nat) := by
  unfold rowUp
  split <;> omega
theorem st_ff (r f la lo now : Int) (wh : Bool) : toldV r f (false, la, wh, lo) now false = 0 ∧ toldL r f (false, la, wh, lo) now false = (false, now, false, rowUp wh lo false) := by
  simp [toldV, toldL, verd, lifeUp]
theorem st_tt (r f la lo now : Int) (wh : Bool) : toldV r f (true, la, wh, lo) now true = 0 ∧ toldL r f (true, la, wh, lo) now true = (true, now, true, rowUp wh lo true) := by
  simp [toldV, toldL, verd, lifeUp]
theorem st_ft (r f la lo now : Int) (wh : Bool) (h : rowUp wh lo true < r) : toldV r f (false, la, wh, lo) now true = 0 ∧ toldL r f (false, la, wh, lo) now true = (false, now, true, rowUp wh lo true) := by
  have h := Int.not_le.mpr h
  simp [toldV, toldL, verd, lifeUp, h]
theorem st_ft1 (r f la lo now : Int) (wh : Bool) (h : r ≤ rowUp wh lo true) : toldV r f (false, la, wh, lo) now true = 1 ∧ toldL r f (false, la, wh, lo) now true = (true, now, false, 0) := by
  simp [toldV, toldL, verd, lifeUp, h]
theorem toldL_bd (r f : Int) (l : Life) (now : Int) (ok : Bool) (k : Nat) (h0 : 0 ≤ l.2.2.2) (h1 : l.2.2.2 ≤ k) : 0 ≤ (toldL r f l now ok).2.2.2 ∧ (toldL r f l now ok).2.2.2 ≤ (k + 1 : Nat) := by
  unfold toldL lifeUp
  split
  · exact rowUp_bd _ _ _ k h0 h1
  · exact ⟨show (0:Int) ≤ 0 from by decide, by show (0:Int) ≤ _; omega⟩
set_option maxRecDepth 100000 in
set_option maxHeartbeats 4000000 in
theorem walk (W : World) (e0 : Int) (r_e0 : -9223372036854775808 ≤ e0 ∧ e0 ≤ 9223372036854775807) (s0 : Int) (r_s0 : -9223372036854775808 ≤ s0 ∧ s0 ≤ 9223372036854775807)
    (n0 : Int) (r_n0 : -9223372036854775808 ≤ n0 ∧ n0 ≤ 9223372036854775807) (m0 : Int) (r_m0 : -9223372036854775808 ≤ m0 ∧ m0 ≤ 9223372036854775807) :
    Calls Try.prog 9 #[.int .i64 e0, .int .i64 s0, .int .i64 n0, .int .i64 m0] W fun e w' => e = .returned (.bool true) ∧ Below W.heap.size W w' := by
  obtain ⟨c, hc⟩ : ∃ x, x = wi e0 9 := ⟨_, rfl⟩
  have bc := wi_bd e0 9 (by omega)
  rw [← hc] at bc
  have Wc := hid (fun w => re_i64 (within_any e0 9 w (by omega) (by omega)) hc.symm)
  clear hc
  obtain ⟨bc1, bc2⟩ := bc
  obtain ⟨s, hs⟩ : ∃ x, x = wi s0 64 := ⟨_, rfl⟩
  have bs := wi_bd s0 64 (by omega)
  rw [← hs] at bs
  have Ws := hid (fun w => re_i64 (within_any s0 64 w (by omega) (by omega)) hs.symm)
  clear hs
  obtain ⟨bs1, bs2⟩ := bs
  obtain ⟨d, hd⟩ : ∃ x, x = wi n0 20 := ⟨_, rfl⟩
  have bd := wi_bd n0 20 (by omega)
  rw [← hd] at bd
  have Wd := hid (fun w => re_i64 (within_any n0 20 w (by omega) (by omega)) hd.symm)
  clear hd
  obtain ⟨bd1, bd2⟩ := bd
  obtain ⟨m, hm⟩ : ∃ x, x = wi m0 20 := ⟨_, rfl⟩
  have bm := wi_bd m0 20 (by omega)
  rw [← hm] at bm
  have Wm := hid (fun w => re_i64 (within_any m0 20 w (by omega) (by omega)) hm.symm)
  clear hm
  obtain ⟨bm1, bm2⟩ := bm
  have hs : I64 s := by unfold I64; omega
  have hsl : 0 ≤ s ∧ s < 64 := ⟨bs1, bs2⟩
  have hi : isSl s = true := by unfold isSl; simp; omega
  have q1 : IntKind.i64.wrap (1 + c) = 1 + c := IntWalk.i64_in _ (by omega)
  have q2 : IntKind.i64.wrap (1 + c - 1) = 1 + c - 1 := IntWalk.i64_in _ (by omega)
  replace hi := hid hi
  go_enter Try.func9, Try.ntmps9
  go_wp2_with fail
  refine (known_any _).mono ?_
  rintro x w ⟨rfl, hB⟩
  try go_simp
  have B := hid hB
  clear hB
  go_wp2_with fail
  refine (Wc.out _).mono ?_
  rintro x w' ⟨rfl, rfl⟩
  try go_simp
  go_wp2_with fail
  refine (new_ok (1 + c) 1 50 (by omega) (by omega) (by omega) _).mono ?_
  rintro x w1 ⟨p, b, rfl, hP, hp, hb, hB1⟩
  try go_simp
  have P1 := hid hP
  have B1 := hid (B.out.trans (hB1.mono B.out.size))
  have hb' : W.heap.size ≤ b := Nat.le_trans B.out.size hb
  clear hP hB1 B
  go_wp2_with fail
  refine (Ws.out _).mono ?_
  rintro x w' ⟨rfl, rfl⟩
  try go_simp
  go_wp2_with fail
  refine (Wd.out _).mono ?_
  rintro x w' ⟨rfl, rfl⟩
  try go_simp
  go_wp2_with fail
  go_loopw [14] (fun i wr => ∃ (k : Nat) (M : Int → Option Life) (l : Life), (k : Int) ≤ d ∧ i = .int .i64 (k : Int) ∧ PulseAt wr p b k (1 + c) 1 50 M ∧ (M s).isSome = decide (0 < k) ∧ cur M s = l ∧ Below W.heap.size W wr ∧ 0 ≤ l.2.2.2 ∧ l.2.2.2 ≤ (k : Int)) (fun i _ => d.toNat - (intOf i).toNat)
  case atStart => exact ⟨0, _, _, by omega, rfl, P1.out, rfl, rfl, B1.out, show (0:Int) ≤ 0 from by decide, show (0:Int) ≤ ((0:Nat):Int) from by decide⟩
  case round =>
    clear P1 B1
    obtain ⟨k, M, l, hk, rfl, hP, hsome, hcur, hB, h0, h1⟩ := hrel
    replace hP := hid hP
    replace hB := hid hB
    by_cases hlt : (k : Int) < d
    · have k0 : (0 : Int) ≤ k := by omega
      have BL := hid (toldL_bd (1 + c) 1 l k true k h0 h1)
      have H0 := hid h0
      have H1 : Hid (l.2.2.2 ≤ 1000000) := hid (by omega)
      have HC := hid hcur
      clear h0 h1 hsome hcur
      go_wp2_with fail
      refine (told_ok hP.out s k true l (toldL (1 + c) 1 l k true) _ hsl (by omega) HC.out H0.out H1.out rfl rfl).mono ?_
      rintro x w3 ⟨rfl, hP3, hg⟩
      try go_simp
      have P3 := hid hP3
      have B3 := hid (below_step hB.out hg hb' (Nat.le_refl _))
      clear hP3 hg hP hB
      go_wp2_with fail
      go_roundw
      case rel => exact ⟨k + 1, _, _, by omega, by go_num, P3.out, by simp [upd], cur_upd _ _ _, B3.out, BL.out.1, BL.out.2⟩
      case measure => simp [intOf]; omega
    · have hkd : (k : Int) = d := by omega
      clear hcur h0 h1
      have HS := hid hsome
      clear hsome
      have hk2 : 0 < k ∨ k = 0 := by omega
      rcases hk2 with hk2 | hk2
      · have hd0 : 0 < d := by omega
        have hq : decide (0 < k) = true := by simp; omega
        rw [hq] at HS
        clear hq hk2
        go_wp2_with fail
        refine (drop_ok hP.out s true hs HS.out).mono ?_
        rintro x w3 ⟨rfl, hP3, hg⟩
        try go_simp
        have P3 := hid hP3
        have B3 := hid (below_step hB.out hg hb' (Nat.le_refl _))
        clear hP3 hg hP hB
        go_wp2_with fail
        refine (drop_ok P3.out s false hs (by simp [upd])).mono ?_
        rintro x w4 ⟨rfl, hP3, hg⟩
        try go_simp
        have P4 := hid hP3
        have B4 := hid (below_step B3.out hg hb' (Nat.le_refl _))
        clear hP3 hg P3 B3
        go_wp2_with fail
        refine (up_ok P4.out s false hs (by simp [cur, upd, zLife])).mono ?_
        rintro x w' ⟨rfl, rfl⟩
        try go_simp
        go_wp2_with fail
        refine (due_ok P4.out s d true hs (by simp [cur, upd, zLife]) ⟨bd1, by omega⟩ (by rw [hi.out]; simp [upd])).mono ?_
        rintro x w5 ⟨rfl, hB⟩
        try go_simp
        have P5 := hid (P4.out.below hB)
        have B5 := hid (B4.out.trans (hB.mono B4.out.size))
        clear hB P4 B4
        go_wp2_with fail
        refine (Wm.out _).mono ?_
        rintro x w' ⟨rfl, rfl⟩
        try go_simp
        go_wp2_with fail
        go_loopw [18, 19] (fun i _ wr => ∃ (j : Nat) (N : Int → Option Life) (u : Bool) (la : Int) (wh : Bool) (lo : Int), (j : Int) ≤ m ∧ i = .int .i64 (j : Int) ∧ PulseAt wr p b (k + j) (1 + c) 1 50 N ∧ cur N s = (u, la, wh, lo) ∧ Below W.heap.size W wr ∧ (u = false ∧ (j : Int) < 1 + c ∧ rowUp wh lo true = j + 1 ∨ u = true ∧ 1 + c ≤ (j : Int)) ∧ 0 ≤ lo ∧ lo ≤ (j : Int)) (fun i _ _ => m.toNat - (intOf i).toNat)
        case atStart => exact ⟨0, _, false, 0, false, 0, by omega, rfl, P5.out, by simp [cur, upd, zLife], B5.out, .inl ⟨rfl, by omega, rfl⟩, by decide, by decide⟩
        case round =>
          clear P5 B5
          obtain ⟨j, N, u, la, wh, lo, hj, rfl, hP, hcur, hB, hc, h0, h1⟩ := hrel
          replace hP := hid hP
          replace hB := hid hB
          have H0 := hid h0
          have H1 := hid h1
          have HC := hid hcur
          clear h0 h1 hcur
          by_cases hjt : (j : Int) < m
          · have j0 : (0 : Int) ≤ j := by omega
            have q3 : IntKind.i64.wrap (100 + j) = 100 + j := IntWalk.i64_in _ (by omega)
            have RB := hid (rowUp_bd wh lo true j H0.out H1.out)
            rcases hc with ⟨rfl, hkc, hru⟩ | ⟨rfl, hkc⟩
            · by_cases hr : 1 + c ≤ rowUp wh lo true
              · have HR := hid hr
                have HK : Hid (1 + c ≤ ((j + 1 : Nat) : Int)) := hid (by omega)
                have e1 : ((j : Int) == 1 + c - 1) = true := by simp; omega
                have e2 : ((j : Int) == c) = true := by simp; omega
                go_wp2_with fail
                refine (told_ok hP.out s (100 + (j : Int)) true (false, la, wh, lo) (true, 100 + (j : Int), false, 0) 1 hsl (by omega) HC.out H0.out (by show lo ≤ 1000000; have := H1.out; omega) (st_ft1 _ _ _ _ _ _ HR.out).1 (st_ft1 _ _ _ _ _ _ HR.out).2).mono ?_
                rintro x w3 ⟨rfl, hP3, hg⟩
                try go_simp
                have P3 := hid hP3
                have B3 := hid (below_step hB.out hg hb' (Nat.le_refl _))
                clear hP3 hg hP hB
                go_wp2_with fail
                go_roundw
                case rel => exact ⟨j + 1, _, _, _, _, _, by omega, by go_num, P3.out, cur_upd _ _ _, B3.out, .inr ⟨rfl, HK.out⟩, by decide, by omega⟩
                case measure => simp [intOf]; omega
              · have HU : Hid (rowUp true (rowUp wh lo true) true = ((j + 1 : Nat) : Int) + 1) := hid (by rw [hru]; unfold rowUp; simp)
                have HK : Hid (((j + 1 : Nat) : Int) < 1 + c) := hid (by omega)
                have HR := hid (Int.not_le.mp hr)
                have e1 : ((j : Int) == 1 + c - 1) = false := by simp; omega
                have e2 : ((j : Int) == c) = false := by simp; omega
                go_wp2_with fail
                refine (told_ok hP.out s (100 + (j : Int)) true (false, la, wh, lo) (false, 100 + (j : Int), true, rowUp wh lo true) 0 hsl (by omega) HC.out H0.out (by show lo ≤ 1000000; have := H1.out; omega) (st_ft _ _ _ _ _ _ HR.out).1 (st_ft _ _ _ _ _ _ HR.out).2).mono ?_
                rintro x w3 ⟨rfl, hP3, hg⟩
                try go_simp
                have P3 := hid hP3
                have B3 := hid (below_step hB.out hg hb' (Nat.le_refl _))
                clear hP3 hg hP hB
                go_wp2_with fail
                go_roundw
                case rel => exact ⟨j + 1, _, _, _, _, _, by omega, by go_num, P3.out, cur_upd _ _ _, B3.out, .inl ⟨rfl, HK.out, HU.out⟩, RB.out.1, RB.out.2⟩
                case measure => simp [intOf]; omega
            · have HK : Hid (1 + c ≤ ((j + 1 : Nat) : Int)) := hid (by omega)
              have e1 : ((j : Int) == 1 + c - 1) = false := by simp; omega
              have e2 : ((j : Int) == c) = false := by simp; omega
              go_wp2_with fail
              refine (told_ok hP.out s (100 + (j : Int)) true (true, la, wh, lo) (true, 100 + (j : Int), true, rowUp wh lo true) 0 hsl (by omega) HC.out H0.out (by show lo ≤ 1000000; have := H1.out; omega) (st_tt _ _ _ _ _ _).1 (st_tt _ _ _ _ _ _).2).mono ?_
              rintro x w3 ⟨rfl, hP3, hg⟩
              try go_simp
              have P3 := hid hP3
              have B3 := hid (below_step hB.out hg hb' (Nat.le_refl _))
              clear hP3 hg hP hB
              go_wp2_with fail
              go_roundw
              case rel => exact ⟨j + 1, _, _, _, _, _, by omega, by go_num, P3.out, cur_upd _ _ _, B3.out, .inr ⟨rfl, HK.out⟩, RB.out.1, RB.out.2⟩
              case measure => simp [intOf]; omega
          · have hjm : (j : Int) = m := by omega
            rcases hc with ⟨rfl, hkc, hru⟩ | ⟨rfl, hkc⟩
            · have e1 : decide (1 + c ≤ m) = false := by simp; omega
              clear hjm hkc hru
              go_wp2_with fail
              refine (up_ok hP.out s false hs (by rw [HC.out])).mono ?_
              rintro x w' ⟨rfl, rfl⟩
              try go_simp
              go_wp2_with fail
              go_ret
              exact ⟨rfl, hB.out⟩
            · have e1 : decide (1 + c ≤ m) = true := by simp; omega
              clear hjm hkc
              go_wp2_with fail
              refine (up_ok hP.out s true hs (by rw [HC.out])).mono ?_
              rintro x w' ⟨rfl, rfl⟩
              try go_simp
              go_wp2_with fail
              go_ret
              exact ⟨rfl, hB.out⟩
      · have hd0 : ¬ 0 < d := by omega
        have hq : decide (0 < k) = false := by simp; omega
        rw [hq] at HS
        clear hq hk2
        go_wp2_with fail
        refine (drop_ok hP.out s false hs HS.out).mono ?_
        rintro x w3 ⟨rfl, hP3, hg⟩
        try go_simp
        have P3 := hid hP3
        have B3 := hid (below_step hB.out hg hb' (Nat.le_refl _))
        clear hP3 hg hP hB
        go_wp2_with fail
        refine (drop_ok P3.out s false hs (by simp [upd])).mono ?_
        rintro x w4 ⟨rfl, hP3, hg⟩
        try go_simp
        have P4 := hid hP3
        have B4 := hid (below_step B3.out hg hb' (Nat.le_refl _))
        clear hP3 hg P3 B3
        go_wp2_with fail
        refine (up_ok P4.out s false hs (by simp [cur, upd, zLife])).mono ?_
        rintro x w' ⟨rfl, rfl⟩
        try go_simp
        go_wp2_with fail
        refine (due_ok P4.out s d true hs (by simp [cur, upd, zLife]) ⟨bd1, by omega⟩ (by rw [hi.out]; simp [upd])).mono ?_
        rintro x w5 ⟨rfl, hB⟩
        try go_simp
        have P5 := hid (P4.out.below hB)
        have B5 := hid (B4.out.trans (hB.mono B4.out.size))
        clear hB P4 B4
        go_wp2_with fail
        refine (Wm.out _).mono ?_
        rintro x w' ⟨rfl, rfl⟩
        try go_simp
        go_wp2_with fail
        go_loopw [18, 19] (fun i _ wr => ∃ (j : Nat) (N : Int → Option Life) (u : Bool) (la : Int) (wh : Bool) (lo : Int), (j : Int) ≤ m ∧ i = .int .i64 (j : Int) ∧ PulseAt wr p b (k + j) (1 + c) 1 50 N ∧ cur N s = (u, la, wh, lo) ∧ Below W.heap.size W wr ∧ (u = false ∧ (j : Int) < 1 + c ∧ rowUp wh lo true = j + 1 ∨ u = true ∧ 1 + c ≤ (j : Int)) ∧ 0 ≤ lo ∧ lo ≤ (j : Int)) (fun i _ _ => m.toNat - (intOf i).toNat)
        case atStart => exact ⟨0, _, false, 0, false, 0, by omega, rfl, P5.out, by simp [cur, upd, zLife], B5.out, .inl ⟨rfl, by omega, rfl⟩, by decide, by decide⟩
        case round =>
          clear P5 B5
          obtain ⟨j, N, u, la, wh, lo, hj, rfl, hP, hcur, hB, hc, h0, h1⟩ := hrel
          replace hP := hid hP
          replace hB := hid hB
          have H0 := hid h0
          have H1 := hid h1
          have HC := hid hcur
          clear h0 h1 hcur
          by_cases hjt : (j : Int) < m
          · have j0 : (0 : Int) ≤ j := by omega
            have q3 : IntKind.i64.wrap (100 + j) = 100 + j := IntWalk.i64_in _ (by omega)
            have RB := hid (rowUp_bd wh lo true j H0.out H1.out)
            rcases hc with ⟨rfl, hkc, hru⟩ | ⟨rfl, hkc⟩
            · by_cases hr : 1 + c ≤ rowUp wh lo true
              · have HR := hid hr
                have HK : Hid (1 + c ≤ ((j + 1 : Nat) : Int)) := hid (by omega)
                have e1 : ((j : Int) == 1 + c - 1) = true := by simp; omega
                have e2 : ((j : Int) == c) = true := by simp; omega
                go_wp2_with fail
                refine (told_ok hP.out s (100 + (j : Int)) true (false, la, wh, lo) (true, 100 + (j : Int), false, 0) 1 hsl (by omega) HC.out H0.out (by show lo ≤ 1000000; have := H1.out; omega) (st_ft1 _ _ _ _ _ _ HR.out).1 (st_ft1 _ _ _ _ _ _ HR.out).2).mono ?_
                rintro x w3 ⟨rfl, hP3, hg⟩
                try go_simp
                have P3 := hid hP3
                have B3 := hid (below_step hB.out hg hb' (Nat.le_refl _))
                clear hP3 hg hP hB
                go_wp2_with fail
                go_roundw
                case rel => exact ⟨j + 1, _, _, _, _, _, by omega, by go_num, P3.out, cur_upd _ _ _, B3.out, .inr ⟨rfl, HK.out⟩, by decide, by omega⟩
                case measure => simp [intOf]; omega
              · have HU : Hid (rowUp true (rowUp wh lo true) true = ((j + 1 : Nat) : Int) + 1) := hid (by rw [hru]; unfold rowUp; simp)
                have HK : Hid (((j + 1 : Nat) : Int) < 1 + c) := hid (by omega)
                have HR := hid (Int.not_le.mp hr)
                have e1 : ((j : Int) == 1 + c - 1) = false := by simp; omega
                have e2 : ((j : Int) == c) = false := by simp; omega
                go_wp2_with fail
                refine (told_ok hP.out s (100 + (j : Int)) true (false, la, wh, lo) (false, 100 + (j : Int), true, rowUp wh lo true) 0 hsl (by omega) HC.out H0.out (by show lo ≤ 1000000; have := H1.out; omega) (st_ft _ _ _ _ _ _ HR.out).1 (st_ft _ _ _ _ _ _ HR.out).2).mono ?_
                rintro x w3 ⟨rfl, hP3, hg⟩
                try go_simp
                have P3 := hid hP3
                have B3 := hid (below_step hB.out hg hb' (Nat.le_refl _))
                clear hP3 hg hP hB
                go_wp2_with fail
                go_roundw
                case rel => exact ⟨j + 1, _, _, _, _, _, by omega, by go_num, P3.out, cur_upd _ _ _, B3.out, .inl ⟨rfl, HK.out, HU.out⟩, RB.out.1, RB.out.2⟩
                case measure => simp [intOf]; omega
            · have HK : Hid (1 + c ≤ ((j + 1 : Nat) : Int)) := hid (by omega)
              have e1 : ((j : Int) == 1 + c - 1) = false := by simp; omega
              have e2 : ((j : Int) == c) = false := by simp; omega
              go_wp2_with fail
              refine (told_ok hP.out s (100 + (j : Int)) true (true, la, wh, lo) (true, 100 + (j : Int), true, rowUp wh lo true) 0 hsl (by omega) HC.out H0.out (by show lo ≤ 1000000; have := H1.out; omega) (st_tt _ _ _ _ _ _).1 (st_tt _ _ _ _ _ _).2).mono ?_
              rintro x w3 ⟨rfl, hP3, hg⟩
              try go_simp
              have P3 := hid hP3
              have B3 := hid (below_step hB.out hg hb' (Nat.le_refl _))
              clear hP3 hg hP hB
              go_wp2_with fail
              go_roundw
              case rel => exact ⟨j + 1, _, _, _, _, _, by omega, by go_num, P3.out, cur_upd _ _ _, B3.out, .inr ⟨rfl, HK.out⟩, RB.out.1, RB.out.2⟩
              case measure => simp [intOf]; omega
          · have hjm : (j : Int) = m := by omega
            rcases hc with ⟨rfl, hkc, hru⟩ | ⟨rfl, hkc⟩
            · have e1 : decide (1 + c ≤ m) = false := by simp; omega
              clear hjm hkc hru
              go_wp2_with fail
              refine (up_ok hP.out s false hs (by rw [HC.out])).mono ?_
              rintro x w' ⟨rfl, rfl⟩
              try go_simp
              go_wp2_with fail
              go_ret
              exact ⟨rfl, hB.out⟩
            · have e1 : decide (1 + c ≤ m) = true := by simp; omega
              clear hjm hkc
              go_wp2_with fail
              refine (up_ok hP.out s true hs (by rw [HC.out])).mono ?_
              rintro x w' ⟨rfl, rfl⟩
              try go_simp
              go_wp2_with fail
              go_ret
              exact ⟨rfl, hB.out⟩

set_option maxRecDepth 100000 in
theorem lifted (os : Os) (started : os.Started) (H : Type) (enc : TypeId × Value → H) :
    ReturnsInHanded {} Try.checked os 9 .any (Rows.pulseDropsSpec.pre6 enc Try.prog Try.f9 [] false) (Rows.pulseDropsSpec.post enc Try.prog Try.f9 false true false false) :=
  law_step (s := Rows.pulseDropsSpec) started (by kernel_rfl) Try.func9
    (ChangeSpec.witness6 (s := Rows.pulseDropsSpec) (enc := enc) (C := Try.checked) false ⟨#[], #[.int .i64 0, .int .i64 0, .int .i64 0, .int .i64 0], []⟩ 8 (by kernel_rfl) (by kernel_rfl) (by kernel_rfl) (by kernel_rfl))
    rfl (by rw [Try.params9]; decide +kernel) rfl Try.underlying4
    (fun ds h => by
      rw [Try.params9] at h
      match ds, h with
      | [_, _, _, _], _ => rfl)
    (fun W base args ds ps hval hA hsz => by
      rw [Try.params9] at hA hval hsz
      obtain ⟨v0, vs0, d0, ds0, p0, q0, hargs, rfl, rfl, h0, r0⟩ := trodAll_cons hA
      obtain ⟨v1, vs1, d1, ds1, p1, q1, rfl, rfl, rfl, h1, r1⟩ := trodAll_cons r0
      obtain ⟨v2, vs2, d2, ds2, p2, q2, rfl, rfl, rfl, h2, r2⟩ := trodAll_cons r1
      obtain ⟨v3, vs3, d3, ds3, p3, q3, rfl, rfl, rfl, h3, r3⟩ := trodAll_cons r2
      obtain ⟨rfl, rfl, rfl⟩ := trodAll_nil r3
      obtain rfl : args = #[v0, v1, v2, v3] := by cases args; simp_all
      obtain ⟨a0, rfl, rfl, rfl, w0⟩ := open_int Try.underlying3 (hval 0 3 v0 rfl rfl) h0
      obtain ⟨a1, rfl, rfl, rfl, w1⟩ := open_int Try.underlying3 (hval 1 3 v1 rfl rfl) h1
      obtain ⟨a2, rfl, rfl, rfl, w2⟩ := open_int Try.underlying3 (hval 2 3 v2 rfl rfl) h2
      obtain ⟨a3, rfl, rfl, rfl, w3⟩ := open_int Try.underlying3 (hval 3 3 v3 rfl rfl) h3
      exact walk W a0 (bounds_i64 w0) a1 (bounds_i64 w1) a2 (bounds_i64 w2) a3 (bounds_i64 w3))

theorem proved : Rows.PulseDropsSaid :=
  OpenClaim.holds_of_wide 9 Try.f9 rfl rfl rfl rfl rfl rfl rfl ⟨rfl, rfl, rfl, rfl, rfl⟩ rfl rfl rfl rfl rfl (by kernel_rfl) Try.func9 (by kernel_rfl)
    (of_decide_eq_true (by kernel_rfl)) (by unfold Func.isWrapper; first | (rw [if_pos (by decide +kernel)]; kernel_rfl) | (rw [if_neg (by decide +kernel)]; exact ⟨rfl, rfl⟩))
    (fun os started H enc _ => lifted os started H enc)
end Go.Proofs.Ytcbnebabeekegaa.pulseDrops
