/- roundhouselaw8.PulseRows answers true for every two lengths, slot, row; no condition. -/
import Derived.Test.YtcbnebabeekegaaPulSt
import Derived.BigQuiet
import Derived.Deep.RegionHeld3
import Derived.Deep.Cut
namespace Go.Proofs.Ytcbnebabeekegaa.pulseRows
set_option linter.unusedVariables false
set_option linter.unusedSimpArgs false
open Go.RowKit Go.ChangeShapes Go.WideShapes Go.ChangeAt

set_option maxRecDepth 100000 in
set_option maxHeartbeats 16000000 in
theorem walk (W : World) (e0 : Int) (r_e0 : -9223372036854775808 ≤ e0 ∧ e0 ≤ 9223372036854775807) (f0 : Int) (r_f0 : -9223372036854775808 ≤ f0 ∧ f0 ≤ 9223372036854775807) (s0 : Int) (r_s0 : -9223372036854775808 ≤ s0 ∧ s0 ≤ 9223372036854775807)
    (A1 : Option Addr) (n1 c1 : Nat) (g1 : Nat → Int) (hn1 : n1 ≤ c1) (hc1 : c1 ≤ maxLen) (hr1 : Is W A1 n1 g1) (hg1 : IsI g1) (hl1 : ∀ ad, A1 = some ad → 0 < n1 → ad.block < W.heap.size) (re1 : c1 * 8 ≤ 140737488351232) :
    Calls Try.prog 5 #[.int .i64 e0, .int .i64 f0, .int .i64 s0, .slice A1 n1 c1] W fun e w' => e = .returned (.bool true) ∧ Below W.heap.size W w' := by
  obtain ⟨c, hc⟩ : ∃ x, x = wi e0 10 := ⟨_, rfl⟩
  have bc := wi_bd e0 10 (by omega)
  rw [← hc] at bc
  have Wc := hid (fun w => re_i64 (within_any e0 10 w (by omega) (by omega)) hc.symm)
  clear hc
  obtain ⟨bc1, bc2⟩ := bc
  obtain ⟨f, hf⟩ : ∃ x, x = wi f0 10 := ⟨_, rfl⟩
  have bf := wi_bd f0 10 (by omega)
  rw [← hf] at bf
  have Wf := hid (fun w => re_i64 (within_any f0 10 w (by omega) (by omega)) hf.symm)
  clear hf
  obtain ⟨bf1, bf2⟩ := bf
  obtain ⟨s, hs⟩ : ∃ x, x = wi s0 64 := ⟨_, rfl⟩
  have bs := wi_bd s0 64 (by omega)
  rw [← hs] at bs
  have Ws := hid (fun w => re_i64 (within_any s0 64 w (by omega) (by omega)) hs.symm)
  clear hs
  obtain ⟨bs1, bs2⟩ := bs
  have hs : I64 s := by unfold I64; omega
  have hsl : 0 ≤ s ∧ s < 64 := ⟨bs1, bs2⟩
  unfold maxLen at hc1
  have hnm : (n1 : Int) ≤ 9223372036854775807 := by have := hn1; omega
  clear hl1 re1
  have q1 : IntKind.i64.wrap (1 + c) = 1 + c := IntWalk.i64_in _ (by omega)
  have q2 : IntKind.i64.wrap (1 + f) = 1 + f := IntWalk.i64_in _ (by omega)
  go_enter Try.func5, Try.ntmps5
  go_wp2_with fail
  refine (known_any _).mono ?_
  rintro x w ⟨rfl, hB⟩
  try go_simp
  have B := hid hB
  clear hB
  go_wp2_with fail
  refine (Wc.out _).mono ?_
  rintro x w' ⟨rfl, rfl⟩
  try go_simp
  go_wp2_with fail
  refine (Wf.out _).mono ?_
  rintro x w' ⟨rfl, rfl⟩
  try go_simp
  go_wp2_with fail
  refine (new_ok (1 + c) (1 + f) 1 (by omega) (by omega) (by omega) _).mono ?_
  rintro x w1 ⟨p, b, rfl, hP, hp, hb, hB1⟩
  try go_simp
  have P1 := hid hP
  have B1 := hid (B.out.trans (hB1.mono B.out.size))
  have hb' : W.heap.size ≤ b := Nat.le_trans B.out.size hb
  have hp' : W.heap.size ≤ p := Nat.le_trans B.out.size hp
  clear hP hB1 B
  go_wp2_with fail
  refine (Ws.out _).mono ?_
  rintro x w' ⟨rfl, rfl⟩
  try go_simp
  go_wp2_with fail
  go_loopw [14, 15, 16] (fun o d i wr => ∃ (k : Nat) (M : Int → Option Life) (u : Bool) (la : Int) (wh : Bool) (lo : Int) (m : Int), k ≤ n1 ∧ k ≤ 100 ∧ i = .int .i64 (k : Int) ∧ o = .bool u ∧ d = .int .i64 m ∧ PulseAt wr p b k (1 + c) (1 + f) 1 M ∧ cur M s = (u, la, wh, lo) ∧ Below W.heap.size W wr ∧ 0 ≤ lo ∧ lo ≤ (k : Int) ∧ 0 ≤ m ∧ m ≤ 10 ∧ (u = false → m < 1 + c) ∧ (u = true → m < 1 + f) ∧ rowUp wh lo (!u) = m + 1) (fun _ _ i _ => 100 - (intOf i).toNat)
  case atStart => exact ⟨0, _, false, 0, false, 0, 0, by omega, by omega, rfl, rfl, rfl, P1.out, rfl, B1.out, by decide, by decide, by decide, by decide, fun _ => by omega, (fun h => by cases h), rfl⟩
  case round =>
    clear P1 B1
    obtain ⟨k, M, u, la, wh, lo, m, hk, hk60, rfl, rfl, rfl, hP, hcur, hB, h0, h1, m0, m1, ma, mb, hru⟩ := hrel
    replace hP := hid hP
    have R := hid (hr1.below hB (Nat.le_refl _))
    replace hB := hid hB
    by_cases hlt : k < n1 ∧ k < 100
    · obtain ⟨q1, q2⟩ := hlt
      have i0 : (0 : Int) ≤ k := by omega
      have i1 : (k : Int) < n1 := by omega
      have i2 : (k : Int) < 100 := by omega
      obtain ⟨bb, off, rfl, hblt, hcell⟩ := R.out (by omega)
      have c1 : wr.cell? ⟨bb, off + k, none⟩ = some (.int .i64 (g1 k)) := hcell _ (by omega)
      obtain ⟨z, hz⟩ : ∃ z, z = wi (g1 k) 4 := ⟨_, rfl⟩
      have hzb := wi_bd (g1 k) 4 (by omega)
      rw [← hz] at hzb
      obtain ⟨hz0, hz1⟩ := hzb
      have Wz := hid (fun w => re_i64 (within_any (g1 k) 4 w (by omega) (by omega)) hz.symm)
      have RB := hid (fun x => rowUp_bd wh lo x k h0 h1)
      clear hcell hz
      have HC := hid hcur
      have H0 := hid h0
      have H1 : Hid (lo ≤ 1000000) := hid (by omega)
      have HR := hid hru
      clear hcur hru
      cases b1 : decide (0 < z) <;> cases b2 : ((k : Int) / 20 % 2 == 1) <;> cases u
      · replace ma := ma rfl
        clear ma mb
        go_wp2_with fail
        refine (Wz.out _).mono ?_
        rintro x w' ⟨rfl, rfl⟩
        try go_simp
        go_wp2_with fail
        refine (told_ok hP.out s k false (false, la, wh, lo) (false, (k : Int), false, rowUp wh lo false) 0 hsl (by omega) HC.out H0.out H1.out (st_ff _ _ _ _ _ _).1 (st_ff _ _ _ _ _ _).2).mono ?_
        rintro x w3 ⟨rfl, hP3, hg⟩
        try go_simp
        have P3 := hid hP3
        have B3 := hid (below_step hB.out hg hb' (Nat.le_refl _))
        clear hP3 hg hP hB
        go_wp2_with fail
        refine (up_ok P3.out s false hs (by rw [cur_upd])).mono ?_
        rintro x w' ⟨rfl, rfl⟩
        try go_simp
        go_wp2_with fail
        go_roundw
        case rel => exact ⟨k + 1, _, _, _, _, _, _, by omega, by omega, by go_num, rfl, rfl, P3.out, cur_upd _ _ _, B3.out, (RB.out false).1, (RB.out false).2, by decide, by decide, fun _ => by omega, fun _ => by omega, by simp [rowUp]⟩
        case measure => simp [intOf]; omega
      · replace mb := mb rfl
        by_cases hm : m + 1 = 1 + f
        · have e1 : (m + 1 == 1 + f) = true := by simp; omega
          have e2 : (m == f) = true := by simp; omega
          have HX : Hid (1 + f ≤ rowUp wh lo (!true)) := hid (by rw [HR.out]; omega)
          have HY := hid True.intro
          have HM : Hid (0 ≤ m) := hid (by omega)
          have HM2 : Hid (m + 1 ≤ 10) := hid (by omega)
          clear hm ma mb
          go_wp2_with fail
          refine (Wz.out _).mono ?_
          rintro x w' ⟨rfl, rfl⟩
          try go_simp
          go_wp2_with fail
          refine (told_ok hP.out s k false (true, la, wh, lo) (false, (k : Int), false, 0) 2 hsl (by omega) HC.out H0.out H1.out (st_tf1 _ _ _ _ _ _ HX.out).1 (st_tf1 _ _ _ _ _ _ HX.out).2).mono ?_
          rintro x w3 ⟨rfl, hP3, hg⟩
          try go_simp
          have P3 := hid hP3
          have B3 := hid (below_step hB.out hg hb' (Nat.le_refl _))
          clear hP3 hg hP hB
          go_wp2_with fail
          refine (up_ok P3.out s false hs (by rw [cur_upd])).mono ?_
          rintro x w' ⟨rfl, rfl⟩
          try go_simp
          go_wp2_with fail
          go_roundw
          case rel => exact ⟨k + 1, _, _, _, _, _, _, by omega, by omega, by go_num, rfl, rfl, P3.out, cur_upd _ _ _, B3.out, by decide, by omega, by decide, by decide, fun _ => by omega, fun _ => by omega, rfl⟩
          case measure => simp [intOf]; omega
        · have e1 : (m + 1 == 1 + f) = false := by simp; omega
          have e2 : (m == f) = false := by simp; omega
          have HX : Hid (rowUp wh lo (!true) < 1 + f) := hid (by rw [HR.out]; omega)
          have HY : Hid (rowUp false (rowUp wh lo false) false = (m + 1) + 1) := hid (by have := HR.out; simp only [Bool.not_true] at this; rw [this]; simp [rowUp])
          have HM : Hid (m + 1 < 1 + f) := hid (by omega)
          have HM2 : Hid (m + 1 ≤ 10) := hid (by omega)
          clear hm ma mb
          go_wp2_with fail
          refine (Wz.out _).mono ?_
          rintro x w' ⟨rfl, rfl⟩
          try go_simp
          go_wp2_with fail
          refine (told_ok hP.out s k false (true, la, wh, lo) (true, (k : Int), false, rowUp wh lo false) 0 hsl (by omega) HC.out H0.out H1.out (st_tf _ _ _ _ _ _ HX.out).1 (st_tf _ _ _ _ _ _ HX.out).2).mono ?_
          rintro x w3 ⟨rfl, hP3, hg⟩
          try go_simp
          have P3 := hid hP3
          have B3 := hid (below_step hB.out hg hb' (Nat.le_refl _))
          clear hP3 hg hP hB
          go_wp2_with fail
          refine (up_ok P3.out s true hs (by rw [cur_upd])).mono ?_
          rintro x w' ⟨rfl, rfl⟩
          try go_simp
          go_wp2_with fail
          go_roundw
          case rel => exact ⟨k + 1, _, _, _, _, _, _, by omega, by omega, by go_num, rfl, rfl, P3.out, cur_upd _ _ _, B3.out, (RB.out false).1, (RB.out false).2, by omega, HM2.out, (fun h => by cases h), (fun _ => HM.out), HY.out⟩
          case measure => simp [intOf]; omega
      · replace ma := ma rfl
        by_cases hm : m + 1 = 1 + c
        · have e1 : (m + 1 == 1 + c) = true := by simp; omega
          have e2 : (m == c) = true := by simp; omega
          have HX : Hid (1 + c ≤ rowUp wh lo (!false)) := hid (by rw [HR.out]; omega)
          have HY := hid True.intro
          have HM : Hid (0 ≤ m) := hid (by omega)
          have HM2 : Hid (m + 1 ≤ 10) := hid (by omega)
          clear hm ma mb
          go_wp2_with fail
          refine (Wz.out _).mono ?_
          rintro x w' ⟨rfl, rfl⟩
          try go_simp
          go_wp2_with fail
          refine (told_ok hP.out s k true (false, la, wh, lo) (true, (k : Int), false, 0) 1 hsl (by omega) HC.out H0.out H1.out (st_ft1 _ _ _ _ _ _ HX.out).1 (st_ft1 _ _ _ _ _ _ HX.out).2).mono ?_
          rintro x w3 ⟨rfl, hP3, hg⟩
          try go_simp
          have P3 := hid hP3
          have B3 := hid (below_step hB.out hg hb' (Nat.le_refl _))
          clear hP3 hg hP hB
          go_wp2_with fail
          refine (up_ok P3.out s true hs (by rw [cur_upd])).mono ?_
          rintro x w' ⟨rfl, rfl⟩
          try go_simp
          go_wp2_with fail
          go_roundw
          case rel => exact ⟨k + 1, _, _, _, _, _, _, by omega, by omega, by go_num, rfl, rfl, P3.out, cur_upd _ _ _, B3.out, by decide, by omega, by decide, by decide, fun _ => by omega, fun _ => by omega, rfl⟩
          case measure => simp [intOf]; omega
        · have e1 : (m + 1 == 1 + c) = false := by simp; omega
          have e2 : (m == c) = false := by simp; omega
          have HX : Hid (rowUp wh lo (!false) < 1 + c) := hid (by rw [HR.out]; omega)
          have HY : Hid (rowUp true (rowUp wh lo true) true = (m + 1) + 1) := hid (by have := HR.out; simp only [Bool.not_false] at this; rw [this]; simp [rowUp])
          have HM : Hid (m + 1 < 1 + c) := hid (by omega)
          have HM2 : Hid (m + 1 ≤ 10) := hid (by omega)
          clear hm ma mb
          go_wp2_with fail
          refine (Wz.out _).mono ?_
          rintro x w' ⟨rfl, rfl⟩
          try go_simp
          go_wp2_with fail
          refine (told_ok hP.out s k true (false, la, wh, lo) (false, (k : Int), true, rowUp wh lo true) 0 hsl (by omega) HC.out H0.out H1.out (st_ft _ _ _ _ _ _ HX.out).1 (st_ft _ _ _ _ _ _ HX.out).2).mono ?_
          rintro x w3 ⟨rfl, hP3, hg⟩
          try go_simp
          have P3 := hid hP3
          have B3 := hid (below_step hB.out hg hb' (Nat.le_refl _))
          clear hP3 hg hP hB
          go_wp2_with fail
          refine (up_ok P3.out s false hs (by rw [cur_upd])).mono ?_
          rintro x w' ⟨rfl, rfl⟩
          try go_simp
          go_wp2_with fail
          go_roundw
          case rel => exact ⟨k + 1, _, _, _, _, _, _, by omega, by omega, by go_num, rfl, rfl, P3.out, cur_upd _ _ _, B3.out, (RB.out true).1, (RB.out true).2, by omega, HM2.out, (fun _ => HM.out), (fun h => by cases h), HY.out⟩
          case measure => simp [intOf]; omega
      · replace mb := mb rfl
        clear ma mb
        go_wp2_with fail
        refine (Wz.out _).mono ?_
        rintro x w' ⟨rfl, rfl⟩
        try go_simp
        go_wp2_with fail
        refine (told_ok hP.out s k true (true, la, wh, lo) (true, (k : Int), true, rowUp wh lo true) 0 hsl (by omega) HC.out H0.out H1.out (st_tt _ _ _ _ _ _).1 (st_tt _ _ _ _ _ _).2).mono ?_
        rintro x w3 ⟨rfl, hP3, hg⟩
        try go_simp
        have P3 := hid hP3
        have B3 := hid (below_step hB.out hg hb' (Nat.le_refl _))
        clear hP3 hg hP hB
        go_wp2_with fail
        refine (up_ok P3.out s true hs (by rw [cur_upd])).mono ?_
        rintro x w' ⟨rfl, rfl⟩
        try go_simp
        go_wp2_with fail
        go_roundw
        case rel => exact ⟨k + 1, _, _, _, _, _, _, by omega, by omega, by go_num, rfl, rfl, P3.out, cur_upd _ _ _, B3.out, (RB.out true).1, (RB.out true).2, by decide, by decide, fun _ => by omega, fun _ => by omega, by simp [rowUp]⟩
        case measure => simp [intOf]; omega
      · replace ma := ma rfl
        by_cases hm : m + 1 = 1 + c
        · have e1 : (m + 1 == 1 + c) = true := by simp; omega
          have e2 : (m == c) = true := by simp; omega
          have HX : Hid (1 + c ≤ rowUp wh lo (!false)) := hid (by rw [HR.out]; omega)
          have HY := hid True.intro
          have HM : Hid (0 ≤ m) := hid (by omega)
          have HM2 : Hid (m + 1 ≤ 10) := hid (by omega)
          clear hm ma mb
          go_wp2_with fail
          refine (Wz.out _).mono ?_
          rintro x w' ⟨rfl, rfl⟩
          try go_simp
          go_wp2_with fail
          refine (told_ok hP.out s k true (false, la, wh, lo) (true, (k : Int), false, 0) 1 hsl (by omega) HC.out H0.out H1.out (st_ft1 _ _ _ _ _ _ HX.out).1 (st_ft1 _ _ _ _ _ _ HX.out).2).mono ?_
          rintro x w3 ⟨rfl, hP3, hg⟩
          try go_simp
          have P3 := hid hP3
          have B3 := hid (below_step hB.out hg hb' (Nat.le_refl _))
          clear hP3 hg hP hB
          go_wp2_with fail
          refine (up_ok P3.out s true hs (by rw [cur_upd])).mono ?_
          rintro x w' ⟨rfl, rfl⟩
          try go_simp
          go_wp2_with fail
          go_roundw
          case rel => exact ⟨k + 1, _, _, _, _, _, _, by omega, by omega, by go_num, rfl, rfl, P3.out, cur_upd _ _ _, B3.out, by decide, by omega, by decide, by decide, fun _ => by omega, fun _ => by omega, rfl⟩
          case measure => simp [intOf]; omega
        · have e1 : (m + 1 == 1 + c) = false := by simp; omega
          have e2 : (m == c) = false := by simp; omega
          have HX : Hid (rowUp wh lo (!false) < 1 + c) := hid (by rw [HR.out]; omega)
          have HY : Hid (rowUp true (rowUp wh lo true) true = (m + 1) + 1) := hid (by have := HR.out; simp only [Bool.not_false] at this; rw [this]; simp [rowUp])
          have HM : Hid (m + 1 < 1 + c) := hid (by omega)
          have HM2 : Hid (m + 1 ≤ 10) := hid (by omega)
          clear hm ma mb
          go_wp2_with fail
          refine (Wz.out _).mono ?_
          rintro x w' ⟨rfl, rfl⟩
          try go_simp
          go_wp2_with fail
          refine (told_ok hP.out s k true (false, la, wh, lo) (false, (k : Int), true, rowUp wh lo true) 0 hsl (by omega) HC.out H0.out H1.out (st_ft _ _ _ _ _ _ HX.out).1 (st_ft _ _ _ _ _ _ HX.out).2).mono ?_
          rintro x w3 ⟨rfl, hP3, hg⟩
          try go_simp
          have P3 := hid hP3
          have B3 := hid (below_step hB.out hg hb' (Nat.le_refl _))
          clear hP3 hg hP hB
          go_wp2_with fail
          refine (up_ok P3.out s false hs (by rw [cur_upd])).mono ?_
          rintro x w' ⟨rfl, rfl⟩
          try go_simp
          go_wp2_with fail
          go_roundw
          case rel => exact ⟨k + 1, _, _, _, _, _, _, by omega, by omega, by go_num, rfl, rfl, P3.out, cur_upd _ _ _, B3.out, (RB.out true).1, (RB.out true).2, by omega, HM2.out, (fun _ => HM.out), (fun h => by cases h), HY.out⟩
          case measure => simp [intOf]; omega
      · replace mb := mb rfl
        clear ma mb
        go_wp2_with fail
        refine (Wz.out _).mono ?_
        rintro x w' ⟨rfl, rfl⟩
        try go_simp
        go_wp2_with fail
        refine (told_ok hP.out s k true (true, la, wh, lo) (true, (k : Int), true, rowUp wh lo true) 0 hsl (by omega) HC.out H0.out H1.out (st_tt _ _ _ _ _ _).1 (st_tt _ _ _ _ _ _).2).mono ?_
        rintro x w3 ⟨rfl, hP3, hg⟩
        try go_simp
        have P3 := hid hP3
        have B3 := hid (below_step hB.out hg hb' (Nat.le_refl _))
        clear hP3 hg hP hB
        go_wp2_with fail
        refine (up_ok P3.out s true hs (by rw [cur_upd])).mono ?_
        rintro x w' ⟨rfl, rfl⟩
        try go_simp
        go_wp2_with fail
        go_roundw
        case rel => exact ⟨k + 1, _, _, _, _, _, _, by omega, by omega, by go_num, rfl, rfl, P3.out, cur_upd _ _ _, B3.out, (RB.out true).1, (RB.out true).2, by decide, by decide, fun _ => by omega, fun _ => by omega, by simp [rowUp]⟩
        case measure => simp [intOf]; omega
      · replace ma := ma rfl
        clear ma mb
        go_wp2_with fail
        refine (Wz.out _).mono ?_
        rintro x w' ⟨rfl, rfl⟩
        try go_simp
        go_wp2_with fail
        refine (told_ok hP.out s k false (false, la, wh, lo) (false, (k : Int), false, rowUp wh lo false) 0 hsl (by omega) HC.out H0.out H1.out (st_ff _ _ _ _ _ _).1 (st_ff _ _ _ _ _ _).2).mono ?_
        rintro x w3 ⟨rfl, hP3, hg⟩
        try go_simp
        have P3 := hid hP3
        have B3 := hid (below_step hB.out hg hb' (Nat.le_refl _))
        clear hP3 hg hP hB
        go_wp2_with fail
        refine (up_ok P3.out s false hs (by rw [cur_upd])).mono ?_
        rintro x w' ⟨rfl, rfl⟩
        try go_simp
        go_wp2_with fail
        go_roundw
        case rel => exact ⟨k + 1, _, _, _, _, _, _, by omega, by omega, by go_num, rfl, rfl, P3.out, cur_upd _ _ _, B3.out, (RB.out false).1, (RB.out false).2, by decide, by decide, fun _ => by omega, fun _ => by omega, by simp [rowUp]⟩
        case measure => simp [intOf]; omega
      · replace mb := mb rfl
        by_cases hm : m + 1 = 1 + f
        · have e1 : (m + 1 == 1 + f) = true := by simp; omega
          have e2 : (m == f) = true := by simp; omega
          have HX : Hid (1 + f ≤ rowUp wh lo (!true)) := hid (by rw [HR.out]; omega)
          have HY := hid True.intro
          have HM : Hid (0 ≤ m) := hid (by omega)
          have HM2 : Hid (m + 1 ≤ 10) := hid (by omega)
          clear hm ma mb
          go_wp2_with fail
          refine (Wz.out _).mono ?_
          rintro x w' ⟨rfl, rfl⟩
          try go_simp
          go_wp2_with fail
          refine (told_ok hP.out s k false (true, la, wh, lo) (false, (k : Int), false, 0) 2 hsl (by omega) HC.out H0.out H1.out (st_tf1 _ _ _ _ _ _ HX.out).1 (st_tf1 _ _ _ _ _ _ HX.out).2).mono ?_
          rintro x w3 ⟨rfl, hP3, hg⟩
          try go_simp
          have P3 := hid hP3
          have B3 := hid (below_step hB.out hg hb' (Nat.le_refl _))
          clear hP3 hg hP hB
          go_wp2_with fail
          refine (up_ok P3.out s false hs (by rw [cur_upd])).mono ?_
          rintro x w' ⟨rfl, rfl⟩
          try go_simp
          go_wp2_with fail
          go_roundw
          case rel => exact ⟨k + 1, _, _, _, _, _, _, by omega, by omega, by go_num, rfl, rfl, P3.out, cur_upd _ _ _, B3.out, by decide, by omega, by decide, by decide, fun _ => by omega, fun _ => by omega, rfl⟩
          case measure => simp [intOf]; omega
        · have e1 : (m + 1 == 1 + f) = false := by simp; omega
          have e2 : (m == f) = false := by simp; omega
          have HX : Hid (rowUp wh lo (!true) < 1 + f) := hid (by rw [HR.out]; omega)
          have HY : Hid (rowUp false (rowUp wh lo false) false = (m + 1) + 1) := hid (by have := HR.out; simp only [Bool.not_true] at this; rw [this]; simp [rowUp])
          have HM : Hid (m + 1 < 1 + f) := hid (by omega)
          have HM2 : Hid (m + 1 ≤ 10) := hid (by omega)
          clear hm ma mb
          go_wp2_with fail
          refine (Wz.out _).mono ?_
          rintro x w' ⟨rfl, rfl⟩
          try go_simp
          go_wp2_with fail
          refine (told_ok hP.out s k false (true, la, wh, lo) (true, (k : Int), false, rowUp wh lo false) 0 hsl (by omega) HC.out H0.out H1.out (st_tf _ _ _ _ _ _ HX.out).1 (st_tf _ _ _ _ _ _ HX.out).2).mono ?_
          rintro x w3 ⟨rfl, hP3, hg⟩
          try go_simp
          have P3 := hid hP3
          have B3 := hid (below_step hB.out hg hb' (Nat.le_refl _))
          clear hP3 hg hP hB
          go_wp2_with fail
          refine (up_ok P3.out s true hs (by rw [cur_upd])).mono ?_
          rintro x w' ⟨rfl, rfl⟩
          try go_simp
          go_wp2_with fail
          go_roundw
          case rel => exact ⟨k + 1, _, _, _, _, _, _, by omega, by omega, by go_num, rfl, rfl, P3.out, cur_upd _ _ _, B3.out, (RB.out false).1, (RB.out false).2, by omega, HM2.out, (fun h => by cases h), (fun _ => HM.out), HY.out⟩
          case measure => simp [intOf]; omega
    · clear hcur h0 h1 hru ma mb
      have hx : (k < n1 ∧ k = 100) ∨ k = n1 := by omega
      rcases hx with ⟨hx, e⟩ | e
      · have i1 : (k : Int) < n1 := by omega
        have i2 : ¬ (k : Int) < 100 := by omega
        clear e hlt
        go_wp2_with fail
        go_ret
        exact ⟨rfl, hB.out⟩
      · have i1 : ¬ (k : Int) < n1 := by omega
        clear e hlt
        go_wp2_with fail
        go_ret
        exact ⟨rfl, hB.out⟩

set_option maxRecDepth 100000 in
theorem lifted (os : Os) (started : os.Started) (H : Type) (enc : TypeId × Value → H) :
    ReturnsInHanded {} Try.checked os 5 .any (Rows.pulseRowsSpec.pre6 enc Try.prog Try.f5 [] false) (Rows.pulseRowsSpec.post enc Try.prog Try.f5 false true false false) :=
  law_step (s := Rows.pulseRowsSpec) started (by kernel_rfl) Try.func5
    (ChangeSpec.witness6 (s := Rows.pulseRowsSpec) (enc := enc) (C := Try.checked) false ⟨#[], #[.int .i64 0, .int .i64 0, .int .i64 0, .slice none 0 0], []⟩ 8 (by kernel_rfl) (by kernel_rfl) (by kernel_rfl) (by kernel_rfl))
    rfl (by rw [Try.params5]; decide +kernel) rfl Try.underlying4
    (fun ds h => by
      rw [Try.params5] at h
      match ds, h with
      | [_, _, _, _], _ => rfl)
    (fun W base args ds ps hval hA hsz => by
      rw [Try.params5] at hA hval hsz
      obtain ⟨v0, vs0, d0, ds0, p0, q0, hargs, rfl, rfl, h0, r0⟩ := trodAll_cons hA
      obtain ⟨v1, vs1, d1, ds1, p1, q1, rfl, rfl, rfl, h1, r1⟩ := trodAll_cons r0
      obtain ⟨v2, vs2, d2, ds2, p2, q2, rfl, rfl, rfl, h2, r2⟩ := trodAll_cons r1
      obtain ⟨v3, vs3, d3, ds3, p3, q3, rfl, rfl, rfl, h3, r3⟩ := trodAll_cons r2
      obtain ⟨rfl, rfl, rfl⟩ := trodAll_nil r3
      obtain rfl : args = #[v0, v1, v2, v3] := by cases args; simp_all
      obtain ⟨a0, rfl, rfl, rfl, w0⟩ := open_int Try.underlying3 (hval 0 3 v0 rfl rfl) h0
      obtain ⟨a1, rfl, rfl, rfl, w1⟩ := open_int Try.underlying3 (hval 1 3 v1 rfl rfl) h1
      obtain ⟨a2, rfl, rfl, rfl, w2⟩ := open_int Try.underlying3 (hval 2 3 v2 rfl rfl) h2
      obtain ⟨A3, n3, c3, g3, rfl, hn3, hc3, hs3, hw3, hl3, hd3⟩ := open_row Try.underlying22 Try.underlying3 (by kernel_rfl) (hval 3 22 v3 rfl rfl) h3
      have re3 : c3 * 8 ≤ 140737488351232 := by
        rcases hd3 with ⟨_, h0⟩ | ⟨xs, ys, h1, h2⟩
        · omega
        · have := sized_slice hsz (j := 3) (t := 22) (e := 3) rfl (by rw [h1]; rfl) Try.underlying22
          rw [h2, show Try.prog.bytesOf 3 = 8 from by kernel_rfl] at this
          simpa [reachBytes] using this
      exact walk W a0 (bounds_i64 w0) a1 (bounds_i64 w1) a2 (bounds_i64 w2) A3 n3 c3 g3 hn3 hc3 hs3 (fun j => bounds_i64 (hw3 j)) hl3 re3)

theorem proved : Rows.PulseRowsSaid :=
  OpenClaim.holds_of_wide 5 Try.f5 rfl rfl rfl rfl rfl rfl rfl ⟨rfl, rfl, rfl, rfl, rfl⟩ rfl rfl rfl rfl rfl (by kernel_rfl) Try.func5 (by kernel_rfl)
    (of_decide_eq_true (by kernel_rfl)) (by unfold Func.isWrapper; first | (rw [if_pos (by decide +kernel)]; kernel_rfl) | (rw [if_neg (by decide +kernel)]; exact ⟨rfl, rfl⟩))
    (fun os started H enc _ => lifted os started H enc)
end Go.Proofs.Ytcbnebabeekegaa.pulseRows
