/- roundhouselaw8.PulsePlays answers true for every three numbers, row, number; no condition. -/
import Derived.Test.YtcbnebabeekegaaPulTwo
import Derived.BigQuiet
import Derived.Deep.RegionHeld3
import Derived.Deep.Cut
namespace Go.Proofs.Ytcbnebabeekegaa.pulsePlays
set_option linter.unusedVariables false
set_option linter.unusedSimpArgs false
open Go.RowKit Go.ChangeShapes Go.WideShapes Go.ChangeAt

set_option maxRecDepth 100000 in
set_option maxHeartbeats 64000000 in
theorem walk (W : World) (r0 : Int) (r_r0 : -9223372036854775808 ≤ r0 ∧ r0 ≤ 9223372036854775807) (f0 : Int) (r_f0 : -9223372036854775808 ≤ f0 ∧ f0 ≤ 9223372036854775807) (e0 : Int) (r_e0 : -9223372036854775808 ≤ e0 ∧ e0 ≤ 9223372036854775807)
    (A1 : Option Addr) (n1 c1 : Nat) (g1 : Nat → Int) (hn1 : n1 ≤ c1) (hc1 : c1 ≤ maxLen) (hr1 : Is W A1 n1 g1) (hg1 : IsI g1) (hl1 : ∀ ad, A1 = some ad → 0 < n1 → ad.block < W.heap.size) (re1 : c1 * 8 ≤ 140737488351232)
    (w0 : Int) (r_w0 : -9223372036854775808 ≤ w0 ∧ w0 ≤ 9223372036854775807) :
    Calls Try.prog 3 #[.int .i64 r0, .int .i64 f0, .int .i64 e0, .slice A1 n1 c1, .int .i64 w0] W fun e w' => e = .returned (.bool true) ∧ Below W.heap.size W w' := by
  obtain ⟨r, hr⟩ : ∃ x, x = wi r0 4 := ⟨_, rfl⟩
  have br := wi_bd r0 4 (by omega)
  rw [← hr] at br
  have Wr := hid (fun w => re_i64 (within_any r0 4 w (by omega) (by omega)) hr.symm)
  clear hr
  obtain ⟨br1, br2⟩ := br
  obtain ⟨f, hf⟩ : ∃ x, x = wi f0 4 := ⟨_, rfl⟩
  have bf := wi_bd f0 4 (by omega)
  rw [← hf] at bf
  have Wf := hid (fun w => re_i64 (within_any f0 4 w (by omega) (by omega)) hf.symm)
  clear hf
  obtain ⟨bf1, bf2⟩ := bf
  obtain ⟨e, he⟩ : ∃ x, x = wi e0 9 := ⟨_, rfl⟩
  have be := wi_bd e0 9 (by omega)
  rw [← he] at be
  have We := hid (fun w => re_i64 (within_any e0 9 w (by omega) (by omega)) he.symm)
  clear he
  obtain ⟨be1, be2⟩ := be
  unfold maxLen at hc1
  have hnm : (n1 : Int) ≤ 9223372036854775807 := by have := hn1; omega
  clear hl1 re1
  have q1 : IntKind.i64.wrap (1 + r) = 1 + r := IntWalk.i64_in _ (by omega)
  have q2 : IntKind.i64.wrap (1 + f) = 1 + f := IntWalk.i64_in _ (by omega)
  have q3 : IntKind.i64.wrap (1 + e) = 1 + e := IntWalk.i64_in _ (by omega)
  go_enter Try.func3, Try.ntmps3
  go_wp2_with fail
  refine (known_any _).mono ?_
  rintro x w ⟨rfl, hB⟩
  try go_simp
  have B := hid hB
  clear hB
  go_wp2_with fail
  refine (Wr.out _).mono ?_
  rintro x w' ⟨rfl, rfl⟩
  try go_simp
  go_wp2_with fail
  refine (Wf.out _).mono ?_
  rintro x w' ⟨rfl, rfl⟩
  try go_simp
  go_wp2_with fail
  refine (We.out _).mono ?_
  rintro x w' ⟨rfl, rfl⟩
  try go_simp
  go_wp2_with fail
  refine (new_ok (1 + r) (1 + f) (1 + e) (by omega) (by omega) (by omega) _).mono ?_
  rintro x w1 ⟨p, b, rfl, hP, hp, hb, hB1⟩
  try go_simp
  have P1 := hid hP
  have B1 := hid (B.out.trans (hB1.mono B.out.size))
  have hb' : W.heap.size ≤ b := Nat.le_trans B.out.size hb
  have lp := hP.1.1
  have lb := hP.2.1.lt
  clear hP hB1 B
  go_wp2_with fail
  refine (rnew_ok (1 + r) (1 + f) (1 + e) (by omega) (by omega) (by omega) _).mono ?_
  rintro x w2 ⟨q, rfl, hQ, hq, hB2⟩
  try go_simp
  have P2 := hid (P1.out.below hB2)
  have Q2 := hid hQ
  have B2 := hid (B1.out.trans (hB2.mono B1.out.size))
  have hq' : W.heap.size ≤ q := Nat.le_trans B1.out.size hq
  have d1 : p ≠ q := by omega
  have d2 : b ≠ q := by omega
  clear hQ hB2 P1 B1
  go_wp2_with fail
  go_loopw [18, 19] (fun o i wr => ∃ (k n : Nat) (now : Int) (M : Int → Option Life) (L : Int → RS), k ≤ n1 ∧ k ≤ 120 ∧ n ≤ k ∧ i = .int .i64 (k : Int) ∧ o = .int .i64 now ∧ 0 ≤ now ∧ now ≤ 6 * k ∧ PulseAt wr p b n (1 + r) (1 + f) (1 + e) M ∧ RefAt wr q (1 + r) (1 + f) (1 + e) L ∧ Rel M L now k ∧ Below W.heap.size W wr) (fun _ i _ => 120 - (intOf i).toNat)
  case atStart => exact ⟨0, 0, 0, _, _, by omega, by omega, by omega, rfl, rfl, by decide, by decide, P2.out, Q2.out, rel_0, B2.out⟩
  case round =>
    clear P2 Q2 B2
    obtain ⟨k, n, now, M, L, hk, hk120, hn, rfl, rfl, h0, h1, hP, hQ, hR, hB⟩ := hrel
    replace hP := hid hP
    replace hQ := hid hQ
    have R := hid (hr1.below hB (Nat.le_refl _))
    replace hR := hid hR
    replace hB := hid hB
    by_cases hlt : k < n1 ∧ k < 120
    · obtain ⟨x1, x2⟩ := hlt
      have i0 : (0 : Int) ≤ k := by omega
      have i1 : (k : Int) < n1 := by omega
      have i2 : (k : Int) < 120 := by omega
      obtain ⟨bb, off, rfl, hblt, hcell⟩ := R.out (by omega)
      have c1 : wr.cell? ⟨bb, off + k, none⟩ = some (.int .i64 (g1 k)) := hcell _ (by omega)
      clear hcell
      obtain ⟨z, hz⟩ : ∃ z, z = wi (g1 k) 1099511627776 := ⟨_, rfl⟩
      have hzb := wi_bd (g1 k) 1099511627776 (by omega)
      rw [← hz] at hzb
      obtain ⟨z0, z1⟩ := hzb
      have Wz := hid (fun w => re_i64 (within_any (g1 k) 1099511627776 w (by omega) (by omega)) hz.symm)
      clear hz
      have m0 : 0 ≤ z / 1500 % 6 := by omega
      have m1 : z / 1500 % 6 < 6 := by omega
      have q4 : IntKind.i64.wrap (now + z / 1500 % 6) = now + z / 1500 % 6 := IntWalk.i64_in _ (by omega)
      have RN := hid (rel_up hR.out (show now ≤ now + z / 1500 % 6 by omega) (Nat.le_refl k))
      have N0 := hid (show 0 ≤ now + z / 1500 % 6 ∧ now + z / 1500 % 6 ≤ 1000000 from ⟨by omega, by omega⟩)
      have N1 := hid (show now + z / 1500 % 6 ≤ 6 * ((k + 1 : Nat) : Int) by omega)
      have hv : z % 16 = 0 ∨ z % 16 = 1 ∨ z % 16 = 2 ∨ z % 16 = 3 ∨ z % 16 = 4 ∨ z % 16 = 5 ∨ z % 16 = 6 ∨ z % 16 = 7 ∨ z % 16 = 8 ∨ z % 16 = 9 ∨ z % 16 = 10 ∨ z % 16 = 11 ∨ z % 16 = 12 ∨ z % 16 = 13 ∨ z % 16 = 14 ∨ z % 16 = 15 := by omega
      clear h1 hR
      cases h31 : (z / 48 % 31 == 0)
      · obtain ⟨s, hs⟩ : ∃ s : Int, s = z / 16 % 3 := ⟨_, rfl⟩
        have hsI : I64 s := by unfold I64; omega
        clear hs
        have hsJ : I64 (z / 16 % 3) := by unfold I64; omega
        clear hsI
        rcases hv with hv | hv | hv | hv | hv | hv | hv | hv | hv | hv | hv | hv | hv | hv | hv | hv
        · go_wp2_with fail
          refine (Wz.out _).mono ?_
          rintro x w' ⟨rfl, rfl⟩
          try go_simp
          go_wp2_with fail
          refine (told2 hP.out RN.out (z / 16 % 3) _ _ (by omega) (by omega)).mono ?_
          rintro x w3 ⟨rfl, ⟨n', hn', hP3⟩, hg⟩
          try go_simp
          have P3 := hid hP3
          have Q3 := hid (hQ.out.grown hg (fun e => d2 (by injection e)))
          have B3 := hid (below_step hB.out hg hb' (Nat.le_refl _))
          clear hP3 hg hP hQ hB
          go_wp2_with fail
          refine (rtold2 Q3.out RN.out (by omega) (by omega) N0.out.1 (z / 16 % 3) _ (by omega)).mono ?_
          rintro x w4 ⟨rfl, hQ4, hg⟩
          try go_simp
          have Q4 := hid hQ4
          have P4 := hid (P3.out.other hg d1 d2)
          have B4 := hid (below_step B3.out hg hq' (Nat.le_refl _))
          clear hQ4 hg P3 Q3 B3
          go_wp2_with fail
          go_roundw
          case rel => exact ⟨k + 1, n', _, _, _, by omega, by omega, by omega, by go_num, rfl, N0.out.1, N1.out, P4.out, Q4.out, rel2_told RN.out _ (1 + r) (1 + f) (by omega) (by omega) N0.out.1 _, B4.out⟩
          case measure => simp [intOf]; omega
        · go_wp2_with fail
          refine (Wz.out _).mono ?_
          rintro x w' ⟨rfl, rfl⟩
          try go_simp
          go_wp2_with fail
          refine (told2 hP.out RN.out (z / 16 % 3) _ _ (by omega) (by omega)).mono ?_
          rintro x w3 ⟨rfl, ⟨n', hn', hP3⟩, hg⟩
          try go_simp
          have P3 := hid hP3
          have Q3 := hid (hQ.out.grown hg (fun e => d2 (by injection e)))
          have B3 := hid (below_step hB.out hg hb' (Nat.le_refl _))
          clear hP3 hg hP hQ hB
          go_wp2_with fail
          refine (rtold2 Q3.out RN.out (by omega) (by omega) N0.out.1 (z / 16 % 3) _ (by omega)).mono ?_
          rintro x w4 ⟨rfl, hQ4, hg⟩
          try go_simp
          have Q4 := hid hQ4
          have P4 := hid (P3.out.other hg d1 d2)
          have B4 := hid (below_step B3.out hg hq' (Nat.le_refl _))
          clear hQ4 hg P3 Q3 B3
          go_wp2_with fail
          go_roundw
          case rel => exact ⟨k + 1, n', _, _, _, by omega, by omega, by omega, by go_num, rfl, N0.out.1, N1.out, P4.out, Q4.out, rel2_told RN.out _ (1 + r) (1 + f) (by omega) (by omega) N0.out.1 _, B4.out⟩
          case measure => simp [intOf]; omega
        · go_wp2_with fail
          refine (Wz.out _).mono ?_
          rintro x w' ⟨rfl, rfl⟩
          try go_simp
          go_wp2_with fail
          refine (told2 hP.out RN.out (z / 16 % 3) _ _ (by omega) (by omega)).mono ?_
          rintro x w3 ⟨rfl, ⟨n', hn', hP3⟩, hg⟩
          try go_simp
          have P3 := hid hP3
          have Q3 := hid (hQ.out.grown hg (fun e => d2 (by injection e)))
          have B3 := hid (below_step hB.out hg hb' (Nat.le_refl _))
          clear hP3 hg hP hQ hB
          go_wp2_with fail
          refine (rtold2 Q3.out RN.out (by omega) (by omega) N0.out.1 (z / 16 % 3) _ (by omega)).mono ?_
          rintro x w4 ⟨rfl, hQ4, hg⟩
          try go_simp
          have Q4 := hid hQ4
          have P4 := hid (P3.out.other hg d1 d2)
          have B4 := hid (below_step B3.out hg hq' (Nat.le_refl _))
          clear hQ4 hg P3 Q3 B3
          go_wp2_with fail
          go_roundw
          case rel => exact ⟨k + 1, n', _, _, _, by omega, by omega, by omega, by go_num, rfl, N0.out.1, N1.out, P4.out, Q4.out, rel2_told RN.out _ (1 + r) (1 + f) (by omega) (by omega) N0.out.1 _, B4.out⟩
          case measure => simp [intOf]; omega
        · go_wp2_with fail
          refine (Wz.out _).mono ?_
          rintro x w' ⟨rfl, rfl⟩
          try go_simp
          go_wp2_with fail
          refine (told2 hP.out RN.out (z / 16 % 3) _ _ (by omega) (by omega)).mono ?_
          rintro x w3 ⟨rfl, ⟨n', hn', hP3⟩, hg⟩
          try go_simp
          have P3 := hid hP3
          have Q3 := hid (hQ.out.grown hg (fun e => d2 (by injection e)))
          have B3 := hid (below_step hB.out hg hb' (Nat.le_refl _))
          clear hP3 hg hP hQ hB
          go_wp2_with fail
          refine (rtold2 Q3.out RN.out (by omega) (by omega) N0.out.1 (z / 16 % 3) _ (by omega)).mono ?_
          rintro x w4 ⟨rfl, hQ4, hg⟩
          try go_simp
          have Q4 := hid hQ4
          have P4 := hid (P3.out.other hg d1 d2)
          have B4 := hid (below_step B3.out hg hq' (Nat.le_refl _))
          clear hQ4 hg P3 Q3 B3
          go_wp2_with fail
          go_roundw
          case rel => exact ⟨k + 1, n', _, _, _, by omega, by omega, by omega, by go_num, rfl, N0.out.1, N1.out, P4.out, Q4.out, rel2_told RN.out _ (1 + r) (1 + f) (by omega) (by omega) N0.out.1 _, B4.out⟩
          case measure => simp [intOf]; omega
        · go_wp2_with fail
          refine (Wz.out _).mono ?_
          rintro x w' ⟨rfl, rfl⟩
          try go_simp
          go_wp2_with fail
          refine (told2 hP.out RN.out (z / 16 % 3) _ _ (by omega) (by omega)).mono ?_
          rintro x w3 ⟨rfl, ⟨n', hn', hP3⟩, hg⟩
          try go_simp
          have P3 := hid hP3
          have Q3 := hid (hQ.out.grown hg (fun e => d2 (by injection e)))
          have B3 := hid (below_step hB.out hg hb' (Nat.le_refl _))
          clear hP3 hg hP hQ hB
          go_wp2_with fail
          refine (rtold2 Q3.out RN.out (by omega) (by omega) N0.out.1 (z / 16 % 3) _ (by omega)).mono ?_
          rintro x w4 ⟨rfl, hQ4, hg⟩
          try go_simp
          have Q4 := hid hQ4
          have P4 := hid (P3.out.other hg d1 d2)
          have B4 := hid (below_step B3.out hg hq' (Nat.le_refl _))
          clear hQ4 hg P3 Q3 B3
          go_wp2_with fail
          go_roundw
          case rel => exact ⟨k + 1, n', _, _, _, by omega, by omega, by omega, by go_num, rfl, N0.out.1, N1.out, P4.out, Q4.out, rel2_told RN.out _ (1 + r) (1 + f) (by omega) (by omega) N0.out.1 _, B4.out⟩
          case measure => simp [intOf]; omega
        · go_wp2_with fail
          refine (Wz.out _).mono ?_
          rintro x w' ⟨rfl, rfl⟩
          try go_simp
          go_wp2_with fail
          refine (told2 hP.out RN.out (z / 16 % 3) _ _ (by omega) (by omega)).mono ?_
          rintro x w3 ⟨rfl, ⟨n', hn', hP3⟩, hg⟩
          try go_simp
          have P3 := hid hP3
          have Q3 := hid (hQ.out.grown hg (fun e => d2 (by injection e)))
          have B3 := hid (below_step hB.out hg hb' (Nat.le_refl _))
          clear hP3 hg hP hQ hB
          go_wp2_with fail
          refine (rtold2 Q3.out RN.out (by omega) (by omega) N0.out.1 (z / 16 % 3) _ (by omega)).mono ?_
          rintro x w4 ⟨rfl, hQ4, hg⟩
          try go_simp
          have Q4 := hid hQ4
          have P4 := hid (P3.out.other hg d1 d2)
          have B4 := hid (below_step B3.out hg hq' (Nat.le_refl _))
          clear hQ4 hg P3 Q3 B3
          go_wp2_with fail
          go_roundw
          case rel => exact ⟨k + 1, n', _, _, _, by omega, by omega, by omega, by go_num, rfl, N0.out.1, N1.out, P4.out, Q4.out, rel2_told RN.out _ (1 + r) (1 + f) (by omega) (by omega) N0.out.1 _, B4.out⟩
          case measure => simp [intOf]; omega
        · go_wp2_with fail
          refine (Wz.out _).mono ?_
          rintro x w' ⟨rfl, rfl⟩
          try go_simp
          go_wp2_with fail
          refine (told2 hP.out RN.out (z / 16 % 3) _ _ (by omega) (by omega)).mono ?_
          rintro x w3 ⟨rfl, ⟨n', hn', hP3⟩, hg⟩
          try go_simp
          have P3 := hid hP3
          have Q3 := hid (hQ.out.grown hg (fun e => d2 (by injection e)))
          have B3 := hid (below_step hB.out hg hb' (Nat.le_refl _))
          clear hP3 hg hP hQ hB
          go_wp2_with fail
          refine (rtold2 Q3.out RN.out (by omega) (by omega) N0.out.1 (z / 16 % 3) _ (by omega)).mono ?_
          rintro x w4 ⟨rfl, hQ4, hg⟩
          try go_simp
          have Q4 := hid hQ4
          have P4 := hid (P3.out.other hg d1 d2)
          have B4 := hid (below_step B3.out hg hq' (Nat.le_refl _))
          clear hQ4 hg P3 Q3 B3
          go_wp2_with fail
          go_roundw
          case rel => exact ⟨k + 1, n', _, _, _, by omega, by omega, by omega, by go_num, rfl, N0.out.1, N1.out, P4.out, Q4.out, rel2_told RN.out _ (1 + r) (1 + f) (by omega) (by omega) N0.out.1 _, B4.out⟩
          case measure => simp [intOf]; omega
        · go_wp2_with fail
          refine (Wz.out _).mono ?_
          rintro x w' ⟨rfl, rfl⟩
          try go_simp
          go_wp2_with fail
          refine (told2 hP.out RN.out (z / 16 % 3) _ _ (by omega) (by omega)).mono ?_
          rintro x w3 ⟨rfl, ⟨n', hn', hP3⟩, hg⟩
          try go_simp
          have P3 := hid hP3
          have Q3 := hid (hQ.out.grown hg (fun e => d2 (by injection e)))
          have B3 := hid (below_step hB.out hg hb' (Nat.le_refl _))
          clear hP3 hg hP hQ hB
          go_wp2_with fail
          refine (rtold2 Q3.out RN.out (by omega) (by omega) N0.out.1 (z / 16 % 3) _ (by omega)).mono ?_
          rintro x w4 ⟨rfl, hQ4, hg⟩
          try go_simp
          have Q4 := hid hQ4
          have P4 := hid (P3.out.other hg d1 d2)
          have B4 := hid (below_step B3.out hg hq' (Nat.le_refl _))
          clear hQ4 hg P3 Q3 B3
          go_wp2_with fail
          go_roundw
          case rel => exact ⟨k + 1, n', _, _, _, by omega, by omega, by omega, by go_num, rfl, N0.out.1, N1.out, P4.out, Q4.out, rel2_told RN.out _ (1 + r) (1 + f) (by omega) (by omega) N0.out.1 _, B4.out⟩
          case measure => simp [intOf]; omega
        · go_wp2_with fail
          refine (Wz.out _).mono ?_
          rintro x w' ⟨rfl, rfl⟩
          try go_simp
          go_wp2_with fail
          refine (told2 hP.out RN.out (z / 16 % 3) _ _ (by omega) (by omega)).mono ?_
          rintro x w3 ⟨rfl, ⟨n', hn', hP3⟩, hg⟩
          try go_simp
          have P3 := hid hP3
          have Q3 := hid (hQ.out.grown hg (fun e => d2 (by injection e)))
          have B3 := hid (below_step hB.out hg hb' (Nat.le_refl _))
          clear hP3 hg hP hQ hB
          go_wp2_with fail
          refine (rtold2 Q3.out RN.out (by omega) (by omega) N0.out.1 (z / 16 % 3) _ (by omega)).mono ?_
          rintro x w4 ⟨rfl, hQ4, hg⟩
          try go_simp
          have Q4 := hid hQ4
          have P4 := hid (P3.out.other hg d1 d2)
          have B4 := hid (below_step B3.out hg hq' (Nat.le_refl _))
          clear hQ4 hg P3 Q3 B3
          go_wp2_with fail
          go_roundw
          case rel => exact ⟨k + 1, n', _, _, _, by omega, by omega, by omega, by go_num, rfl, N0.out.1, N1.out, P4.out, Q4.out, rel2_told RN.out _ (1 + r) (1 + f) (by omega) (by omega) N0.out.1 _, B4.out⟩
          case measure => simp [intOf]; omega
        · go_wp2_with fail
          refine (Wz.out _).mono ?_
          rintro x w' ⟨rfl, rfl⟩
          try go_simp
          go_wp2_with fail
          refine (told2 hP.out RN.out (z / 16 % 3) _ _ (by omega) (by omega)).mono ?_
          rintro x w3 ⟨rfl, ⟨n', hn', hP3⟩, hg⟩
          try go_simp
          have P3 := hid hP3
          have Q3 := hid (hQ.out.grown hg (fun e => d2 (by injection e)))
          have B3 := hid (below_step hB.out hg hb' (Nat.le_refl _))
          clear hP3 hg hP hQ hB
          go_wp2_with fail
          refine (rtold2 Q3.out RN.out (by omega) (by omega) N0.out.1 (z / 16 % 3) _ (by omega)).mono ?_
          rintro x w4 ⟨rfl, hQ4, hg⟩
          try go_simp
          have Q4 := hid hQ4
          have P4 := hid (P3.out.other hg d1 d2)
          have B4 := hid (below_step B3.out hg hq' (Nat.le_refl _))
          clear hQ4 hg P3 Q3 B3
          go_wp2_with fail
          go_roundw
          case rel => exact ⟨k + 1, n', _, _, _, by omega, by omega, by omega, by go_num, rfl, N0.out.1, N1.out, P4.out, Q4.out, rel2_told RN.out _ (1 + r) (1 + f) (by omega) (by omega) N0.out.1 _, B4.out⟩
          case measure => simp [intOf]; omega
        · go_wp2_with fail
          refine (Wz.out _).mono ?_
          rintro x w' ⟨rfl, rfl⟩
          try go_simp
          go_wp2_with fail
          refine (due2 hP.out RN.out (z / 16 % 3) hsJ N0.out).mono ?_
          rintro x w3 ⟨rfl, hb3⟩
          try go_simp
          have P3 := hid (hP.out.below hb3)
          have Q3 := hid (hQ.out.below hb3)
          have B3 := hid (hB.out.trans (hb3.mono hB.out.size))
          clear hb3 hP hQ hB
          go_wp2_with fail
          refine (rdue2 Q3.out RN.out (z / 16 % 3) N0.out (by omega)).mono ?_
          rintro x w4 ⟨rfl, m, rfl⟩
          try go_simp
          have hb4 := below_drewN (Below.refl w3.heap.size w3) m
          have P4 := hid (P3.out.below hb4)
          have Q4 := hid (Q3.out.below hb4)
          have B4 := hid (below_drewN B3.out m)
          clear hb4 P3 Q3 B3
          go_wp2_with fail
          go_roundw
          case rel => exact ⟨k + 1, n, _, _, _, by omega, by omega, by omega, by go_num, rfl, N0.out.1, N1.out, P4.out, Q4.out, rel_up RN.out (Int.le_refl _) (Nat.le_succ k), B4.out⟩
          case measure => simp [intOf]; omega
        · go_wp2_with fail
          refine (Wz.out _).mono ?_
          rintro x w' ⟨rfl, rfl⟩
          try go_simp
          go_wp2_with fail
          refine (due2 hP.out RN.out (z / 16 % 3) hsJ N0.out).mono ?_
          rintro x w3 ⟨rfl, hb3⟩
          try go_simp
          have P3 := hid (hP.out.below hb3)
          have Q3 := hid (hQ.out.below hb3)
          have B3 := hid (hB.out.trans (hb3.mono hB.out.size))
          clear hb3 hP hQ hB
          go_wp2_with fail
          refine (rdue2 Q3.out RN.out (z / 16 % 3) N0.out (by omega)).mono ?_
          rintro x w4 ⟨rfl, m, rfl⟩
          try go_simp
          have hb4 := below_drewN (Below.refl w3.heap.size w3) m
          have P4 := hid (P3.out.below hb4)
          have Q4 := hid (Q3.out.below hb4)
          have B4 := hid (below_drewN B3.out m)
          clear hb4 P3 Q3 B3
          go_wp2_with fail
          go_roundw
          case rel => exact ⟨k + 1, n, _, _, _, by omega, by omega, by omega, by go_num, rfl, N0.out.1, N1.out, P4.out, Q4.out, rel_up RN.out (Int.le_refl _) (Nat.le_succ k), B4.out⟩
          case measure => simp [intOf]; omega
        · go_wp2_with fail
          refine (Wz.out _).mono ?_
          rintro x w' ⟨rfl, rfl⟩
          try go_simp
          go_wp2_with fail
          refine (due2 hP.out RN.out (z / 16 % 3) hsJ N0.out).mono ?_
          rintro x w3 ⟨rfl, hb3⟩
          try go_simp
          have P3 := hid (hP.out.below hb3)
          have Q3 := hid (hQ.out.below hb3)
          have B3 := hid (hB.out.trans (hb3.mono hB.out.size))
          clear hb3 hP hQ hB
          go_wp2_with fail
          refine (rdue2 Q3.out RN.out (z / 16 % 3) N0.out (by omega)).mono ?_
          rintro x w4 ⟨rfl, m, rfl⟩
          try go_simp
          have hb4 := below_drewN (Below.refl w3.heap.size w3) m
          have P4 := hid (P3.out.below hb4)
          have Q4 := hid (Q3.out.below hb4)
          have B4 := hid (below_drewN B3.out m)
          clear hb4 P3 Q3 B3
          go_wp2_with fail
          go_roundw
          case rel => exact ⟨k + 1, n, _, _, _, by omega, by omega, by omega, by go_num, rfl, N0.out.1, N1.out, P4.out, Q4.out, rel_up RN.out (Int.le_refl _) (Nat.le_succ k), B4.out⟩
          case measure => simp [intOf]; omega
        · go_wp2_with fail
          refine (Wz.out _).mono ?_
          rintro x w' ⟨rfl, rfl⟩
          try go_simp
          go_wp2_with fail
          refine (up2 hP.out (z / 16 % 3) hsJ).mono ?_
          rintro x w' ⟨rfl, rfl⟩
          try go_simp
          go_wp2_with fail
          refine (rup2 hQ.out RN.out (z / 16 % 3)).mono ?_
          rintro x w4 ⟨rfl, m, rfl⟩
          try go_simp
          have hb4 := below_drewN (Below.refl wr.heap.size wr) m
          have P4 := hid (hP.out.below hb4)
          have Q4 := hid (hQ.out.below hb4)
          have B4 := hid (hB.out.trans (hb4.mono hB.out.size))
          clear hb4 hP hQ hB
          go_wp2_with fail
          go_roundw
          case rel => exact ⟨k + 1, n, _, _, _, by omega, by omega, by omega, by go_num, rfl, N0.out.1, N1.out, P4.out, Q4.out, rel_up RN.out (Int.le_refl _) (Nat.le_succ k), B4.out⟩
          case measure => simp [intOf]; omega
        · go_wp2_with fail
          refine (Wz.out _).mono ?_
          rintro x w' ⟨rfl, rfl⟩
          try go_simp
          go_wp2_with fail
          refine (up2 hP.out (z / 16 % 3) hsJ).mono ?_
          rintro x w' ⟨rfl, rfl⟩
          try go_simp
          go_wp2_with fail
          refine (rup2 hQ.out RN.out (z / 16 % 3)).mono ?_
          rintro x w4 ⟨rfl, m, rfl⟩
          try go_simp
          have hb4 := below_drewN (Below.refl wr.heap.size wr) m
          have P4 := hid (hP.out.below hb4)
          have Q4 := hid (hQ.out.below hb4)
          have B4 := hid (hB.out.trans (hb4.mono hB.out.size))
          clear hb4 hP hQ hB
          go_wp2_with fail
          go_roundw
          case rel => exact ⟨k + 1, n, _, _, _, by omega, by omega, by omega, by go_num, rfl, N0.out.1, N1.out, P4.out, Q4.out, rel_up RN.out (Int.le_refl _) (Nat.le_succ k), B4.out⟩
          case measure => simp [intOf]; omega
        · go_wp2_with fail
          refine (Wz.out _).mono ?_
          rintro x w' ⟨rfl, rfl⟩
          try go_simp
          go_wp2_with fail
          refine (drop2 hP.out (z / 16 % 3) hsJ).mono ?_
          rintro x w3 ⟨rfl, hP3, hg⟩
          try go_simp
          have P3 := hid hP3
          have Q3 := hid (hQ.out.grown hg (fun e => d2 (by injection e)))
          have B3 := hid (below_step hB.out hg hb' (Nat.le_refl _))
          clear hP3 hg hP hQ hB
          go_wp2_with fail
          refine (rdrop2 Q3.out RN.out N0.out.1 (z / 16 % 3)).mono ?_
          rintro x w4 ⟨rfl, hQ4, hg⟩
          try go_simp
          have Q4 := hid hQ4
          have P4 := hid (P3.out.other hg d1 d2)
          have B4 := hid (below_step B3.out hg hq' (Nat.le_refl _))
          clear hQ4 hg P3 Q3 B3
          go_wp2_with fail
          go_roundw
          case rel => exact ⟨k + 1, n, _, _, _, by omega, by omega, by omega, by go_num, rfl, N0.out.1, N1.out, P4.out, Q4.out, rel_up (rel2_drop RN.out _ N0.out.1) (Int.le_refl _) (Nat.le_succ k), B4.out⟩
          case measure => simp [intOf]; omega
      · have R4 := row_at .i64 [-1, 63, 64, w0] (w := wr) (t := 3) (b := wr.heap.size) rfl
        simp only [List.map_cons, List.map_nil, List.length_cons, List.length_nil] at R4
        have u0 : 0 ≤ z / 48 % 4 := by omega
        have u1 : z / 48 % 4 < 4 := by omega
        have u2 : (z / 48 % 4).toNat < 4 := by omega
        obtain ⟨s, hs⟩ : ∃ s : Int, s = [-1, 63, 64, w0].getD (z / 48 % 4).toNat 0 := ⟨_, rfl⟩
        have c4 := R4.at_ (j := (z / 48 % 4).toNat) u2
        rw [← hs, Nat.zero_add] at c4
        have hsI : I64 s := by rw [hs]; unfold I64; rcases (show (z / 48 % 4).toNat = 0 ∨ (z / 48 % 4).toNat = 1 ∨ (z / 48 % 4).toNat = 2 ∨ (z / 48 % 4).toNat = 3 by omega) with e | e | e | e <;> rw [e] <;> simp <;> omega
        clear hs R4 u2
        have hsJ := hsI
        clear hsI
        rcases hv with hv | hv | hv | hv | hv | hv | hv | hv | hv | hv | hv | hv | hv | hv | hv | hv
        · go_wp2_with fail
          refine (Wz.out _).mono ?_
          rintro x w' ⟨rfl, rfl⟩
          try go_simp
          go_wp2_with fail
          refine (told2 (hP.out.below ((Below.refl _ _).alloc (Nat.le_refl _) _)) RN.out s _ _ (by omega) (by omega)).mono ?_
          rintro x w3 ⟨rfl, ⟨n', hn', hP3⟩, hg⟩
          try go_simp
          have P3 := hid hP3
          have Q3 := hid ((hQ.out.below ((Below.refl _ _).alloc (Nat.le_refl _) _)).grown hg (fun e => d2 (by injection e)))
          have B3 := hid (below_step (hB.out.alloc hB.out.size _) hg hb' (Nat.le_refl _))
          clear hP3 hg hP hQ hB
          go_wp2_with fail
          refine (rtold2 Q3.out RN.out (by omega) (by omega) N0.out.1 s _ (by omega)).mono ?_
          rintro x w4 ⟨rfl, hQ4, hg⟩
          try go_simp
          have Q4 := hid hQ4
          have P4 := hid (P3.out.other hg d1 d2)
          have B4 := hid (below_step B3.out hg hq' (Nat.le_refl _))
          clear hQ4 hg P3 Q3 B3
          go_wp2_with fail
          go_roundw
          case rel => exact ⟨k + 1, n', _, _, _, by omega, by omega, by omega, by go_num, rfl, N0.out.1, N1.out, P4.out, Q4.out, rel2_told RN.out _ (1 + r) (1 + f) (by omega) (by omega) N0.out.1 _, B4.out⟩
          case measure => simp [intOf]; omega
        · go_wp2_with fail
          refine (Wz.out _).mono ?_
          rintro x w' ⟨rfl, rfl⟩
          try go_simp
          go_wp2_with fail
          refine (told2 (hP.out.below ((Below.refl _ _).alloc (Nat.le_refl _) _)) RN.out s _ _ (by omega) (by omega)).mono ?_
          rintro x w3 ⟨rfl, ⟨n', hn', hP3⟩, hg⟩
          try go_simp
          have P3 := hid hP3
          have Q3 := hid ((hQ.out.below ((Below.refl _ _).alloc (Nat.le_refl _) _)).grown hg (fun e => d2 (by injection e)))
          have B3 := hid (below_step (hB.out.alloc hB.out.size _) hg hb' (Nat.le_refl _))
          clear hP3 hg hP hQ hB
          go_wp2_with fail
          refine (rtold2 Q3.out RN.out (by omega) (by omega) N0.out.1 s _ (by omega)).mono ?_
          rintro x w4 ⟨rfl, hQ4, hg⟩
          try go_simp
          have Q4 := hid hQ4
          have P4 := hid (P3.out.other hg d1 d2)
          have B4 := hid (below_step B3.out hg hq' (Nat.le_refl _))
          clear hQ4 hg P3 Q3 B3
          go_wp2_with fail
          go_roundw
          case rel => exact ⟨k + 1, n', _, _, _, by omega, by omega, by omega, by go_num, rfl, N0.out.1, N1.out, P4.out, Q4.out, rel2_told RN.out _ (1 + r) (1 + f) (by omega) (by omega) N0.out.1 _, B4.out⟩
          case measure => simp [intOf]; omega
        · go_wp2_with fail
          refine (Wz.out _).mono ?_
          rintro x w' ⟨rfl, rfl⟩
          try go_simp
          go_wp2_with fail
          refine (told2 (hP.out.below ((Below.refl _ _).alloc (Nat.le_refl _) _)) RN.out s _ _ (by omega) (by omega)).mono ?_
          rintro x w3 ⟨rfl, ⟨n', hn', hP3⟩, hg⟩
          try go_simp
          have P3 := hid hP3
          have Q3 := hid ((hQ.out.below ((Below.refl _ _).alloc (Nat.le_refl _) _)).grown hg (fun e => d2 (by injection e)))
          have B3 := hid (below_step (hB.out.alloc hB.out.size _) hg hb' (Nat.le_refl _))
          clear hP3 hg hP hQ hB
          go_wp2_with fail
          refine (rtold2 Q3.out RN.out (by omega) (by omega) N0.out.1 s _ (by omega)).mono ?_
          rintro x w4 ⟨rfl, hQ4, hg⟩
          try go_simp
          have Q4 := hid hQ4
          have P4 := hid (P3.out.other hg d1 d2)
          have B4 := hid (below_step B3.out hg hq' (Nat.le_refl _))
          clear hQ4 hg P3 Q3 B3
          go_wp2_with fail
          go_roundw
          case rel => exact ⟨k + 1, n', _, _, _, by omega, by omega, by omega, by go_num, rfl, N0.out.1, N1.out, P4.out, Q4.out, rel2_told RN.out _ (1 + r) (1 + f) (by omega) (by omega) N0.out.1 _, B4.out⟩
          case measure => simp [intOf]; omega
        · go_wp2_with fail
          refine (Wz.out _).mono ?_
          rintro x w' ⟨rfl, rfl⟩
          try go_simp
          go_wp2_with fail
          refine (told2 (hP.out.below ((Below.refl _ _).alloc (Nat.le_refl _) _)) RN.out s _ _ (by omega) (by omega)).mono ?_
          rintro x w3 ⟨rfl, ⟨n', hn', hP3⟩, hg⟩
          try go_simp
          have P3 := hid hP3
          have Q3 := hid ((hQ.out.below ((Below.refl _ _).alloc (Nat.le_refl _) _)).grown hg (fun e => d2 (by injection e)))
          have B3 := hid (below_step (hB.out.alloc hB.out.size _) hg hb' (Nat.le_refl _))
          clear hP3 hg hP hQ hB
          go_wp2_with fail
          refine (rtold2 Q3.out RN.out (by omega) (by omega) N0.out.1 s _ (by omega)).mono ?_
          rintro x w4 ⟨rfl, hQ4, hg⟩
          try go_simp
          have Q4 := hid hQ4
          have P4 := hid (P3.out.other hg d1 d2)
          have B4 := hid (below_step B3.out hg hq' (Nat.le_refl _))
          clear hQ4 hg P3 Q3 B3
          go_wp2_with fail
          go_roundw
          case rel => exact ⟨k + 1, n', _, _, _, by omega, by omega, by omega, by go_num, rfl, N0.out.1, N1.out, P4.out, Q4.out, rel2_told RN.out _ (1 + r) (1 + f) (by omega) (by omega) N0.out.1 _, B4.out⟩
          case measure => simp [intOf]; omega
        · go_wp2_with fail
          refine (Wz.out _).mono ?_
          rintro x w' ⟨rfl, rfl⟩
          try go_simp
          go_wp2_with fail
          refine (told2 (hP.out.below ((Below.refl _ _).alloc (Nat.le_refl _) _)) RN.out s _ _ (by omega) (by omega)).mono ?_
          rintro x w3 ⟨rfl, ⟨n', hn', hP3⟩, hg⟩
          try go_simp
          have P3 := hid hP3
          have Q3 := hid ((hQ.out.below ((Below.refl _ _).alloc (Nat.le_refl _) _)).grown hg (fun e => d2 (by injection e)))
          have B3 := hid (below_step (hB.out.alloc hB.out.size _) hg hb' (Nat.le_refl _))
          clear hP3 hg hP hQ hB
          go_wp2_with fail
          refine (rtold2 Q3.out RN.out (by omega) (by omega) N0.out.1 s _ (by omega)).mono ?_
          rintro x w4 ⟨rfl, hQ4, hg⟩
          try go_simp
          have Q4 := hid hQ4
          have P4 := hid (P3.out.other hg d1 d2)
          have B4 := hid (below_step B3.out hg hq' (Nat.le_refl _))
          clear hQ4 hg P3 Q3 B3
          go_wp2_with fail
          go_roundw
          case rel => exact ⟨k + 1, n', _, _, _, by omega, by omega, by omega, by go_num, rfl, N0.out.1, N1.out, P4.out, Q4.out, rel2_told RN.out _ (1 + r) (1 + f) (by omega) (by omega) N0.out.1 _, B4.out⟩
          case measure => simp [intOf]; omega
        · go_wp2_with fail
          refine (Wz.out _).mono ?_
          rintro x w' ⟨rfl, rfl⟩
          try go_simp
          go_wp2_with fail
          refine (told2 (hP.out.below ((Below.refl _ _).alloc (Nat.le_refl _) _)) RN.out s _ _ (by omega) (by omega)).mono ?_
          rintro x w3 ⟨rfl, ⟨n', hn', hP3⟩, hg⟩
          try go_simp
          have P3 := hid hP3
          have Q3 := hid ((hQ.out.below ((Below.refl _ _).alloc (Nat.le_refl _) _)).grown hg (fun e => d2 (by injection e)))
          have B3 := hid (below_step (hB.out.alloc hB.out.size _) hg hb' (Nat.le_refl _))
          clear hP3 hg hP hQ hB
          go_wp2_with fail
          refine (rtold2 Q3.out RN.out (by omega) (by omega) N0.out.1 s _ (by omega)).mono ?_
          rintro x w4 ⟨rfl, hQ4, hg⟩
          try go_simp
          have Q4 := hid hQ4
          have P4 := hid (P3.out.other hg d1 d2)
          have B4 := hid (below_step B3.out hg hq' (Nat.le_refl _))
          clear hQ4 hg P3 Q3 B3
          go_wp2_with fail
          go_roundw
          case rel => exact ⟨k + 1, n', _, _, _, by omega, by omega, by omega, by go_num, rfl, N0.out.1, N1.out, P4.out, Q4.out, rel2_told RN.out _ (1 + r) (1 + f) (by omega) (by omega) N0.out.1 _, B4.out⟩
          case measure => simp [intOf]; omega
        · go_wp2_with fail
          refine (Wz.out _).mono ?_
          rintro x w' ⟨rfl, rfl⟩
          try go_simp
          go_wp2_with fail
          refine (told2 (hP.out.below ((Below.refl _ _).alloc (Nat.le_refl _) _)) RN.out s _ _ (by omega) (by omega)).mono ?_
          rintro x w3 ⟨rfl, ⟨n', hn', hP3⟩, hg⟩
          try go_simp
          have P3 := hid hP3
          have Q3 := hid ((hQ.out.below ((Below.refl _ _).alloc (Nat.le_refl _) _)).grown hg (fun e => d2 (by injection e)))
          have B3 := hid (below_step (hB.out.alloc hB.out.size _) hg hb' (Nat.le_refl _))
          clear hP3 hg hP hQ hB
          go_wp2_with fail
          refine (rtold2 Q3.out RN.out (by omega) (by omega) N0.out.1 s _ (by omega)).mono ?_
          rintro x w4 ⟨rfl, hQ4, hg⟩
          try go_simp
          have Q4 := hid hQ4
          have P4 := hid (P3.out.other hg d1 d2)
          have B4 := hid (below_step B3.out hg hq' (Nat.le_refl _))
          clear hQ4 hg P3 Q3 B3
          go_wp2_with fail
          go_roundw
          case rel => exact ⟨k + 1, n', _, _, _, by omega, by omega, by omega, by go_num, rfl, N0.out.1, N1.out, P4.out, Q4.out, rel2_told RN.out _ (1 + r) (1 + f) (by omega) (by omega) N0.out.1 _, B4.out⟩
          case measure => simp [intOf]; omega
        · go_wp2_with fail
          refine (Wz.out _).mono ?_
          rintro x w' ⟨rfl, rfl⟩
          try go_simp
          go_wp2_with fail
          refine (told2 (hP.out.below ((Below.refl _ _).alloc (Nat.le_refl _) _)) RN.out s _ _ (by omega) (by omega)).mono ?_
          rintro x w3 ⟨rfl, ⟨n', hn', hP3⟩, hg⟩
          try go_simp
          have P3 := hid hP3
          have Q3 := hid ((hQ.out.below ((Below.refl _ _).alloc (Nat.le_refl _) _)).grown hg (fun e => d2 (by injection e)))
          have B3 := hid (below_step (hB.out.alloc hB.out.size _) hg hb' (Nat.le_refl _))
          clear hP3 hg hP hQ hB
          go_wp2_with fail
          refine (rtold2 Q3.out RN.out (by omega) (by omega) N0.out.1 s _ (by omega)).mono ?_
          rintro x w4 ⟨rfl, hQ4, hg⟩
          try go_simp
          have Q4 := hid hQ4
          have P4 := hid (P3.out.other hg d1 d2)
          have B4 := hid (below_step B3.out hg hq' (Nat.le_refl _))
          clear hQ4 hg P3 Q3 B3
          go_wp2_with fail
          go_roundw
          case rel => exact ⟨k + 1, n', _, _, _, by omega, by omega, by omega, by go_num, rfl, N0.out.1, N1.out, P4.out, Q4.out, rel2_told RN.out _ (1 + r) (1 + f) (by omega) (by omega) N0.out.1 _, B4.out⟩
          case measure => simp [intOf]; omega
        · go_wp2_with fail
          refine (Wz.out _).mono ?_
          rintro x w' ⟨rfl, rfl⟩
          try go_simp
          go_wp2_with fail
          refine (told2 (hP.out.below ((Below.refl _ _).alloc (Nat.le_refl _) _)) RN.out s _ _ (by omega) (by omega)).mono ?_
          rintro x w3 ⟨rfl, ⟨n', hn', hP3⟩, hg⟩
          try go_simp
          have P3 := hid hP3
          have Q3 := hid ((hQ.out.below ((Below.refl _ _).alloc (Nat.le_refl _) _)).grown hg (fun e => d2 (by injection e)))
          have B3 := hid (below_step (hB.out.alloc hB.out.size _) hg hb' (Nat.le_refl _))
          clear hP3 hg hP hQ hB
          go_wp2_with fail
          refine (rtold2 Q3.out RN.out (by omega) (by omega) N0.out.1 s _ (by omega)).mono ?_
          rintro x w4 ⟨rfl, hQ4, hg⟩
          try go_simp
          have Q4 := hid hQ4
          have P4 := hid (P3.out.other hg d1 d2)
          have B4 := hid (below_step B3.out hg hq' (Nat.le_refl _))
          clear hQ4 hg P3 Q3 B3
          go_wp2_with fail
          go_roundw
          case rel => exact ⟨k + 1, n', _, _, _, by omega, by omega, by omega, by go_num, rfl, N0.out.1, N1.out, P4.out, Q4.out, rel2_told RN.out _ (1 + r) (1 + f) (by omega) (by omega) N0.out.1 _, B4.out⟩
          case measure => simp [intOf]; omega
        · go_wp2_with fail
          refine (Wz.out _).mono ?_
          rintro x w' ⟨rfl, rfl⟩
          try go_simp
          go_wp2_with fail
          refine (told2 (hP.out.below ((Below.refl _ _).alloc (Nat.le_refl _) _)) RN.out s _ _ (by omega) (by omega)).mono ?_
          rintro x w3 ⟨rfl, ⟨n', hn', hP3⟩, hg⟩
          try go_simp
          have P3 := hid hP3
          have Q3 := hid ((hQ.out.below ((Below.refl _ _).alloc (Nat.le_refl _) _)).grown hg (fun e => d2 (by injection e)))
          have B3 := hid (below_step (hB.out.alloc hB.out.size _) hg hb' (Nat.le_refl _))
          clear hP3 hg hP hQ hB
          go_wp2_with fail
          refine (rtold2 Q3.out RN.out (by omega) (by omega) N0.out.1 s _ (by omega)).mono ?_
          rintro x w4 ⟨rfl, hQ4, hg⟩
          try go_simp
          have Q4 := hid hQ4
          have P4 := hid (P3.out.other hg d1 d2)
          have B4 := hid (below_step B3.out hg hq' (Nat.le_refl _))
          clear hQ4 hg P3 Q3 B3
          go_wp2_with fail
          go_roundw
          case rel => exact ⟨k + 1, n', _, _, _, by omega, by omega, by omega, by go_num, rfl, N0.out.1, N1.out, P4.out, Q4.out, rel2_told RN.out _ (1 + r) (1 + f) (by omega) (by omega) N0.out.1 _, B4.out⟩
          case measure => simp [intOf]; omega
        · go_wp2_with fail
          refine (Wz.out _).mono ?_
          rintro x w' ⟨rfl, rfl⟩
          try go_simp
          go_wp2_with fail
          refine (due2 (hP.out.below ((Below.refl _ _).alloc (Nat.le_refl _) _)) RN.out s hsJ N0.out).mono ?_
          rintro x w3 ⟨rfl, hb3⟩
          try go_simp
          have P3 := hid ((hP.out.below ((Below.refl _ _).alloc (Nat.le_refl _) _)).below hb3)
          have Q3 := hid ((hQ.out.below ((Below.refl _ _).alloc (Nat.le_refl _) _)).below hb3)
          have B3 := hid ((hB.out.alloc hB.out.size _).trans (hb3.mono (hB.out.alloc hB.out.size _).size))
          clear hb3 hP hQ hB
          go_wp2_with fail
          refine (rdue2 Q3.out RN.out s N0.out (by omega)).mono ?_
          rintro x w4 ⟨rfl, m, rfl⟩
          try go_simp
          have hb4 := below_drewN (Below.refl w3.heap.size w3) m
          have P4 := hid (P3.out.below hb4)
          have Q4 := hid (Q3.out.below hb4)
          have B4 := hid (below_drewN B3.out m)
          clear hb4 P3 Q3 B3
          go_wp2_with fail
          go_roundw
          case rel => exact ⟨k + 1, n, _, _, _, by omega, by omega, by omega, by go_num, rfl, N0.out.1, N1.out, P4.out, Q4.out, rel_up RN.out (Int.le_refl _) (Nat.le_succ k), B4.out⟩
          case measure => simp [intOf]; omega
        · go_wp2_with fail
          refine (Wz.out _).mono ?_
          rintro x w' ⟨rfl, rfl⟩
          try go_simp
          go_wp2_with fail
          refine (due2 (hP.out.below ((Below.refl _ _).alloc (Nat.le_refl _) _)) RN.out s hsJ N0.out).mono ?_
          rintro x w3 ⟨rfl, hb3⟩
          try go_simp
          have P3 := hid ((hP.out.below ((Below.refl _ _).alloc (Nat.le_refl _) _)).below hb3)
          have Q3 := hid ((hQ.out.below ((Below.refl _ _).alloc (Nat.le_refl _) _)).below hb3)
          have B3 := hid ((hB.out.alloc hB.out.size _).trans (hb3.mono (hB.out.alloc hB.out.size _).size))
          clear hb3 hP hQ hB
          go_wp2_with fail
          refine (rdue2 Q3.out RN.out s N0.out (by omega)).mono ?_
          rintro x w4 ⟨rfl, m, rfl⟩
          try go_simp
          have hb4 := below_drewN (Below.refl w3.heap.size w3) m
          have P4 := hid (P3.out.below hb4)
          have Q4 := hid (Q3.out.below hb4)
          have B4 := hid (below_drewN B3.out m)
          clear hb4 P3 Q3 B3
          go_wp2_with fail
          go_roundw
          case rel => exact ⟨k + 1, n, _, _, _, by omega, by omega, by omega, by go_num, rfl, N0.out.1, N1.out, P4.out, Q4.out, rel_up RN.out (Int.le_refl _) (Nat.le_succ k), B4.out⟩
          case measure => simp [intOf]; omega
        · go_wp2_with fail
          refine (Wz.out _).mono ?_
          rintro x w' ⟨rfl, rfl⟩
          try go_simp
          go_wp2_with fail
          refine (due2 (hP.out.below ((Below.refl _ _).alloc (Nat.le_refl _) _)) RN.out s hsJ N0.out).mono ?_
          rintro x w3 ⟨rfl, hb3⟩
          try go_simp
          have P3 := hid ((hP.out.below ((Below.refl _ _).alloc (Nat.le_refl _) _)).below hb3)
          have Q3 := hid ((hQ.out.below ((Below.refl _ _).alloc (Nat.le_refl _) _)).below hb3)
          have B3 := hid ((hB.out.alloc hB.out.size _).trans (hb3.mono (hB.out.alloc hB.out.size _).size))
          clear hb3 hP hQ hB
          go_wp2_with fail
          refine (rdue2 Q3.out RN.out s N0.out (by omega)).mono ?_
          rintro x w4 ⟨rfl, m, rfl⟩
          try go_simp
          have hb4 := below_drewN (Below.refl w3.heap.size w3) m
          have P4 := hid (P3.out.below hb4)
          have Q4 := hid (Q3.out.below hb4)
          have B4 := hid (below_drewN B3.out m)
          clear hb4 P3 Q3 B3
          go_wp2_with fail
          go_roundw
          case rel => exact ⟨k + 1, n, _, _, _, by omega, by omega, by omega, by go_num, rfl, N0.out.1, N1.out, P4.out, Q4.out, rel_up RN.out (Int.le_refl _) (Nat.le_succ k), B4.out⟩
          case measure => simp [intOf]; omega
        · go_wp2_with fail
          refine (Wz.out _).mono ?_
          rintro x w' ⟨rfl, rfl⟩
          try go_simp
          go_wp2_with fail
          refine (up2 (hP.out.below ((Below.refl _ _).alloc (Nat.le_refl _) _)) s hsJ).mono ?_
          rintro x w' ⟨rfl, rfl⟩
          try go_simp
          go_wp2_with fail
          refine (rup2 (hQ.out.below ((Below.refl _ _).alloc (Nat.le_refl _) _)) RN.out s).mono ?_
          rintro x w4 ⟨rfl, m, rfl⟩
          try go_simp
          have hb4 := below_drewN ((Below.refl wr.heap.size wr).alloc (Nat.le_refl _) (.cells #[.int .i64 (-1), .int .i64 63, .int .i64 64, .int .i64 w0] 3)) m
          have P4 := hid (hP.out.below hb4)
          have Q4 := hid (hQ.out.below hb4)
          have B4 := hid (hB.out.trans (hb4.mono hB.out.size))
          clear hb4 hP hQ hB
          go_wp2_with fail
          go_roundw
          case rel => exact ⟨k + 1, n, _, _, _, by omega, by omega, by omega, by go_num, rfl, N0.out.1, N1.out, P4.out, Q4.out, rel_up RN.out (Int.le_refl _) (Nat.le_succ k), B4.out⟩
          case measure => simp [intOf]; omega
        · go_wp2_with fail
          refine (Wz.out _).mono ?_
          rintro x w' ⟨rfl, rfl⟩
          try go_simp
          go_wp2_with fail
          refine (up2 (hP.out.below ((Below.refl _ _).alloc (Nat.le_refl _) _)) s hsJ).mono ?_
          rintro x w' ⟨rfl, rfl⟩
          try go_simp
          go_wp2_with fail
          refine (rup2 (hQ.out.below ((Below.refl _ _).alloc (Nat.le_refl _) _)) RN.out s).mono ?_
          rintro x w4 ⟨rfl, m, rfl⟩
          try go_simp
          have hb4 := below_drewN ((Below.refl wr.heap.size wr).alloc (Nat.le_refl _) (.cells #[.int .i64 (-1), .int .i64 63, .int .i64 64, .int .i64 w0] 3)) m
          have P4 := hid (hP.out.below hb4)
          have Q4 := hid (hQ.out.below hb4)
          have B4 := hid (hB.out.trans (hb4.mono hB.out.size))
          clear hb4 hP hQ hB
          go_wp2_with fail
          go_roundw
          case rel => exact ⟨k + 1, n, _, _, _, by omega, by omega, by omega, by go_num, rfl, N0.out.1, N1.out, P4.out, Q4.out, rel_up RN.out (Int.le_refl _) (Nat.le_succ k), B4.out⟩
          case measure => simp [intOf]; omega
        · go_wp2_with fail
          refine (Wz.out _).mono ?_
          rintro x w' ⟨rfl, rfl⟩
          try go_simp
          go_wp2_with fail
          refine (drop2 (hP.out.below ((Below.refl _ _).alloc (Nat.le_refl _) _)) s hsJ).mono ?_
          rintro x w3 ⟨rfl, hP3, hg⟩
          try go_simp
          have P3 := hid hP3
          have Q3 := hid ((hQ.out.below ((Below.refl _ _).alloc (Nat.le_refl _) _)).grown hg (fun e => d2 (by injection e)))
          have B3 := hid (below_step (hB.out.alloc hB.out.size _) hg hb' (Nat.le_refl _))
          clear hP3 hg hP hQ hB
          go_wp2_with fail
          refine (rdrop2 Q3.out RN.out N0.out.1 s).mono ?_
          rintro x w4 ⟨rfl, hQ4, hg⟩
          try go_simp
          have Q4 := hid hQ4
          have P4 := hid (P3.out.other hg d1 d2)
          have B4 := hid (below_step B3.out hg hq' (Nat.le_refl _))
          clear hQ4 hg P3 Q3 B3
          go_wp2_with fail
          go_roundw
          case rel => exact ⟨k + 1, n, _, _, _, by omega, by omega, by omega, by go_num, rfl, N0.out.1, N1.out, P4.out, Q4.out, rel_up (rel2_drop RN.out _ N0.out.1) (Int.le_refl _) (Nat.le_succ k), B4.out⟩
          case measure => simp [intOf]; omega
    · have hx : (k < n1 ∧ k = 120) ∨ k = n1 := by omega
      rcases hx with ⟨hx, e⟩ | e
      · have i1 : (k : Int) < n1 := by omega
        have i2 : ¬ (k : Int) < 120 := by omega
        clear e hlt
        go_wp2_with fail
        go_ret
        exact ⟨rfl, hB.out⟩
      · have i1 : ¬ (k : Int) < n1 := by omega
        clear e hlt
        go_wp2_with fail
        go_ret
        exact ⟨rfl, hB.out⟩

set_option maxRecDepth 100000 in
theorem lifted (os : Os) (started : os.Started) (H : Type) (enc : TypeId × Value → H) :
    ReturnsInHanded {} Try.checked os 3 .any (Rows.pulsePlaysSpec.pre6 enc Try.prog Try.f3 [] false) (Rows.pulsePlaysSpec.post enc Try.prog Try.f3 false true false false) :=
  law_step (s := Rows.pulsePlaysSpec) started (by kernel_rfl) Try.func3
    (ChangeSpec.witness6 (s := Rows.pulsePlaysSpec) (enc := enc) (C := Try.checked) false ⟨#[], #[.int .i64 0, .int .i64 0, .int .i64 0, .slice none 0 0, .int .i64 0], []⟩ 8 (by kernel_rfl) (by kernel_rfl) (by kernel_rfl) (by kernel_rfl))
    rfl (by rw [Try.params3]; decide +kernel) rfl Try.underlying4
    (fun ds h => by
      rw [Try.params3] at h
      match ds, h with
      | [_, _, _, _, _], _ => rfl)
    (fun W base args ds ps hval hA hsz => by
      rw [Try.params3] at hA hval hsz
      obtain ⟨v0, vs0, d0, ds0, p0, q0, hargs, rfl, rfl, h0, r0⟩ := trodAll_cons hA
      obtain ⟨v1, vs1, d1, ds1, p1, q1, rfl, rfl, rfl, h1, r1⟩ := trodAll_cons r0
      obtain ⟨v2, vs2, d2, ds2, p2, q2, rfl, rfl, rfl, h2, r2⟩ := trodAll_cons r1
      obtain ⟨v3, vs3, d3, ds3, p3, q3, rfl, rfl, rfl, h3, r3⟩ := trodAll_cons r2
      obtain ⟨v4, vs4, d4, ds4, p4, q4, rfl, rfl, rfl, h4, r4⟩ := trodAll_cons r3
      obtain ⟨rfl, rfl, rfl⟩ := trodAll_nil r4
      obtain rfl : args = #[v0, v1, v2, v3, v4] := by cases args; simp_all
      obtain ⟨a0, rfl, rfl, rfl, w0⟩ := open_int Try.underlying3 (hval 0 3 v0 rfl rfl) h0
      obtain ⟨a1, rfl, rfl, rfl, w1⟩ := open_int Try.underlying3 (hval 1 3 v1 rfl rfl) h1
      obtain ⟨a2, rfl, rfl, rfl, w2⟩ := open_int Try.underlying3 (hval 2 3 v2 rfl rfl) h2
      obtain ⟨A3, n3, c3, g3, rfl, hn3, hc3, hs3, hw3, hl3, hd3⟩ := open_row Try.underlying22 Try.underlying3 (by kernel_rfl) (hval 3 22 v3 rfl rfl) h3
      have re3 : c3 * 8 ≤ 140737488351232 := by
        rcases hd3 with ⟨_, h0⟩ | ⟨xs, ys, h1, h2⟩
        · omega
        · have := sized_slice hsz (j := 3) (t := 22) (e := 3) rfl (by rw [h1]; rfl) Try.underlying22
          rw [h2, show Try.prog.bytesOf 3 = 8 from by kernel_rfl] at this
          simpa [reachBytes] using this
      obtain ⟨a4, rfl, rfl, rfl, w4⟩ := open_int Try.underlying3 (hval 4 3 v4 rfl rfl) h4
      exact walk W a0 (bounds_i64 w0) a1 (bounds_i64 w1) a2 (bounds_i64 w2) A3 n3 c3 g3 hn3 hc3 hs3 (fun j => bounds_i64 (hw3 j)) hl3 re3 a4 (bounds_i64 w4))

theorem proved : Rows.PulsePlaysSaid :=
  OpenClaim.holds_of_wide 3 Try.f3 rfl rfl rfl rfl rfl rfl rfl ⟨rfl, rfl, rfl, rfl, rfl⟩ rfl rfl rfl rfl rfl (by kernel_rfl) Try.func3 (by kernel_rfl)
    (of_decide_eq_true (by kernel_rfl)) (by unfold Func.isWrapper; first | (rw [if_pos (by decide +kernel)]; kernel_rfl) | (rw [if_neg (by decide +kernel)]; exact ⟨rfl, rfl⟩))
    (fun os started H enc _ => lifted os started H enc)
end Go.Proofs.Ytcbnebabeekegaa.pulsePlays
