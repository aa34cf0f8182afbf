/- roundhouselaw8.PulseApart answers true for every row, two slots; no condition. -/
import Derived.Test.YtcbnebabeekegaaPulSt
import Derived.BigQuiet
import Derived.Deep.RegionHeld3
import Derived.Deep.Cut
namespace Go.Proofs.Ytcbnebabeekegaa.pulseApart
set_option linter.unusedVariables false
set_option linter.unusedSimpArgs false
open Go.RowKit Go.ChangeShapes Go.WideShapes Go.ChangeAt

theorem toldL_bd (r f : Int) (l : Life) (now : Int) (ok : Bool) (k : Nat) (h0 : 0 ≤ l.2.2.2) (h1 : l.2.2.2 ≤ k) : 0 ≤ (toldL r f l now ok).2.2.2 ∧ (toldL r f l now ok).2.2.2 ≤ (k + 1 : Nat) := by
  unfold toldL lifeUp
  split
  · exact rowUp_bd _ _ _ k h0 h1
  · exact ⟨show (0:Int) ≤ 0 from by decide, by show (0:Int) ≤ _; omega⟩
theorem cur_ne (M : Int → Option Life) (s x : Int) (l : Option Life) (h : x ≠ s) : cur (upd M s l) x = cur M x := by unfold cur upd; rw [if_neg h]
theorem upd_ne (M : Int → Option Life) (s x : Int) (l : Option Life) (h : x ≠ s) : upd M s l x = M x := by unfold upd; rw [if_neg h]
set_option maxRecDepth 100000 in
set_option maxHeartbeats 16000000 in
theorem walk (W : World) (A1 : Option Addr) (n1 c1 : Nat) (g1 : Nat → Int) (hn1 : n1 ≤ c1) (hc1 : c1 ≤ maxLen) (hr1 : Is W A1 n1 g1) (hg1 : IsI g1) (hl1 : ∀ ad, A1 = some ad → 0 < n1 → ad.block < W.heap.size) (re1 : c1 * 8 ≤ 140737488351232)
    (a0 : Int) (r_a0 : -9223372036854775808 ≤ a0 ∧ a0 ≤ 9223372036854775807) (b0 : Int) (r_b0 : -9223372036854775808 ≤ b0 ∧ b0 ≤ 9223372036854775807) :
    Calls Try.prog 7 #[.slice A1 n1 c1, .int .i64 a0, .int .i64 b0] W fun e w' => e = .returned (.bool true) ∧ Below W.heap.size W w' := by
  obtain ⟨x, hx⟩ : ∃ x, x = wi a0 64 := ⟨_, rfl⟩
  have kx := wi_bd a0 64 (by omega)
  rw [← hx] at kx
  have Wx := hid (fun w => re_i64 (within_any a0 64 w (by omega) (by omega)) hx.symm)
  clear hx
  obtain ⟨kx1, kx2⟩ := kx
  obtain ⟨y, hy⟩ : ∃ x, x = wi b0 64 := ⟨_, rfl⟩
  have ky := wi_bd b0 64 (by omega)
  rw [← hy] at ky
  have Wy := hid (fun w => re_i64 (within_any b0 64 w (by omega) (by omega)) hy.symm)
  clear hy
  obtain ⟨ky1, ky2⟩ := ky
  have hX : I64 x := by unfold I64; omega
  have hY : I64 y := by unfold I64; omega
  have sX : 0 ≤ x ∧ x < 64 := ⟨kx1, kx2⟩
  have sY : 0 ≤ y ∧ y < 64 := ⟨ky1, ky2⟩
  unfold maxLen at hc1
  have hnm : (n1 : Int) ≤ 9223372036854775807 := by have := hn1; omega
  clear hl1 re1
  cases he : (x == y)
  · have hne : Hid (x ≠ y) := hid (fun e => by subst e; simp at he)
    go_enter Try.func7, Try.ntmps7
    go_wp2_with fail
    refine (known_any _).mono ?_
    rintro x w ⟨rfl, hB⟩
    try go_simp
    have B := hid hB
    clear hB
    go_wp2_with fail
    refine (new_ok 2 2 1 (by omega) (by omega) (by omega) _).mono ?_
    rintro x w1 ⟨p, b, rfl, hP, hp, hb, hB1⟩
    try go_simp
    have P1 := hid hP
    have B1 := hid (B.out.trans (hB1.mono B.out.size))
    have hb' : W.heap.size ≤ b := Nat.le_trans B.out.size hb
    have lp := hP.1.1
    have lb := hP.2.1.lt
    clear hP hB1 B
    go_wp2_with fail
    refine (new_ok 1 1 1 (by omega) (by omega) (by omega) _).mono ?_
    rintro x w2 ⟨q, c, rfl, hQ, hq, hc, hB2⟩
    try go_simp
    have P2 := hid (P1.out.below hB2)
    have Q2 := hid hQ
    have B2 := hid (B1.out.trans (hB2.mono B1.out.size))
    have hc' : W.heap.size ≤ c := Nat.le_trans B1.out.size hc
    have d1 : p ≠ c := by omega
    have d2 : b ≠ c := by omega
    have d3 : q ≠ b := by omega
    have d4 : c ≠ b := by omega
    clear hQ hB2 P1 B1
    go_wp2_with fail
    refine (Wx.out _).mono ?_
    rintro x w' ⟨rfl, rfl⟩
    try go_simp
    go_wp2_with fail
    refine (Wy.out _).mono ?_
    rintro x w' ⟨rfl, rfl⟩
    try go_simp
    go_wp2_with fail
    refine (told_ok P2.out y 0 true zLife (false, 0, true, 1) 0 sY (by omega) rfl (by decide) (by decide) rfl rfl).mono ?_
    rintro x w3 ⟨rfl, hP3, hg⟩
    try go_simp
    have P3 := hid hP3
    have Q3 := hid (Q2.out.other hg d3 d4)
    have B3 := hid (below_step B2.out hg hb' (Nat.le_refl _))
    clear hP3 hg P2 Q2 B2
    go_wp2_with fail
    go_loopw [13] (fun i wr => ∃ (k : Nat) (M N : Int → Option Life) (l m : Life), k ≤ n1 ∧ k ≤ 20 ∧ i = .int .i64 (k : Int) ∧ PulseAt wr p b (k + 1) 2 2 1 M ∧ PulseAt wr q c k 1 1 1 N ∧ cur M y = (false, 0, true, 1) ∧ cur M x = l ∧ 0 ≤ l.2.2.2 ∧ l.2.2.2 ≤ (k : Int) ∧ (N x).isSome = false ∧ (N y).isSome = decide (0 < k) ∧ cur N y = m ∧ 0 ≤ m.2.2.2 ∧ m.2.2.2 ≤ (k : Int) ∧ Below W.heap.size W wr) (fun i _ => 20 - (intOf i).toNat)
    case atStart => exact ⟨0, _, _, zLife, zLife, by omega, by omega, rfl, P3.out, Q3.out, by simp [cur, upd], by rw [cur_ne _ _ _ _ hne.out]; rfl, by decide, by decide, rfl, rfl, rfl, by decide, by decide, B3.out⟩
    case round =>
      clear P3 Q3 B3
      obtain ⟨k, M, N, l, m, hk, hk20, rfl, hP, hQ, hy, hl, l0, l1, hNx, hNy, hm, m0, m1, hB⟩ := hrel
      replace hP := hid hP
      replace hQ := hid hQ
      have R := hid (hr1.below hB (Nat.le_refl _))
      replace hB := hid hB
      replace hy := hid hy
      replace hl := hid hl
      replace hNx := hid hNx
      replace hNy := hid hNy
      replace hm := hid hm
      have L0 := hid (show 0 ≤ l.2.2.2 ∧ l.2.2.2 ≤ 1000000 from ⟨l0, by omega⟩)
      have M0 := hid (show 0 ≤ m.2.2.2 ∧ m.2.2.2 ≤ 1000000 from ⟨m0, by omega⟩)
      have LB := hid (fun ok => toldL_bd 2 2 l k ok k l0 l1)
      have MB := hid (fun ok => toldL_bd 1 1 m k ok k m0 m1)
      clear l0 l1 m0 m1
      by_cases hlt : k < n1 ∧ k < 20
      · obtain ⟨q1, q2⟩ := hlt
        have i0 : (0 : Int) ≤ k := by omega
        have i1 : (k : Int) < n1 := by omega
        have i2 : (k : Int) < 20 := by omega
        obtain ⟨bb, off, rfl, hblt, hcell⟩ := R.out (by omega)
        have c1 : wr.cell? ⟨bb, off + k, none⟩ = some (.int .i64 (g1 k)) := hcell _ (by omega)
        clear hcell
        have hz : wi (g1 k) 2 = 0 ∨ wi (g1 k) 2 = 1 := by have := wi_bd (g1 k) 2 (by omega); omega
        rcases hz with hz | hz
        · have Wz := hid (fun w => re_i64 (within_any (g1 k) 2 w (by omega) (by omega)) hz)
          clear hz
          go_wp2_with fail
          refine (Wz.out _).mono ?_
          rintro x w' ⟨rfl, rfl⟩
          try go_simp
          go_wp2_with fail
          refine (told_ok hP.out x k true l (toldL 2 2 l k true) _ sX (by omega) hl.out L0.out.1 L0.out.2 rfl rfl).mono ?_
          rintro x w3 ⟨rfl, hP3, hg⟩
          try go_simp
          have P3 := hid hP3
          have Q3 := hid (hQ.out.other hg d3 d4)
          have B3 := hid (below_step hB.out hg hb' (Nat.le_refl _))
          have R3 := hid (hr1.below B3.out (Nat.le_refl _))
          clear hP3 hg hP hQ hB c1
          have c1 := Sl.at_ R3.out (j := k) (by omega)
          go_wp2_with fail
          refine (Wz.out _).mono ?_
          rintro x w' ⟨rfl, rfl⟩
          try go_simp
          go_wp2_with fail
          refine (told_ok Q3.out y k true m (toldL 1 1 m k true) _ sY (by omega) hm.out M0.out.1 M0.out.2 rfl rfl).mono ?_
          rintro x w4 ⟨rfl, hQ4, hg⟩
          try go_simp
          have Q4 := hid hQ4
          have P4 := hid (P3.out.other hg d1 d2)
          have B4 := hid (below_step B3.out hg hc' (Nat.le_refl _))
          clear hQ4 hg Q3 P3 B3
          go_wp2_with fail
          go_roundw
          case rel => exact ⟨k + 1, _, _, _, _, by omega, by omega, by go_num, P4.out, Q4.out, by rw [cur_ne _ _ _ _ (Ne.symm hne.out)]; exact hy.out, cur_upd _ _ _, (LB.out true).1, (LB.out true).2, by rw [upd_ne _ _ _ _ hne.out]; exact hNx.out, by simp [upd], cur_upd _ _ _, (MB.out true).1, (MB.out true).2, B4.out⟩
          case measure => simp [intOf]; omega
        · have Wz := hid (fun w => re_i64 (within_any (g1 k) 2 w (by omega) (by omega)) hz)
          clear hz
          go_wp2_with fail
          refine (Wz.out _).mono ?_
          rintro x w' ⟨rfl, rfl⟩
          try go_simp
          go_wp2_with fail
          refine (told_ok hP.out x k false l (toldL 2 2 l k false) _ sX (by omega) hl.out L0.out.1 L0.out.2 rfl rfl).mono ?_
          rintro x w3 ⟨rfl, hP3, hg⟩
          try go_simp
          have P3 := hid hP3
          have Q3 := hid (hQ.out.other hg d3 d4)
          have B3 := hid (below_step hB.out hg hb' (Nat.le_refl _))
          have R3 := hid (hr1.below B3.out (Nat.le_refl _))
          clear hP3 hg hP hQ hB c1
          have c1 := Sl.at_ R3.out (j := k) (by omega)
          go_wp2_with fail
          refine (Wz.out _).mono ?_
          rintro x w' ⟨rfl, rfl⟩
          try go_simp
          go_wp2_with fail
          refine (told_ok Q3.out y k false m (toldL 1 1 m k false) _ sY (by omega) hm.out M0.out.1 M0.out.2 rfl rfl).mono ?_
          rintro x w4 ⟨rfl, hQ4, hg⟩
          try go_simp
          have Q4 := hid hQ4
          have P4 := hid (P3.out.other hg d1 d2)
          have B4 := hid (below_step B3.out hg hc' (Nat.le_refl _))
          clear hQ4 hg Q3 P3 B3
          go_wp2_with fail
          go_roundw
          case rel => exact ⟨k + 1, _, _, _, _, by omega, by omega, by go_num, P4.out, Q4.out, by rw [cur_ne _ _ _ _ (Ne.symm hne.out)]; exact hy.out, cur_upd _ _ _, (LB.out false).1, (LB.out false).2, by rw [upd_ne _ _ _ _ hne.out]; exact hNx.out, by simp [upd], cur_upd _ _ _, (MB.out false).1, (MB.out false).2, B4.out⟩
          case measure => simp [intOf]; omega
      · have hx : n1 = 0 ∧ k = 0 ∨ 0 < n1 ∧ ((k < n1 ∧ k = 20) ∨ k = n1) := by omega
        rcases hx with ⟨rfl, rfl⟩ | ⟨hpos, ⟨hx, e⟩ | e⟩
        · clear hlt
          go_wp2_with fail
          refine (up_ok hP.out y false hY (by rw [hy.out])).mono ?_
          rintro x w' ⟨rfl, rfl⟩
          try go_simp
          go_wp2_with fail
          refine (told_ok hP.out y 50 true (false, 0, true, 1) (true, 50, false, 0) 1 sY (by omega) hy.out (by decide) (by decide) rfl rfl).mono ?_
          rintro x w3 ⟨rfl, hP3, hg⟩
          try go_simp
          have Q3 := hid (hQ.out.other hg d3 d4)
          have B3 := hid (below_step hB.out hg hb' (Nat.le_refl _))
          clear hP3 hg hP hQ hB
          go_wp2_with fail
          refine (drop_ok Q3.out y false hY (by rw [hNy.out]; rfl)).mono ?_
          rintro x w4 ⟨rfl, hQ4, hg⟩
          try go_simp
          have Q4 := hid hQ4
          have B4 := hid (below_step B3.out hg hc' (Nat.le_refl _))
          clear hQ4 hg Q3 B3
          go_wp2_with fail
          refine (drop_ok Q4.out x false hX (by rw [upd_ne _ _ _ _ hne.out]; exact hNx.out)).mono ?_
          rintro x w5 ⟨rfl, hQ5, hg⟩
          try go_simp
          have B5 := hid (below_step B4.out hg hc' (Nat.le_refl _))
          clear hQ5 hg Q4 B4
          go_wp2_with fail
          go_ret
          exact ⟨rfl, B5.out⟩
        · have i1 : (k : Int) < n1 := by omega
          have i2 : ¬ (k : Int) < 20 := by omega
          have i3 : (0 : Int) < n1 := by omega
          clear hlt e
          go_wp2_with fail
          refine (up_ok hP.out y false hY (by rw [hy.out])).mono ?_
          rintro x w' ⟨rfl, rfl⟩
          try go_simp
          go_wp2_with fail
          refine (told_ok hP.out y 50 true (false, 0, true, 1) (true, 50, false, 0) 1 sY (by omega) hy.out (by decide) (by decide) rfl rfl).mono ?_
          rintro x w3 ⟨rfl, hP3, hg⟩
          try go_simp
          have Q3 := hid (hQ.out.other hg d3 d4)
          have B3 := hid (below_step hB.out hg hb' (Nat.le_refl _))
          clear hP3 hg hP hQ hB
          go_wp2_with fail
          refine (drop_ok Q3.out x false hX hNx.out).mono ?_
          rintro x w5 ⟨rfl, hQ5, hg⟩
          try go_simp
          have B5 := hid (below_step B3.out hg hc' (Nat.le_refl _))
          clear hQ5 hg Q3 B3
          go_wp2_with fail
          go_ret
          exact ⟨rfl, B5.out⟩
        · have i1 : ¬ (k : Int) < n1 := by omega
          have i3 : (0 : Int) < n1 := by omega
          clear hlt e
          go_wp2_with fail
          refine (up_ok hP.out y false hY (by rw [hy.out])).mono ?_
          rintro x w' ⟨rfl, rfl⟩
          try go_simp
          go_wp2_with fail
          refine (told_ok hP.out y 50 true (false, 0, true, 1) (true, 50, false, 0) 1 sY (by omega) hy.out (by decide) (by decide) rfl rfl).mono ?_
          rintro x w3 ⟨rfl, hP3, hg⟩
          try go_simp
          have Q3 := hid (hQ.out.other hg d3 d4)
          have B3 := hid (below_step hB.out hg hb' (Nat.le_refl _))
          clear hP3 hg hP hQ hB
          go_wp2_with fail
          refine (drop_ok Q3.out x false hX hNx.out).mono ?_
          rintro x w5 ⟨rfl, hQ5, hg⟩
          try go_simp
          have B5 := hid (below_step B3.out hg hc' (Nat.le_refl _))
          clear hQ5 hg Q3 B3
          go_wp2_with fail
          go_ret
          exact ⟨rfl, B5.out⟩
  · go_enter Try.func7, Try.ntmps7
    go_wp2_with fail
    refine (known_any _).mono ?_
    rintro x w ⟨rfl, hB⟩
    try go_simp
    have B := hid hB
    clear hB
    go_wp2_with fail
    refine (new_ok 2 2 1 (by omega) (by omega) (by omega) _).mono ?_
    rintro x w1 ⟨p, b, rfl, hP, hp, hb, hB1⟩
    try go_simp
    have B1 := hid (B.out.trans (hB1.mono B.out.size))
    clear hP hB1 B
    go_wp2_with fail
    refine (new_ok 1 1 1 (by omega) (by omega) (by omega) _).mono ?_
    rintro x w2 ⟨q, c, rfl, hQ, hq, hc, hB2⟩
    try go_simp
    have B2 := hid (B1.out.trans (hB2.mono B1.out.size))
    clear hQ hB2 B1
    go_wp2_with fail
    refine (Wx.out _).mono ?_
    rintro x w' ⟨rfl, rfl⟩
    try go_simp
    go_wp2_with fail
    refine (Wy.out _).mono ?_
    rintro x w' ⟨rfl, rfl⟩
    try go_simp
    go_wp2_with fail
    go_ret
    exact ⟨rfl, B2.out⟩

set_option maxRecDepth 100000 in
theorem lifted (os : Os) (started : os.Started) (H : Type) (enc : TypeId × Value → H) :
    ReturnsInHanded {} Try.checked os 7 .any (Rows.pulseApartSpec.pre6 enc Try.prog Try.f7 [] false) (Rows.pulseApartSpec.post enc Try.prog Try.f7 false true false false) :=
  law_step (s := Rows.pulseApartSpec) started (by kernel_rfl) Try.func7
    (ChangeSpec.witness6 (s := Rows.pulseApartSpec) (enc := enc) (C := Try.checked) false ⟨#[], #[.slice none 0 0, .int .i64 0, .int .i64 0], []⟩ 8 (by kernel_rfl) (by kernel_rfl) (by kernel_rfl) (by kernel_rfl))
    rfl (by rw [Try.params7]; decide +kernel) rfl Try.underlying4
    (fun ds h => by
      rw [Try.params7] at h
      match ds, h with
      | [_, _, _], _ => rfl)
    (fun W base args ds ps hval hA hsz => by
      rw [Try.params7] at hA hval hsz
      obtain ⟨v0, vs0, d0, ds0, p0, q0, hargs, rfl, rfl, h0, r0⟩ := trodAll_cons hA
      obtain ⟨v1, vs1, d1, ds1, p1, q1, rfl, rfl, rfl, h1, r1⟩ := trodAll_cons r0
      obtain ⟨v2, vs2, d2, ds2, p2, q2, rfl, rfl, rfl, h2, r2⟩ := trodAll_cons r1
      obtain ⟨rfl, rfl, rfl⟩ := trodAll_nil r2
      obtain rfl : args = #[v0, v1, v2] := by cases args; simp_all
      obtain ⟨A0, n0, c0, g0, rfl, hn0, hc0, hs0, hw0, hl0, hd0⟩ := open_row Try.underlying22 Try.underlying3 (by kernel_rfl) (hval 0 22 v0 rfl rfl) h0
      have re0 : c0 * 8 ≤ 140737488351232 := by
        rcases hd0 with ⟨_, h0⟩ | ⟨xs, ys, h1, h2⟩
        · omega
        · have := sized_slice hsz (j := 0) (t := 22) (e := 3) rfl (by rw [h1]; rfl) Try.underlying22
          rw [h2, show Try.prog.bytesOf 3 = 8 from by kernel_rfl] at this
          simpa [reachBytes] using this
      obtain ⟨a1, rfl, rfl, rfl, w1⟩ := open_int Try.underlying3 (hval 1 3 v1 rfl rfl) h1
      obtain ⟨a2, rfl, rfl, rfl, w2⟩ := open_int Try.underlying3 (hval 2 3 v2 rfl rfl) h2
      exact walk W A0 n0 c0 g0 hn0 hc0 hs0 (fun j => bounds_i64 (hw0 j)) hl0 re0 a1 (bounds_i64 w1) a2 (bounds_i64 w2))

theorem proved : Rows.PulseApartSaid :=
  OpenClaim.holds_of_wide 7 Try.f7 rfl rfl rfl rfl rfl rfl rfl ⟨rfl, rfl, rfl, rfl, rfl⟩ rfl rfl rfl rfl rfl (by kernel_rfl) Try.func7 (by kernel_rfl)
    (of_decide_eq_true (by kernel_rfl)) (by unfold Func.isWrapper; first | (rw [if_pos (by decide +kernel)]; kernel_rfl) | (rw [if_neg (by decide +kernel)]; exact ⟨rfl, rfl⟩))
    (fun os started H enc _ => lifted os started H enc)
end Go.Proofs.Ytcbnebabeekegaa.pulseApart
