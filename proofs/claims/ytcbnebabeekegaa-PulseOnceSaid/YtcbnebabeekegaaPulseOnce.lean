/- roundhouselaw8.PulseOnce answers true for every slot, row; no condition. -/
import Derived.Test.YtcbnebabeekegaaPulSt
import Derived.BigQuiet
import Derived.Deep.RegionHeld3
import Derived.Deep.Cut
namespace Go.Proofs.Ytcbnebabeekegaa.pulseOnce
set_option linter.unusedVariables false
set_option linter.unusedSimpArgs false
open Go.RowKit Go.ChangeShapes Go.WideShapes Go.ChangeAt

set_option maxRecDepth 100000 in
set_option maxHeartbeats 4000000 in
theorem walk (W : World) (s0 : Int) (r_s0 : -9223372036854775808 ≤ s0 ∧ s0 ≤ 9223372036854775807)
    (A1 : Option Addr) (n1 c1 : Nat) (g1 : Nat → Int) (hn1 : n1 ≤ c1) (hc1 : c1 ≤ maxLen) (hr1 : Is W A1 n1 g1) (hg1 : IsI g1) (hl1 : ∀ ad, A1 = some ad → 0 < n1 → ad.block < W.heap.size) (re1 : c1 * 8 ≤ 140737488351232) :
    Calls Try.prog 8 #[.int .i64 s0, .slice A1 n1 c1] W fun e w' => e = .returned (.bool true) ∧ Below W.heap.size W w' := by
  obtain ⟨s, hs⟩ : ∃ x, x = wi s0 64 := ⟨_, rfl⟩
  have bs := wi_bd s0 64 (by omega)
  rw [← hs] at bs
  have Ws := hid (fun w => re_i64 (within_any s0 64 w (by omega) (by omega)) hs.symm)
  clear hs
  obtain ⟨bs1, bs2⟩ := bs
  have hs : I64 s := by unfold I64; omega
  have hsl : 0 ≤ s ∧ s < 64 := ⟨bs1, bs2⟩
  have HN := hid (Nat.le_trans hn1 hc1)
  unfold maxLen at hc1
  have hnm : (n1 : Int) ≤ 9223372036854775807 := by have := hn1; omega
  clear HN hl1 re1
  go_enter Try.func8, Try.ntmps8
  go_wp2_with fail
  refine (known_any _).mono ?_
  rintro x w ⟨rfl, hB⟩
  try go_simp
  have B := hid hB
  clear hB
  go_wp2_with fail
  refine (new_ok 1 1 1 (by omega) (by omega) (by omega) _).mono ?_
  rintro x w1 ⟨p, b, rfl, hP, hp, hb, hB1⟩
  try go_simp
  have P1 := hid hP
  have B1 := hid (B.out.trans (hB1.mono B.out.size))
  have hb' : W.heap.size ≤ b := Nat.le_trans B.out.size hb
  have hp' : W.heap.size ≤ p := Nat.le_trans B.out.size hp
  clear hP hB1 B
  go_wp2_with fail
  refine (Ws.out _).mono ?_
  rintro x w' ⟨rfl, rfl⟩
  try go_simp
  go_wp2_with fail
  go_loopw [8, 9] (fun o i wr => ∃ (k : Nat) (M : Int → Option Life) (u : Bool) (la : Int) (wh : Bool) (lo : Int), k ≤ n1 ∧ k ≤ 60 ∧ i = .int .i64 (k : Int) ∧ o = .bool u ∧ PulseAt wr p b k 1 1 1 M ∧ cur M s = (u, la, wh, lo) ∧ Below W.heap.size W wr ∧ 0 ≤ lo ∧ lo ≤ (k : Int)) (fun _ i _ => 60 - (intOf i).toNat)
  case atStart => exact ⟨0, _, false, 0, false, 0, by omega, by omega, rfl, rfl, P1.out, rfl, B1.out, by decide, by decide⟩
  case round =>
    clear P1 B1
    obtain ⟨k, M, u, la, wh, lo, hk, hk60, rfl, rfl, hP, hcur, hB, h0, h1⟩ := hrel
    replace hP := hid hP
    have R := hid (hr1.below hB (Nat.le_refl _))
    replace hB := hid hB
    by_cases hlt : k < n1 ∧ k < 60
    · obtain ⟨q1, q2⟩ := hlt
      have i0 : (0 : Int) ≤ k := by omega
      have i1 : (k : Int) < n1 := by omega
      have i2 : (k : Int) < 60 := by omega
      obtain ⟨bb, off, rfl, hblt, hcell⟩ := R.out (by omega)
      have c1 : wr.cell? ⟨bb, off + k, none⟩ = some (.int .i64 (g1 k)) := hcell _ (by omega)
      have hz : wi (g1 k) 2 = 0 ∨ wi (g1 k) 2 = 1 := by have := wi_bd (g1 k) 2 (by omega); omega
      have RP := rowUp_pos wh lo
      have RB := hid (fun x => rowUp_bd wh lo x k h0 h1)
      replace RP := hid (fun x => rowUp_pos wh lo x h0)
      clear hcell
      have HC := hid hcur
      have H0 := hid h0
      have H1 : Hid (lo ≤ 1000000) := hid (by omega)
      clear hcur
      rcases hz with hz | hz <;> cases u
      · have Wz := hid (fun w => re_i64 (within_any (g1 k) 2 w (by omega) (by omega)) hz)
        have BT := hid (bit_any true)
        clear hz
        go_wp2_with fail
        refine (Wz.out _).mono ?_
        rintro x w' ⟨rfl, rfl⟩
        try go_simp
        go_wp2_with fail
        refine (BT.out _).mono ?_
        rintro x w' ⟨rfl, rfl⟩
        try go_simp
        go_wp2_with fail
        refine (told_ok (hP.out.below ((Below.refl _ _).alloc (Nat.le_refl _) _)) s k true (false, la, wh, lo) (true, (k : Int), false, 0) 1 hsl (by omega) HC.out H0.out H1.out (st_ft1 _ _ _ _ _ _ (RP.out true)).1 (st_ft1 _ _ _ _ _ _ (RP.out true)).2).mono ?_
        rintro x w3 ⟨rfl, hP3, hg⟩
        try go_simp
        have P3 := hid hP3
        have B3 := hid (below_step (hB.out.alloc hB.out.size _) hg hb' (Nat.le_refl _))
        clear hP3 hg hP hB
        go_wp2_with fail
        refine (up_ok P3.out s true hs (by rw [cur_upd])).mono ?_
        rintro x w' ⟨rfl, rfl⟩
        try go_simp
        go_wp2_with fail
        go_roundw
        case rel => exact ⟨k + 1, _, _, _, _, _, by omega, by omega, by go_num, rfl, P3.out, cur_upd _ _ _, B3.out, by decide, by omega⟩
        case measure => simp [intOf]; omega
      · have Wz := hid (fun w => re_i64 (within_any (g1 k) 2 w (by omega) (by omega)) hz)
        have BT := hid (bit_any true)
        clear hz
        go_wp2_with fail
        refine (Wz.out _).mono ?_
        rintro x w' ⟨rfl, rfl⟩
        try go_simp
        go_wp2_with fail
        refine (told_ok hP.out s k true (true, la, wh, lo) (true, (k : Int), true, rowUp wh lo true) 0 hsl (by omega) HC.out H0.out H1.out (st_tt _ _ _ _ _ _).1 (st_tt _ _ _ _ _ _).2).mono ?_
        rintro x w3 ⟨rfl, hP3, hg⟩
        try go_simp
        have P3 := hid hP3
        have B3 := hid (below_step hB.out hg hb' (Nat.le_refl _))
        clear hP3 hg hP hB
        go_wp2_with fail
        refine (up_ok P3.out s true hs (by rw [cur_upd])).mono ?_
        rintro x w' ⟨rfl, rfl⟩
        try go_simp
        go_wp2_with fail
        go_roundw
        case rel => exact ⟨k + 1, _, _, _, _, _, by omega, by omega, by go_num, rfl, P3.out, cur_upd _ _ _, B3.out, (RB.out true).1, (RB.out true).2⟩
        case measure => simp [intOf]; omega
      · have Wz := hid (fun w => re_i64 (within_any (g1 k) 2 w (by omega) (by omega)) hz)
        have BT := hid (bit_any false)
        clear hz
        go_wp2_with fail
        refine (Wz.out _).mono ?_
        rintro x w' ⟨rfl, rfl⟩
        try go_simp
        go_wp2_with fail
        refine (told_ok hP.out s k false (false, la, wh, lo) (false, (k : Int), false, rowUp wh lo false) 0 hsl (by omega) HC.out H0.out H1.out (st_ff _ _ _ _ _ _).1 (st_ff _ _ _ _ _ _).2).mono ?_
        rintro x w3 ⟨rfl, hP3, hg⟩
        try go_simp
        have P3 := hid hP3
        have B3 := hid (below_step hB.out hg hb' (Nat.le_refl _))
        clear hP3 hg hP hB
        go_wp2_with fail
        refine (up_ok P3.out s false hs (by rw [cur_upd])).mono ?_
        rintro x w' ⟨rfl, rfl⟩
        try go_simp
        go_wp2_with fail
        go_roundw
        case rel => exact ⟨k + 1, _, _, _, _, _, by omega, by omega, by go_num, rfl, P3.out, cur_upd _ _ _, B3.out, (RB.out false).1, (RB.out false).2⟩
        case measure => simp [intOf]; omega
      · have Wz := hid (fun w => re_i64 (within_any (g1 k) 2 w (by omega) (by omega)) hz)
        have BT := hid (bit_any false)
        clear hz
        go_wp2_with fail
        refine (Wz.out _).mono ?_
        rintro x w' ⟨rfl, rfl⟩
        try go_simp
        go_wp2_with fail
        refine (BT.out _).mono ?_
        rintro x w' ⟨rfl, rfl⟩
        try go_simp
        go_wp2_with fail
        refine (told_ok (hP.out.below ((Below.refl _ _).alloc (Nat.le_refl _) _)) s k false (true, la, wh, lo) (false, (k : Int), false, 0) 2 hsl (by omega) HC.out H0.out H1.out (st_tf1 _ _ _ _ _ _ (RP.out false)).1 (st_tf1 _ _ _ _ _ _ (RP.out false)).2).mono ?_
        rintro x w3 ⟨rfl, hP3, hg⟩
        try go_simp
        have P3 := hid hP3
        have B3 := hid (below_step (hB.out.alloc hB.out.size _) hg hb' (Nat.le_refl _))
        clear hP3 hg hP hB
        go_wp2_with fail
        refine (up_ok P3.out s false hs (by rw [cur_upd])).mono ?_
        rintro x w' ⟨rfl, rfl⟩
        try go_simp
        go_wp2_with fail
        go_roundw
        case rel => exact ⟨k + 1, _, _, _, _, _, by omega, by omega, by go_num, rfl, P3.out, cur_upd _ _ _, B3.out, by decide, by omega⟩
        case measure => simp [intOf]; omega
    · clear hcur h0 h1
      have hx : (k < n1 ∧ k = 60) ∨ k = n1 := by omega
      rcases hx with ⟨hx, e⟩ | e
      · have i1 : (k : Int) < n1 := by omega
        have i2 : ¬ (k : Int) < 60 := by omega
        clear e hlt
        go_wp2_with fail
        go_ret
        exact ⟨rfl, hB.out⟩
      · have i1 : ¬ (k : Int) < n1 := by omega
        clear e hlt
        go_wp2_with fail
        go_ret
        exact ⟨rfl, hB.out⟩

set_option maxRecDepth 100000 in
theorem lifted (os : Os) (started : os.Started) (H : Type) (enc : TypeId × Value → H) :
    ReturnsInHanded {} Try.checked os 8 .any (Rows.pulseOnceSpec.pre6 enc Try.prog Try.f8 [] false) (Rows.pulseOnceSpec.post enc Try.prog Try.f8 false true false false) :=
  law_step (s := Rows.pulseOnceSpec) started (by kernel_rfl) Try.func8
    (ChangeSpec.witness6 (s := Rows.pulseOnceSpec) (enc := enc) (C := Try.checked) false ⟨#[], #[.int .i64 0, .slice none 0 0], []⟩ 8 (by kernel_rfl) (by kernel_rfl) (by kernel_rfl) (by kernel_rfl))
    rfl (by rw [Try.params8]; decide +kernel) rfl Try.underlying4
    (fun ds h => by
      rw [Try.params8] at h
      match ds, h with
      | [_, _], _ => rfl)
    (fun W base args ds ps hval hA hsz => by
      rw [Try.params8] at hA hval hsz
      obtain ⟨v0, vs0, d0, ds0, p0, q0, hargs, rfl, rfl, h0, r0⟩ := trodAll_cons hA
      obtain ⟨v1, vs1, d1, ds1, p1, q1, rfl, rfl, rfl, h1, r1⟩ := trodAll_cons r0
      obtain ⟨rfl, rfl, rfl⟩ := trodAll_nil r1
      obtain rfl : args = #[v0, v1] := by cases args; simp_all
      obtain ⟨a0, rfl, rfl, rfl, w0⟩ := open_int Try.underlying3 (hval 0 3 v0 rfl rfl) h0
      obtain ⟨A1, n1, c1, g1, rfl, hn1, hc1, hs1, hw1, hl1, hd1⟩ := open_row Try.underlying22 Try.underlying3 (by kernel_rfl) (hval 1 22 v1 rfl rfl) h1
      have re1 : c1 * 8 ≤ 140737488351232 := by
        rcases hd1 with ⟨_, h0⟩ | ⟨xs, ys, h1, h2⟩
        · omega
        · have := sized_slice hsz (j := 1) (t := 22) (e := 3) rfl (by rw [h1]; rfl) Try.underlying22
          rw [h2, show Try.prog.bytesOf 3 = 8 from by kernel_rfl] at this
          simpa [reachBytes] using this
      exact walk W a0 (bounds_i64 w0) A1 n1 c1 g1 hn1 hc1 hs1 (fun j => bounds_i64 (hw1 j)) hl1 re1)

theorem proved : Rows.PulseOnceSaid :=
  OpenClaim.holds_of_wide 8 Try.f8 rfl rfl rfl rfl rfl rfl rfl ⟨rfl, rfl, rfl, rfl, rfl⟩ rfl rfl rfl rfl rfl (by kernel_rfl) Try.func8 (by kernel_rfl)
    (of_decide_eq_true (by kernel_rfl)) (by unfold Func.isWrapper; first | (rw [if_pos (by decide +kernel)]; kernel_rfl) | (rw [if_neg (by decide +kernel)]; exact ⟨rfl, rfl⟩))
    (fun os started H enc _ => lifted os started H enc)
end Go.Proofs.Ytcbnebabeekegaa.pulseOnce
