/- roundhouselaw8.PulseDue answers true for every length, slot, time, distance; no condition. -/
import Derived.Test.YtcbnebabeekegaaPulKnown
import Derived.BigQuiet
import Derived.Deep.RegionHeld3
import Derived.Deep.Cut
namespace Go.Proofs.Ytcbnebabeekegaa.pulseDue
set_option linter.unusedVariables false
set_option linter.unusedSimpArgs false
open Go.RowKit Go.ChangeShapes Go.WideShapes Go.ChangeAt

set_option maxRecDepth 100000 in
set_option maxHeartbeats 4000000 in
theorem walk (W : World) (e0 : Int) (r_e0 : -9223372036854775808 ≤ e0 ∧ e0 ≤ 9223372036854775807) (s0 : Int) (r_s0 : -9223372036854775808 ≤ s0 ∧ s0 ≤ 9223372036854775807)
    (n0 : Int) (r_n0 : -9223372036854775808 ≤ n0 ∧ n0 ≤ 9223372036854775807) (y0 : Int) (r_y0 : -9223372036854775808 ≤ y0 ∧ y0 ≤ 9223372036854775807) :
    Calls Try.prog 6 #[.int .i64 e0, .int .i64 s0, .int .i64 n0, .int .i64 y0] W fun e w' => e = .returned (.bool true) ∧ Below W.heap.size W w' := by
  obtain ⟨c, hc⟩ : ∃ c, c = wi e0 1000 := ⟨_, rfl⟩
  obtain ⟨s, hS⟩ : ∃ s, s = wi s0 64 := ⟨_, rfl⟩
  obtain ⟨t, ht⟩ : ∃ t, t = wi n0 1073741824 := ⟨_, rfl⟩
  obtain ⟨d, hd⟩ : ∃ d, d = wi y0 2000 := ⟨_, rfl⟩
  have bc := wi_bd e0 1000 (by omega)
  have bs := wi_bd s0 64 (by omega)
  have bt := wi_bd n0 1073741824 (by omega)
  have bd := wi_bd y0 2000 (by omega)
  rw [← hc] at bc
  rw [← hS] at bs
  rw [← ht] at bt
  rw [← hd] at bd
  have hs : I64 s := by unfold I64; omega
  have hi : isSl s = true := by unfold isSl; simp; omega
  have hsl : 0 ≤ s ∧ s < 64 := bs
  have q1 : IntKind.i64.wrap (1 + c) = 1 + c := IntWalk.i64_in _ (by omega)
  have q2 : IntKind.i64.wrap (t + d) = t + d := IntWalk.i64_in _ (by omega)
  have W1 := hid (fun w => re_i64 (within_any e0 1000 w (by omega) (by omega)) hc.symm)
  have W2 := hid (fun w => re_i64 (within_any s0 64 w (by omega) (by omega)) hS.symm)
  have W3 := hid (fun w => re_i64 (within_any n0 1073741824 w (by omega) (by omega)) ht.symm)
  have W4 := hid (fun w => re_i64 (within_any y0 2000 w (by omega) (by omega)) hd.symm)
  obtain ⟨bc1, bc2⟩ := bc
  obtain ⟨bt1, bt2⟩ := bt
  obtain ⟨bd1, bd2⟩ := bd
  obtain ⟨y1, y2⟩ := r_y0
  have hm : (-9223372036854775808 ≤ y0.tmod 2) ∧ y0.tmod 2 ≤ 9223372036854775807 := by have := tmod_bd y0 2 (by omega); omega
  have q3 : IntKind.i64.wrap (y0.tmod 2) = y0.tmod 2 := IntWalk.i64_in _ hm
  clear hc hS ht hd bs
  cases he : (y0.tmod 2 == 0) <;> cases hv : decide (1 + c ≤ d)
  · have hcur : cur (upd (fun _ => none) s (some (false, t, false, 1))) s = (false, t, false, 1) := by simp [cur, upd]
    have hsome : (upd (fun _ => none) s (some (false, t, false, 1)) s).isSome = true := by simp [upd]
    go_enter Try.func6, Try.ntmps6
    go_wp2_with fail
    refine (known_any _).mono ?_
    rintro x w ⟨rfl, hB⟩
    try go_simp
    have B := hid hB
    clear hB
    go_wp2_with fail
    refine (W1.out _).mono ?_
    rintro x w' ⟨rfl, rfl⟩
    try go_simp
    go_wp2_with fail
    refine (new_ok 1 1 (1 + c) (by omega) (by omega) (by omega) _).mono ?_
    rintro x w1 ⟨p, b, rfl, hP, hp, hb, hB1⟩
    try go_simp
    have P1 := hid hP
    have B1 := hid (B.out.trans (hB1.mono B.out.size))
    have hb' : W.heap.size ≤ b := Nat.le_trans B.out.size hb
    clear hP hB1 B
    go_wp2_with fail
    refine (W2.out _).mono ?_
    rintro x w' ⟨rfl, rfl⟩
    try go_simp
    go_wp2_with fail
    refine (W3.out _).mono ?_
    rintro x w' ⟨rfl, rfl⟩
    try go_simp
    go_wp2_with fail
    refine (W4.out _).mono ?_
    rintro x w' ⟨rfl, rfl⟩
    try go_simp
    go_wp2_with fail
    refine (due_ok P1.out s t true hs (show (0:Int) ≤ 0 ∧ (0:Int) ≤ 9223372036854775807 from ⟨by decide, by decide⟩) ⟨bt1, by omega⟩ (by rw [hi]; rfl)).mono ?_
    rintro x w2 ⟨rfl, hB⟩
    try go_simp
    have P2 := hid (P1.out.below hB)
    have B2 := hid (B1.out.trans (hB.mono B1.out.size))
    clear hB P1 B1
    go_wp2_with fail
    try rw [he]
    refine (told_ok P2.out s t false zLife (false, t, false, 1) 0 hsl (by omega) rfl (by decide) (by decide) rfl rfl).mono ?_
    rintro x w3 ⟨rfl, hP, hg⟩
    try go_simp
    have P3 := hid hP
    have B3 := hid (below_step B2.out hg hb' (Nat.le_refl _))
    clear hP hg P2 B2
    go_wp2_with fail
    refine (due_ok P3.out s (t + d) (decide (1 + c ≤ d)) hs (by rw [hcur]; show 0 ≤ t ∧ t ≤ 9223372036854775807; exact ⟨bt1, by omega⟩) ⟨by omega, by omega⟩ (by rw [hi, hcur, hsome]; simp only [Bool.true_and, Bool.not_true, Bool.false_or, decide_eq_decide]; omega)).mono ?_
    rintro x w4 ⟨rfl, hB⟩
    try go_simp
    have P4 := hid (P3.out.below hB)
    have B4 := hid (B3.out.trans (hB.mono B3.out.size))
    clear hB P3 B3
    go_wp2_with fail
    go_ret
    exact ⟨rfl, B4.out⟩
  · have hcur : cur (upd (fun _ => none) s (some (false, t, false, 1))) s = (false, t, false, 1) := by simp [cur, upd]
    have hsome : (upd (fun _ => none) s (some (false, t, false, 1)) s).isSome = true := by simp [upd]
    go_enter Try.func6, Try.ntmps6
    go_wp2_with fail
    refine (known_any _).mono ?_
    rintro x w ⟨rfl, hB⟩
    try go_simp
    have B := hid hB
    clear hB
    go_wp2_with fail
    refine (W1.out _).mono ?_
    rintro x w' ⟨rfl, rfl⟩
    try go_simp
    go_wp2_with fail
    refine (new_ok 1 1 (1 + c) (by omega) (by omega) (by omega) _).mono ?_
    rintro x w1 ⟨p, b, rfl, hP, hp, hb, hB1⟩
    try go_simp
    have P1 := hid hP
    have B1 := hid (B.out.trans (hB1.mono B.out.size))
    have hb' : W.heap.size ≤ b := Nat.le_trans B.out.size hb
    clear hP hB1 B
    go_wp2_with fail
    refine (W2.out _).mono ?_
    rintro x w' ⟨rfl, rfl⟩
    try go_simp
    go_wp2_with fail
    refine (W3.out _).mono ?_
    rintro x w' ⟨rfl, rfl⟩
    try go_simp
    go_wp2_with fail
    refine (W4.out _).mono ?_
    rintro x w' ⟨rfl, rfl⟩
    try go_simp
    go_wp2_with fail
    refine (due_ok P1.out s t true hs (show (0:Int) ≤ 0 ∧ (0:Int) ≤ 9223372036854775807 from ⟨by decide, by decide⟩) ⟨bt1, by omega⟩ (by rw [hi]; rfl)).mono ?_
    rintro x w2 ⟨rfl, hB⟩
    try go_simp
    have P2 := hid (P1.out.below hB)
    have B2 := hid (B1.out.trans (hB.mono B1.out.size))
    clear hB P1 B1
    go_wp2_with fail
    try rw [he]
    refine (told_ok P2.out s t false zLife (false, t, false, 1) 0 hsl (by omega) rfl (by decide) (by decide) rfl rfl).mono ?_
    rintro x w3 ⟨rfl, hP, hg⟩
    try go_simp
    have P3 := hid hP
    have B3 := hid (below_step B2.out hg hb' (Nat.le_refl _))
    clear hP hg P2 B2
    go_wp2_with fail
    refine (due_ok P3.out s (t + d) (decide (1 + c ≤ d)) hs (by rw [hcur]; show 0 ≤ t ∧ t ≤ 9223372036854775807; exact ⟨bt1, by omega⟩) ⟨by omega, by omega⟩ (by rw [hi, hcur, hsome]; simp only [Bool.true_and, Bool.not_true, Bool.false_or, decide_eq_decide]; omega)).mono ?_
    rintro x w4 ⟨rfl, hB⟩
    try go_simp
    have P4 := hid (P3.out.below hB)
    have B4 := hid (B3.out.trans (hB.mono B3.out.size))
    clear hB P3 B3
    go_wp2_with fail
    go_ret
    exact ⟨rfl, B4.out⟩
  · have hcur : cur (upd (fun _ => none) s (some (true, t, false, 0))) s = (true, t, false, 0) := by simp [cur, upd]
    have hsome : (upd (fun _ => none) s (some (true, t, false, 0)) s).isSome = true := by simp [upd]
    go_enter Try.func6, Try.ntmps6
    go_wp2_with fail
    refine (known_any _).mono ?_
    rintro x w ⟨rfl, hB⟩
    try go_simp
    have B := hid hB
    clear hB
    go_wp2_with fail
    refine (W1.out _).mono ?_
    rintro x w' ⟨rfl, rfl⟩
    try go_simp
    go_wp2_with fail
    refine (new_ok 1 1 (1 + c) (by omega) (by omega) (by omega) _).mono ?_
    rintro x w1 ⟨p, b, rfl, hP, hp, hb, hB1⟩
    try go_simp
    have P1 := hid hP
    have B1 := hid (B.out.trans (hB1.mono B.out.size))
    have hb' : W.heap.size ≤ b := Nat.le_trans B.out.size hb
    clear hP hB1 B
    go_wp2_with fail
    refine (W2.out _).mono ?_
    rintro x w' ⟨rfl, rfl⟩
    try go_simp
    go_wp2_with fail
    refine (W3.out _).mono ?_
    rintro x w' ⟨rfl, rfl⟩
    try go_simp
    go_wp2_with fail
    refine (W4.out _).mono ?_
    rintro x w' ⟨rfl, rfl⟩
    try go_simp
    go_wp2_with fail
    refine (due_ok P1.out s t true hs (show (0:Int) ≤ 0 ∧ (0:Int) ≤ 9223372036854775807 from ⟨by decide, by decide⟩) ⟨bt1, by omega⟩ (by rw [hi]; rfl)).mono ?_
    rintro x w2 ⟨rfl, hB⟩
    try go_simp
    have P2 := hid (P1.out.below hB)
    have B2 := hid (B1.out.trans (hB.mono B1.out.size))
    clear hB P1 B1
    go_wp2_with fail
    try rw [he]
    refine (told_ok P2.out s t true zLife (true, t, false, 0) 1 hsl (by omega) rfl (by decide) (by decide) rfl rfl).mono ?_
    rintro x w3 ⟨rfl, hP, hg⟩
    try go_simp
    have P3 := hid hP
    have B3 := hid (below_step B2.out hg hb' (Nat.le_refl _))
    clear hP hg P2 B2
    go_wp2_with fail
    refine (due_ok P3.out s (t + d) (decide (1 + c ≤ d)) hs (by rw [hcur]; show 0 ≤ t ∧ t ≤ 9223372036854775807; exact ⟨bt1, by omega⟩) ⟨by omega, by omega⟩ (by rw [hi, hcur, hsome]; simp only [Bool.true_and, Bool.not_true, Bool.false_or, decide_eq_decide]; omega)).mono ?_
    rintro x w4 ⟨rfl, hB⟩
    try go_simp
    have P4 := hid (P3.out.below hB)
    have B4 := hid (B3.out.trans (hB.mono B3.out.size))
    clear hB P3 B3
    go_wp2_with fail
    go_ret
    exact ⟨rfl, B4.out⟩
  · have hcur : cur (upd (fun _ => none) s (some (true, t, false, 0))) s = (true, t, false, 0) := by simp [cur, upd]
    have hsome : (upd (fun _ => none) s (some (true, t, false, 0)) s).isSome = true := by simp [upd]
    go_enter Try.func6, Try.ntmps6
    go_wp2_with fail
    refine (known_any _).mono ?_
    rintro x w ⟨rfl, hB⟩
    try go_simp
    have B := hid hB
    clear hB
    go_wp2_with fail
    refine (W1.out _).mono ?_
    rintro x w' ⟨rfl, rfl⟩
    try go_simp
    go_wp2_with fail
    refine (new_ok 1 1 (1 + c) (by omega) (by omega) (by omega) _).mono ?_
    rintro x w1 ⟨p, b, rfl, hP, hp, hb, hB1⟩
    try go_simp
    have P1 := hid hP
    have B1 := hid (B.out.trans (hB1.mono B.out.size))
    have hb' : W.heap.size ≤ b := Nat.le_trans B.out.size hb
    clear hP hB1 B
    go_wp2_with fail
    refine (W2.out _).mono ?_
    rintro x w' ⟨rfl, rfl⟩
    try go_simp
    go_wp2_with fail
    refine (W3.out _).mono ?_
    rintro x w' ⟨rfl, rfl⟩
    try go_simp
    go_wp2_with fail
    refine (W4.out _).mono ?_
    rintro x w' ⟨rfl, rfl⟩
    try go_simp
    go_wp2_with fail
    refine (due_ok P1.out s t true hs (show (0:Int) ≤ 0 ∧ (0:Int) ≤ 9223372036854775807 from ⟨by decide, by decide⟩) ⟨bt1, by omega⟩ (by rw [hi]; rfl)).mono ?_
    rintro x w2 ⟨rfl, hB⟩
    try go_simp
    have P2 := hid (P1.out.below hB)
    have B2 := hid (B1.out.trans (hB.mono B1.out.size))
    clear hB P1 B1
    go_wp2_with fail
    try rw [he]
    refine (told_ok P2.out s t true zLife (true, t, false, 0) 1 hsl (by omega) rfl (by decide) (by decide) rfl rfl).mono ?_
    rintro x w3 ⟨rfl, hP, hg⟩
    try go_simp
    have P3 := hid hP
    have B3 := hid (below_step B2.out hg hb' (Nat.le_refl _))
    clear hP hg P2 B2
    go_wp2_with fail
    refine (due_ok P3.out s (t + d) (decide (1 + c ≤ d)) hs (by rw [hcur]; show 0 ≤ t ∧ t ≤ 9223372036854775807; exact ⟨bt1, by omega⟩) ⟨by omega, by omega⟩ (by rw [hi, hcur, hsome]; simp only [Bool.true_and, Bool.not_true, Bool.false_or, decide_eq_decide]; omega)).mono ?_
    rintro x w4 ⟨rfl, hB⟩
    try go_simp
    have P4 := hid (P3.out.below hB)
    have B4 := hid (B3.out.trans (hB.mono B3.out.size))
    clear hB P3 B3
    go_wp2_with fail
    go_ret
    exact ⟨rfl, B4.out⟩

set_option maxRecDepth 100000 in
theorem lifted (os : Os) (started : os.Started) (H : Type) (enc : TypeId × Value → H) :
    ReturnsInHanded {} Try.checked os 6 .any (Rows.pulseDueSpec.pre6 enc Try.prog Try.f6 [] false) (Rows.pulseDueSpec.post enc Try.prog Try.f6 false true false false) :=
  law_step (s := Rows.pulseDueSpec) started (by kernel_rfl) Try.func6
    (ChangeSpec.witness6 (s := Rows.pulseDueSpec) (enc := enc) (C := Try.checked) false ⟨#[], #[.int .i64 0, .int .i64 0, .int .i64 0, .int .i64 0], []⟩ 8 (by kernel_rfl) (by kernel_rfl) (by kernel_rfl) (by kernel_rfl))
    rfl (by rw [Try.params6]; decide +kernel) rfl Try.underlying4
    (fun ds h => by
      rw [Try.params6] at h
      match ds, h with
      | [_, _, _, _], _ => rfl)
    (fun W base args ds ps hval hA hsz => by
      rw [Try.params6] at hA hval hsz
      obtain ⟨v0, vs0, d0, ds0, p0, q0, hargs, rfl, rfl, h0, r0⟩ := trodAll_cons hA
      obtain ⟨v1, vs1, d1, ds1, p1, q1, rfl, rfl, rfl, h1, r1⟩ := trodAll_cons r0
      obtain ⟨v2, vs2, d2, ds2, p2, q2, rfl, rfl, rfl, h2, r2⟩ := trodAll_cons r1
      obtain ⟨v3, vs3, d3, ds3, p3, q3, rfl, rfl, rfl, h3, r3⟩ := trodAll_cons r2
      obtain ⟨rfl, rfl, rfl⟩ := trodAll_nil r3
      obtain rfl : args = #[v0, v1, v2, v3] := by cases args; simp_all
      obtain ⟨a0, rfl, rfl, rfl, w0⟩ := open_int Try.underlying3 (hval 0 3 v0 rfl rfl) h0
      obtain ⟨a1, rfl, rfl, rfl, w1⟩ := open_int Try.underlying3 (hval 1 3 v1 rfl rfl) h1
      obtain ⟨a2, rfl, rfl, rfl, w2⟩ := open_int Try.underlying3 (hval 2 3 v2 rfl rfl) h2
      obtain ⟨a3, rfl, rfl, rfl, w3⟩ := open_int Try.underlying3 (hval 3 3 v3 rfl rfl) h3
      exact walk W a0 (bounds_i64 w0) a1 (bounds_i64 w1) a2 (bounds_i64 w2) a3 (bounds_i64 w3))

theorem proved : Rows.PulseDueSaid :=
  OpenClaim.holds_of_wide 6 Try.f6 rfl rfl rfl rfl rfl rfl rfl ⟨rfl, rfl, rfl, rfl, rfl⟩ rfl rfl rfl rfl rfl (by kernel_rfl) Try.func6 (by kernel_rfl)
    (of_decide_eq_true (by kernel_rfl)) (by unfold Func.isWrapper; first | (rw [if_pos (by decide +kernel)]; kernel_rfl) | (rw [if_neg (by decide +kernel)]; exact ⟨rfl, rfl⟩))
    (fun os started H enc _ => lifted os started H enc)
end Go.Proofs.Ytcbnebabeekegaa.pulseDue
