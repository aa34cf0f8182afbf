/- roundhouselaw8.PulseNone answers true for every slot, time, answer; no condition. -/
import Derived.Test.YtcbnebabeekegaaPulKnown
import Derived.BigQuiet
import Derived.Deep.RegionHeld3
import Derived.Deep.Cut
namespace Go.Proofs.Ytcbnebabeekegaa.pulseNone
set_option linter.unusedVariables false
set_option linter.unusedSimpArgs false
open Go.RowKit Go.ChangeShapes Go.WideShapes Go.ChangeAt

set_option maxRecDepth 100000 in
set_option maxHeartbeats 4000000 in
theorem walk (W : World) (s0 : Int) (r_s0 : -9223372036854775808 ≤ s0 ∧ s0 ≤ 9223372036854775807)
    (n0 : Int) (r_n0 : -9223372036854775808 ≤ n0 ∧ n0 ≤ 9223372036854775807) (ok : Bool) :
    Calls Try.prog 10 #[.int .i64 s0, .int .i64 n0, .bool ok] W fun e w' => e = .returned (.bool true) ∧ Below W.heap.size W w' := by
  have htn : 0 ≤ wi n0 1099511627776 ∧ wi n0 1099511627776 ≤ 1099511627776 := by have := wi_bd n0 1099511627776 (by omega); omega
  obtain ⟨s1, s2⟩ := r_s0
  cases h1 : decide (0 ≤ s0)
  · have hs : I64 s0 := by unfold I64; omega
    have hi : isSl s0 = false := by unfold isSl; rw [h1]; rfl
    go_enter Try.func10, Try.ntmps10
    go_wp2_with fail
    refine (known_any _).mono ?_
    rintro x w ⟨rfl, hB⟩
    try go_simp
    have B := hid hB
    clear hB
    go_wp2_with fail
    refine (new_ok 1 1 1 (by omega) (by omega) (by omega) _).mono ?_
    rintro x w1 ⟨p, b, rfl, hP, hp, hb, hB1⟩
    try go_simp
    have P1 := hid hP
    have B1 := hid (B.out.trans (hB1.mono B.out.size))
    have hb' : W.heap.size ≤ b := Nat.le_trans B.out.size hb
    clear hP hB1 B
    go_wp2_with fail
    refine (within_any n0 1099511627776 _ (by omega) (by omega)).mono ?_
    rintro x w' ⟨rfl, rfl⟩
    try go_simp
    go_wp2_with fail
    refine (due_ok P1.out _ _ false hs (show (0:Int) ≤ 0 ∧ (0:Int) ≤ 9223372036854775807 from ⟨by decide, by decide⟩) htn (by rw [hi]; rfl)).mono ?_
    rintro x w2 ⟨rfl, hB⟩
    try go_simp
    have P2 := hid (P1.out.below hB)
    have B2 := hid (B1.out.trans (hB.mono B1.out.size))
    clear hB P1 B1
    go_wp2_with fail
    refine (told_no P2.out _ _ _ hi).mono ?_
    rintro x w' ⟨rfl, rfl⟩
    try go_simp
    go_wp2_with fail
    refine (up_ok P2.out _ false hs rfl).mono ?_
    rintro x w' ⟨rfl, rfl⟩
    try go_simp
    go_wp2_with fail
    refine (drop_ok P2.out _ false hs rfl).mono ?_
    rintro x w3 ⟨rfl, hP, hg⟩
    try go_simp
    have P3 := hid hP
    have B3 := hid (below_step B2.out hg hb' (Nat.le_refl _))
    clear hP hg P2 B2
    go_wp2_with fail
    go_ret
    exact ⟨rfl, B3.out⟩
  · cases h2 : decide (s0 < 64)
    · have hs : I64 s0 := by unfold I64; omega
      have hi : isSl s0 = false := by unfold isSl; rw [h2]; simp
      go_enter Try.func10, Try.ntmps10
      go_wp2_with fail
      refine (known_any _).mono ?_
      rintro x w ⟨rfl, hB⟩
      try go_simp
      have B := hid hB
      clear hB
      go_wp2_with fail
      refine (new_ok 1 1 1 (by omega) (by omega) (by omega) _).mono ?_
      rintro x w1 ⟨p, b, rfl, hP, hp, hb, hB1⟩
      try go_simp
      have P1 := hid hP
      have B1 := hid (B.out.trans (hB1.mono B.out.size))
      have hb' : W.heap.size ≤ b := Nat.le_trans B.out.size hb
      clear hP hB1 B
      go_wp2_with fail
      refine (within_any n0 1099511627776 _ (by omega) (by omega)).mono ?_
      rintro x w' ⟨rfl, rfl⟩
      try go_simp
      go_wp2_with fail
      refine (due_ok P1.out _ _ false hs (show (0:Int) ≤ 0 ∧ (0:Int) ≤ 9223372036854775807 from ⟨by decide, by decide⟩) htn (by rw [hi]; rfl)).mono ?_
      rintro x w2 ⟨rfl, hB⟩
      try go_simp
      have P2 := hid (P1.out.below hB)
      have B2 := hid (B1.out.trans (hB.mono B1.out.size))
      clear hB P1 B1
      go_wp2_with fail
      refine (told_no P2.out _ _ _ hi).mono ?_
      rintro x w' ⟨rfl, rfl⟩
      try go_simp
      go_wp2_with fail
      refine (up_ok P2.out _ false hs rfl).mono ?_
      rintro x w' ⟨rfl, rfl⟩
      try go_simp
      go_wp2_with fail
      refine (drop_ok P2.out _ false hs rfl).mono ?_
      rintro x w3 ⟨rfl, hP, hg⟩
      try go_simp
      have P3 := hid hP
      have B3 := hid (below_step B2.out hg hb' (Nat.le_refl _))
      clear hP hg P2 B2
      go_wp2_with fail
      go_ret
      exact ⟨rfl, B3.out⟩
    · have h1' := of_decide_eq_true h1
      have h2' := of_decide_eq_true h2
      have hs : I64 (s0 + 64) := by unfold I64; omega
      have q : IntKind.i64.wrap (s0 + 64) = s0 + 64 := IntWalk.i64_in _ (by omega)
      have hi : isSl (s0 + 64) = false := by unfold isSl; simp; omega
      go_enter Try.func10, Try.ntmps10
      go_wp2_with fail
      refine (known_any _).mono ?_
      rintro x w ⟨rfl, hB⟩
      try go_simp
      have B := hid hB
      clear hB
      go_wp2_with fail
      refine (new_ok 1 1 1 (by omega) (by omega) (by omega) _).mono ?_
      rintro x w1 ⟨p, b, rfl, hP, hp, hb, hB1⟩
      try go_simp
      have P1 := hid hP
      have B1 := hid (B.out.trans (hB1.mono B.out.size))
      have hb' : W.heap.size ≤ b := Nat.le_trans B.out.size hb
      clear hP hB1 B
      go_wp2_with fail
      refine (within_any n0 1099511627776 _ (by omega) (by omega)).mono ?_
      rintro x w' ⟨rfl, rfl⟩
      try go_simp
      go_wp2_with fail
      refine (due_ok P1.out _ _ false hs (show (0:Int) ≤ 0 ∧ (0:Int) ≤ 9223372036854775807 from ⟨by decide, by decide⟩) htn (by rw [hi]; rfl)).mono ?_
      rintro x w2 ⟨rfl, hB⟩
      try go_simp
      have P2 := hid (P1.out.below hB)
      have B2 := hid (B1.out.trans (hB.mono B1.out.size))
      clear hB P1 B1
      go_wp2_with fail
      refine (told_no P2.out _ _ _ hi).mono ?_
      rintro x w' ⟨rfl, rfl⟩
      try go_simp
      go_wp2_with fail
      refine (up_ok P2.out _ false hs rfl).mono ?_
      rintro x w' ⟨rfl, rfl⟩
      try go_simp
      go_wp2_with fail
      refine (drop_ok P2.out _ false hs rfl).mono ?_
      rintro x w3 ⟨rfl, hP, hg⟩
      try go_simp
      have P3 := hid hP
      have B3 := hid (below_step B2.out hg hb' (Nat.le_refl _))
      clear hP hg P2 B2
      go_wp2_with fail
      go_ret
      exact ⟨rfl, B3.out⟩

set_option maxRecDepth 100000 in
theorem lifted (os : Os) (started : os.Started) (H : Type) (enc : TypeId × Value → H) :
    ReturnsInHanded {} Try.checked os 10 .any (Rows.pulseNoneSpec.pre6 enc Try.prog Try.f10 [] false) (Rows.pulseNoneSpec.post enc Try.prog Try.f10 false true false false) :=
  law_step (s := Rows.pulseNoneSpec) started (by kernel_rfl) Try.func10
    (ChangeSpec.witness6 (s := Rows.pulseNoneSpec) (enc := enc) (C := Try.checked) false ⟨#[], #[.int .i64 0, .int .i64 0, .bool false], []⟩ 8 (by kernel_rfl) (by kernel_rfl) (by kernel_rfl) (by kernel_rfl))
    rfl (by rw [Try.params10]; decide +kernel) rfl Try.underlying4
    (fun ds h => by
      rw [Try.params10] at h
      match ds, h with
      | [_, _, _], _ => rfl)
    (fun W base args ds ps hval hA hsz => by
      rw [Try.params10] at hA hval hsz
      obtain ⟨v0, vs0, d0, ds0, p0, q0, hargs, rfl, rfl, h0, r0⟩ := trodAll_cons hA
      obtain ⟨v1, vs1, d1, ds1, p1, q1, rfl, rfl, rfl, h1, r1⟩ := trodAll_cons r0
      obtain ⟨v2, vs2, d2, ds2, p2, q2, rfl, rfl, rfl, h2, r2⟩ := trodAll_cons r1
      obtain ⟨rfl, rfl, rfl⟩ := trodAll_nil r2
      obtain rfl : args = #[v0, v1, v2] := by cases args; simp_all
      obtain ⟨a0, rfl, rfl, rfl, w0⟩ := open_int Try.underlying3 (hval 0 3 v0 rfl rfl) h0
      obtain ⟨a1, rfl, rfl, rfl, w1⟩ := open_int Try.underlying3 (hval 1 3 v1 rfl rfl) h1
      obtain ⟨a2, rfl, rfl, rfl⟩ := open_bool Try.underlying4 (hval 2 4 v2 rfl rfl) h2
      exact walk W a0 (bounds_i64 w0) a1 (bounds_i64 w1) a2)

theorem proved : Rows.PulseNoneSaid :=
  OpenClaim.holds_of_wide 10 Try.f10 rfl rfl rfl rfl rfl rfl rfl ⟨rfl, rfl, rfl, rfl, rfl⟩ rfl rfl rfl rfl rfl (by kernel_rfl) Try.func10 (by kernel_rfl)
    (of_decide_eq_true (by kernel_rfl)) (by unfold Func.isWrapper; first | (rw [if_pos (by decide +kernel)]; kernel_rfl) | (rw [if_neg (by decide +kernel)]; exact ⟨rfl, rfl⟩))
    (fun os started H enc _ => lifted os started H enc)
end Go.Proofs.Ytcbnebabeekegaa.pulseNone
