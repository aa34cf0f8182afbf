/- package sip's round. -/
import Derived.Test.YtejlfbiehcfbgaaSipBase
namespace Go.Proofs.Ytejlfbiehcfbgaa
set_option linter.unusedVariables false
open Go.RowKit Go.ChangeShapes Go.WideShapes Go.ChangeAt

theorem rot13 (x : Int) (hx : U x) (w : World) : Calls Try.prog 55 #[.int .u64 x, .int .i64 13] w fun e w' => e = .returned (.int .u64 (rot x 8192 2251799813685248)) ∧ w = w' := by
  unfold U at hx
  have hk : bits .and .u64 13 63 = 13 := by decide
  go_enter Try.func55, Try.ntmps55
  go_wp2
  go_ret
  exact ⟨rfl, rfl⟩
theorem rot16 (x : Int) (hx : U x) (w : World) : Calls Try.prog 55 #[.int .u64 x, .int .i64 16] w fun e w' => e = .returned (.int .u64 (rot x 65536 281474976710656)) ∧ w = w' := by
  unfold U at hx
  have hk : bits .and .u64 16 63 = 16 := by decide
  go_enter Try.func55, Try.ntmps55
  go_wp2
  go_ret
  exact ⟨rfl, rfl⟩
theorem rot17 (x : Int) (hx : U x) (w : World) : Calls Try.prog 55 #[.int .u64 x, .int .i64 17] w fun e w' => e = .returned (.int .u64 (rot x 131072 140737488355328)) ∧ w = w' := by
  unfold U at hx
  have hk : bits .and .u64 17 63 = 17 := by decide
  go_enter Try.func55, Try.ntmps55
  go_wp2
  go_ret
  exact ⟨rfl, rfl⟩
theorem rot21 (x : Int) (hx : U x) (w : World) : Calls Try.prog 55 #[.int .u64 x, .int .i64 21] w fun e w' => e = .returned (.int .u64 (rot x 2097152 8796093022208)) ∧ w = w' := by
  unfold U at hx
  have hk : bits .and .u64 21 63 = 21 := by decide
  go_enter Try.func55, Try.ntmps55
  go_wp2
  go_ret
  exact ⟨rfl, rfl⟩
theorem rot32 (x : Int) (hx : U x) (w : World) : Calls Try.prog 55 #[.int .u64 x, .int .i64 32] w fun e w' => e = .returned (.int .u64 (rot x 4294967296 4294967296)) ∧ w = w' := by
  unfold U at hx
  have hk : bits .and .u64 32 63 = 32 := by decide
  go_enter Try.func55, Try.ntmps55
  go_wp2
  go_ret
  exact ⟨rfl, rfl⟩
set_option maxRecDepth 100000 in
set_option maxHeartbeats 4000000 in
theorem round_any (g : Nat) (v : V4) (w : World) (hS : St w g v) (hU : v.U) : Calls Try.prog 53 #[.pointer (some ⟨g, 0, none⟩)] w fun e w' => e = .returned (.tuple #[]) ∧ Onl g w w' ∧ St w' g (rnd v) := by
  have hO0 := Onl.refl_ g w
  obtain ⟨ca, cb, cc, cd, fa, fb, fc, fd⟩ := hS
  have hS0 : St w g v := ⟨ca, cb, cc, cd, fa, fb, fc, fd⟩
  go_enter Try.func53, Try.ntmps53
  go_upto_region 0 with fail
  go_cut [] (fun wx => Onl g w wx ∧ St wx g (v.s0))
  case first =>
    go_region
    all_goals
      go_wp2_with fail
      go_meet
      exact ⟨by repeat (first | with_reducible exact hO0 | with_reducible refine Onl.setCell ?_ _ _ | with_reducible refine Onl.drew ?_), by first | exact hS0.seta _ | exact hS0.drew.seta _ | exact hS0.drew.drew.seta _ | exact hS0.drew.drew.drew.seta _⟩
  case rest =>
  clear ca cb cc cd fa fb fc fd
  obtain ⟨hO1, hS1⟩ := hcut
  generalize wc = w1 at *
  obtain ⟨ca, cb, cc, cd, fa, fb, fc, fd⟩ := hS1
  have hS1 : St w1 g (v.s0) := ⟨ca, cb, cc, cd, fa, fb, fc, fd⟩
  clear hO0 hS0
  go_upto_region 1 with fail
  go_cut [] (fun wx => Onl g w wx ∧ St wx g (v.s0.s1))
  case first =>
    go_region_with (go_at_call 55; refine (rot13 _ ((V4.U0 (hU)).2.1) _).mono ?_; rintro e w' ⟨rfl, rfl⟩)
    all_goals
      go_wp2_with fail
      go_meet
      exact ⟨by repeat (first | with_reducible exact hO1 | with_reducible refine Onl.setCell ?_ _ _ | with_reducible refine Onl.drew ?_), by first | exact hS1.setb _ | exact hS1.drew.setb _ | exact hS1.drew.drew.setb _ | exact hS1.drew.drew.drew.setb _⟩
  case rest =>
  clear ca cb cc cd fa fb fc fd
  obtain ⟨hO2, hS2⟩ := hcut
  generalize wc = w2 at *
  obtain ⟨ca, cb, cc, cd, fa, fb, fc, fd⟩ := hS2
  have hS2 : St w2 g (v.s0.s1) := ⟨ca, cb, cc, cd, fa, fb, fc, fd⟩
  clear hO1 hS1
  go_upto_region 2 with fail
  go_cut [] (fun wx => Onl g w wx ∧ St wx g (v.s0.s1.s2))
  case first =>
    go_wp2_with (go_at_call 55; refine (rot32 _ ((V4.U1 (V4.U0 (hU))).1) _).mono ?_; rintro e w' ⟨rfl, rfl⟩)
    all_goals
      go_wp2_with fail
      go_meet
      exact ⟨by repeat (first | with_reducible exact hO2 | with_reducible refine Onl.setCell ?_ _ _ | with_reducible refine Onl.drew ?_), by first | exact hS2.seta _ | exact hS2.drew.seta _ | exact hS2.drew.drew.seta _ | exact hS2.drew.drew.drew.seta _⟩
  case rest =>
  clear ca cb cc cd fa fb fc fd
  obtain ⟨hO3, hS3⟩ := hcut
  generalize wc = w3 at *
  obtain ⟨ca, cb, cc, cd, fa, fb, fc, fd⟩ := hS3
  have hS3 : St w3 g (v.s0.s1.s2) := ⟨ca, cb, cc, cd, fa, fb, fc, fd⟩
  clear hO2 hS2
  go_upto_region 3 with fail
  go_cut [] (fun wx => Onl g w wx ∧ St wx g (v.s0.s1.s2.s3))
  case first =>
    go_region
    all_goals
      go_wp2_with fail
      go_meet
      exact ⟨by repeat (first | with_reducible exact hO3 | with_reducible refine Onl.setCell ?_ _ _ | with_reducible refine Onl.drew ?_), by first | exact hS3.setc _ | exact hS3.drew.setc _ | exact hS3.drew.drew.setc _ | exact hS3.drew.drew.drew.setc _⟩
  case rest =>
  clear ca cb cc cd fa fb fc fd
  obtain ⟨hO4, hS4⟩ := hcut
  generalize wc = w4 at *
  obtain ⟨ca, cb, cc, cd, fa, fb, fc, fd⟩ := hS4
  have hS4 : St w4 g (v.s0.s1.s2.s3) := ⟨ca, cb, cc, cd, fa, fb, fc, fd⟩
  clear hO3 hS3
  go_upto_region 4 with fail
  go_cut [] (fun wx => Onl g w wx ∧ St wx g (v.s0.s1.s2.s3.s4))
  case first =>
    go_region_with (go_at_call 55; refine (rot16 _ ((V4.U3 (V4.U2 (V4.U1 (V4.U0 (hU))))).2.2.2) _).mono ?_; rintro e w' ⟨rfl, rfl⟩)
    all_goals
      go_wp2_with fail
      go_meet
      exact ⟨by repeat (first | with_reducible exact hO4 | with_reducible refine Onl.setCell ?_ _ _ | with_reducible refine Onl.drew ?_), by first | exact hS4.setd _ | exact hS4.drew.setd _ | exact hS4.drew.drew.setd _ | exact hS4.drew.drew.drew.setd _⟩
  case rest =>
  clear ca cb cc cd fa fb fc fd
  obtain ⟨hO5, hS5⟩ := hcut
  generalize wc = w5 at *
  obtain ⟨ca, cb, cc, cd, fa, fb, fc, fd⟩ := hS5
  have hS5 : St w5 g (v.s0.s1.s2.s3.s4) := ⟨ca, cb, cc, cd, fa, fb, fc, fd⟩
  clear hO4 hS4
  go_upto_region 5 with fail
  go_cut [] (fun wx => Onl g w wx ∧ St wx g (v.s0.s1.s2.s3.s4.s5))
  case first =>
    go_region
    all_goals
      go_wp2_with fail
      go_meet
      exact ⟨by repeat (first | with_reducible exact hO5 | with_reducible refine Onl.setCell ?_ _ _ | with_reducible refine Onl.drew ?_), by first | exact hS5.seta _ | exact hS5.drew.seta _ | exact hS5.drew.drew.seta _ | exact hS5.drew.drew.drew.seta _⟩
  case rest =>
  clear ca cb cc cd fa fb fc fd
  obtain ⟨hO6, hS6⟩ := hcut
  generalize wc = w6 at *
  obtain ⟨ca, cb, cc, cd, fa, fb, fc, fd⟩ := hS6
  have hS6 : St w6 g (v.s0.s1.s2.s3.s4.s5) := ⟨ca, cb, cc, cd, fa, fb, fc, fd⟩
  clear hO5 hS5
  go_upto_region 6 with fail
  go_cut [] (fun wx => Onl g w wx ∧ St wx g (v.s0.s1.s2.s3.s4.s5.s6))
  case first =>
    go_region_with (go_at_call 55; refine (rot21 _ ((V4.U5 (V4.U4 (V4.U3 (V4.U2 (V4.U1 (V4.U0 (hU))))))).2.2.2) _).mono ?_; rintro e w' ⟨rfl, rfl⟩)
    all_goals
      go_wp2_with fail
      go_meet
      exact ⟨by repeat (first | with_reducible exact hO6 | with_reducible refine Onl.setCell ?_ _ _ | with_reducible refine Onl.drew ?_), by first | exact hS6.setd _ | exact hS6.drew.setd _ | exact hS6.drew.drew.setd _ | exact hS6.drew.drew.drew.setd _⟩
  case rest =>
  clear ca cb cc cd fa fb fc fd
  obtain ⟨hO7, hS7⟩ := hcut
  generalize wc = w7 at *
  obtain ⟨ca, cb, cc, cd, fa, fb, fc, fd⟩ := hS7
  have hS7 : St w7 g (v.s0.s1.s2.s3.s4.s5.s6) := ⟨ca, cb, cc, cd, fa, fb, fc, fd⟩
  clear hO6 hS6
  go_upto_region 7 with fail
  go_cut [] (fun wx => Onl g w wx ∧ St wx g (v.s0.s1.s2.s3.s4.s5.s6.s7))
  case first =>
    go_region
    all_goals
      go_wp2_with fail
      go_meet
      exact ⟨by repeat (first | with_reducible exact hO7 | with_reducible refine Onl.setCell ?_ _ _ | with_reducible refine Onl.drew ?_), by first | exact hS7.setc _ | exact hS7.drew.setc _ | exact hS7.drew.drew.setc _ | exact hS7.drew.drew.drew.setc _⟩
  case rest =>
  clear ca cb cc cd fa fb fc fd
  obtain ⟨hO8, hS8⟩ := hcut
  generalize wc = w8 at *
  obtain ⟨ca, cb, cc, cd, fa, fb, fc, fd⟩ := hS8
  have hS8 : St w8 g (v.s0.s1.s2.s3.s4.s5.s6.s7) := ⟨ca, cb, cc, cd, fa, fb, fc, fd⟩
  clear hO7 hS7
  go_upto_region 8 with fail
  go_cut [] (fun wx => Onl g w wx ∧ St wx g (v.s0.s1.s2.s3.s4.s5.s6.s7.s8))
  case first =>
    go_region_with (go_at_call 55; refine (rot17 _ ((V4.U7 (V4.U6 (V4.U5 (V4.U4 (V4.U3 (V4.U2 (V4.U1 (V4.U0 (hU))))))))).2.1) _).mono ?_; rintro e w' ⟨rfl, rfl⟩)
    all_goals
      go_wp2_with fail
      go_meet
      exact ⟨by repeat (first | with_reducible exact hO8 | with_reducible refine Onl.setCell ?_ _ _ | with_reducible refine Onl.drew ?_), by first | exact hS8.setb _ | exact hS8.drew.setb _ | exact hS8.drew.drew.setb _ | exact hS8.drew.drew.drew.setb _⟩
  case rest =>
  clear ca cb cc cd fa fb fc fd
  obtain ⟨hO9, hS9⟩ := hcut
  generalize wc = w9 at *
  obtain ⟨ca, cb, cc, cd, fa, fb, fc, fd⟩ := hS9
  have hS9 : St w9 g (v.s0.s1.s2.s3.s4.s5.s6.s7.s8) := ⟨ca, cb, cc, cd, fa, fb, fc, fd⟩
  clear hO8 hS8
  go_wp2_with (go_at_call 55; refine (rot32 _ ((V4.U8 (V4.U7 (V4.U6 (V4.U5 (V4.U4 (V4.U3 (V4.U2 (V4.U1 (V4.U0 (hU)))))))))).2.2.1) _).mono ?_; rintro e w' ⟨rfl, rfl⟩)
  go_end0
  refine ⟨rfl, ?_, ?_⟩
  · repeat (first | with_reducible exact hO9 | with_reducible refine Onl.setCell ?_ _ _ | with_reducible refine Onl.drew ?_)
  · first | exact hS9.setc _ | exact hS9.drew.setc _
end Go.Proofs.Ytejlfbiehcfbgaa
