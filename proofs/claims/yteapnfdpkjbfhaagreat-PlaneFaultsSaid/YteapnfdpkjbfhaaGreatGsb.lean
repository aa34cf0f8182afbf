/- Package sip's sums of numbers. the document's round. The document's keyed sums, said a second time. The document's sum of numbers: of their bytes. Package sip's sums of bytes. -/
import Derived.Test.YteapnfdpkjbfhaaGreatGa
import Derived.Test.YteapnfdpkjbfhaaGreatGs
namespace Go.Proofs.YteapnfdpkjbfhaaGreat
set_option linter.unusedVariables false
open Go.RowKit Go.ChangeShapes Go.WideShapes Go.ChangeAt
theorem ret_u64 {a b : Int} (h : a = b) : Ending.returned (.int .u64 a) = .returned (.int .u64 b) := by rw [h]
theorem start_any (a b : Int) (w : World) : Calls Tryz.prog 157 #[.agg #[.int .u64 a, .int .u64 b]] w fun e w' => e = .returned (.agg #[.int .u64 (strt a b).a, .int .u64 (strt a b).b, .int .u64 (strt a b).c, .int .u64 (strt a b).d]) ∧ Below w.heap.size w w' := by
 go_enter Tryz.func157, Tryz.ntmps157
 go_wp2_with fail
 refine bodyPost_ret (v := .agg #[.int .u64 (strt a b).a, .int .u64 (strt a b).b, .int .u64 (strt a b).c, .int .u64 (strt a b).d]) (by simp [results, Tryz.results157, go_sem]; exact ⟨rfl, rfl, rfl, rfl⟩) rfl ⟨rfl, ?_⟩
 repeat' (first | with_reducible exact Below.refl _ _ | with_reducible refine Below.alloc ?_ ?_ _ | with_reducible refine Below.setCell ?_ ?_ _ | (simp; done) | (simp; omega))
def rndk : Nat → V4 → V4
 | 0, v => v
 | k + 1, v => rnd (rndk k v)
theorem rndk_U {v : V4} (h : v.U) : ∀ k, (rndk k v).U
 | 0 => h
 | k + 1 => rnd_U (rndk_U h k)
set_option maxRecDepth 100000 in
theorem end_any (g : Nat) (v : V4) (l : Int) (n : Int) (w : World) (hS : St w g v) (hU : v.U) (hn : 0 ≤ n) (hn' : n ≤ 1125899906842624) :
 Calls Tryz.prog 159 #[.pointer (some ⟨g, 0, none⟩), .int .u64 l, .int .i64 n] w fun e w' => e = .returned (.int .u64 (fin4 (eat v (bits .or .u64 l (IntKind.u64.wrap (n * 72057594037927936)))))) ∧ Onl g w w' := by
 have hg := hS.lt
 obtain ⟨m, hm⟩ : ∃ m, m = bits .or .u64 l (IntKind.u64.wrap (n * 72057594037927936)) := ⟨_, rfl⟩
 have hmU : U m := by rw [hm]; exact U_bits _ _ _
 go_enter Tryz.func159, Tryz.ntmps159
 go_wp2_with fail
 rw [← hm]
 have HM := hid hm
 clear hm
 have hw1 : Onl g w (w.alloc (.cells #[.int .u64 m] 27)) := Onl.of_below ((Below.refl _ _).alloc (Nat.le_refl _) _)
 refine (take_u64 g v _ 1 1 (fun j => [m].getD j 0) _ (hS.below ((Below.refl w.heap.size w).alloc (Nat.le_refl _) _) hg) hU (by exact row_at .u64 [m] rfl) (fun j => ?_) (fun ad e _ => ?_) (by omega)).mono ?_
 ·rcases j with _ | j
  ·exact hmU
  ·exact ⟨by simp, by simp⟩
 ·injection e with e
  subst e
  simp only
  omega
 rintro e w1 ⟨rfl, hO1, hS1⟩
 have hS2 : St w1 g (eat v m) := hS1
 have hU2 := eat_U hU m
 have hO2 := hw1.trans hO1
 clear hO1 hw1 hS hS1
 obtain ⟨ca, cb, cc, cd, fa, fb, fc, fd⟩ := hS2
 have hS2 : St w1 g (eat v m) := ⟨ca, cb, cc, cd, fa, fb, fc, fd⟩
 clear ca cb cd fa fb fd
 go_wp2_with fail
 go_loopw [22] (fun i wr => ∃ k : Nat, k ≤ 4 ∧ i = .int .i64 k ∧ Onl g w wr ∧ St wr g (rndk k { eat v m with c := xo (eat v m).c 255 })) (fun i _ => 4 - (intOf i).toNat)
 case atStart => exact ⟨0, by omega, rfl, hO2.setCell 2 _, hS2.setc _⟩
 case round =>
  obtain ⟨k, hk, rfl, hO3, hS3⟩ := hrel
  have hU3 : (rndk k { eat v m with c := xo (eat v m).c 255 }).U := rndk_U (v := { eat v m with c := xo (eat v m).c 255 }) ⟨hU2.1, hU2.2.1, U_xo _ _, hU2.2.2.2⟩ k
  clear hO2 hS2 cc fc
  by_cases hlt : k < 4
  ·have i1 : (k : Int) < 4 := by omega
   go_wp2_with fail
   refine (round_any g _ _ hS3 hU3).mono ?_
   rintro e w3 ⟨rfl, hO4, hS4⟩
   go_wp2_with fail
   go_roundw
   case rel => exact ⟨k + 1, by omega, by go_num, hO3.trans hO4, hS4⟩
   case measure => simp [intOf]; omega
  ·have e : k = 4 := by omega
   subst e
   have hS5 : St wr g (last4 (eat v m)) := hS3
   clear hS3 hU3
   obtain ⟨ca, cb, cc, cd, fa, fb, fc, fd⟩ := hS5
   clear fa fb fc fd
   have i1 : ¬ ((4 : Nat) : Int) < 4 := by omega
   go_wp2_with fail
   go_quiet (fail)
   go_wp2
   go_ret
   exact ⟨ret_u64 (show xo (xo (xo (last4 (eat v m)).a (last4 (eat v m)).b) (last4 (eat v m)).c) (last4 (eat v m)).d = _ by rw [← HM.out]; rfl), hO3.drewN _⟩
/-- The sum of n bytes, by the key a, b. -/
def sumB (a b : Int) (f : Nat → Int) (n : Nat) : Int :=
 fin4 (eat (eats (fun i => numK (fun j => f (8 * i + j)) 8) (n / 8) (strt a b)) (bits .or .u64 (numK (fun j => f (8 * (n / 8) + j)) (n % 8)) (IntKind.u64.wrap ((n : Int) * 72057594037927936))))
/-- The sum of n numbers. -/
def sumW (a b : Int) (f : Nat → Int) (n : Nat) : Int :=
 fin4 (eat (eats (fun j => IntKind.u64.wrap (f j)) n (strt a b)) (bits .or .u64 0 (IntKind.u64.wrap (8 * (n : Int) * 72057594037927936))))
theorem St.made {w : World} {T : TypeId} {v : V4} {g : Nat} (hg : w.heap.size = g) : St (w.alloc (.cells #[.int .u64 v.a, .int .u64 v.b, .int .u64 v.c, .int .u64 v.d] T)) g v := by
 subst hg
 have h := heap_alloc_new w (.cells #[.int .u64 v.a, .int .u64 v.b, .int .u64 v.c, .int .u64 v.d] T)
 exact ⟨by rw [cell_of_row _ _ _ _ _ _ h]; rfl, by rw [cell_of_row _ _ _ _ _ _ h]; rfl, by rw [cell_of_row _ _ _ _ _ _ h]; rfl, by rw [cell_of_row _ _ _ _ _ _ h]; rfl,
  frozen_of_row _ _ _ _ _ h, frozen_of_row _ _ _ _ _ h, frozen_of_row _ _ _ _ _ h, frozen_of_row _ _ _ _ _ h⟩
theorem words_any (a b : Int) (A : Option Addr) (n c : Nat) (f : Nat → Int) (w : World) (h : Is w A n f) (hf : IsI f) (hn : n ≤ 140737488355328) :
 Calls Tryz.prog 132 #[.agg #[.int .u64 a, .int .u64 b], .slice A n c] w fun e w' => e = .returned (.int .u64 (sumW a b f n)) ∧ Below w.heap.size w w' := by
 go_enter Tryz.func132, Tryz.ntmps132
 go_wp2_with fail
 refine (start_any a b _).mono ?_
 rintro e w1 ⟨rfl, hb1⟩
 go_wp2_with fail
 have hb1 := ((Below.refl w.heap.size w).alloc (Nat.le_refl _) (.cells #[.int .u64 a, .int .u64 b] 29)).trans (hb1.mono (by simp))
 have hS := St.made (w := w1) (T := 216) (v := strt a b) (g := w1.heap.size) rfl
 have hb2 : Below w.heap.size w (w1.alloc (.cells #[.int .u64 (strt a b).a, .int .u64 (strt a b).b, .int .u64 (strt a b).c, .int .u64 (strt a b).d] 216)) := hb1.alloc hb1.size _
 have hs := h.below hb2 (Nat.le_refl _)
 have hz := hb1.size
 refine (take_int w1.heap.size (strt a b) A n c f _ hS (strt_U a b) hs hf (fun ad e h0 => ?_) hn).mono ?_
 ·obtain ⟨b', off, e', hlt, _⟩ := h h0
  rw [e] at e'
  injection e' with e'
  subst e'
  simp only
  omega
 rintro e w2 ⟨rfl, hO2, hS2⟩
 have hU2 := eats_U (f := fun j => IntKind.u64.wrap (f j)) (strt_U a b) n
 have hb3 := hb2.trans (hO2.below hz (by simp; omega))
 clear hS hs h
 go_wp2_with fail
 refine (end_any w1.heap.size _ 0 (8 * (n : Int)) _ hS2 hU2 (by omega) (by omega)).mono ?_
 rintro e w3 ⟨rfl, hO3⟩
 have hb4 := hb3.trans (hO3.below hz hb3.size)
 go_wp2
 go_ret
 exact ⟨rfl, hb4⟩
theorem sumB_at (a b : Int) (f : Nat → Int) (n p L : Nat) (h : 8 * p + L = n) (hL : L < 8) :
 fin4 (eat (eats (fun i => numK (fun j => f (8 * i + j)) 8) p (strt a b)) (bits .or .u64 (numK (fun j => f (8 * p + j)) L) (IntKind.u64.wrap ((n : Int) * 72057594037927936)))) = sumB a b f n := by
 have h1 : n / 8 = p := by omega
 have h2 : n % 8 = L := by omega
 unfold sumB
 rw [h1, h2]
end Go.Proofs.YteapnfdpkjbfhaaGreat
namespace Go.Proofs.YteapnfdpkjbfhaaGreat
set_option linter.unusedVariables false
open Go.RowKit Go.ChangeShapes Go.WideShapes Go.ChangeAt
theorem rrot13 (x : Int) (hx : U x) (w : World) : Calls Tryz.prog 154 #[.int .u64 x, .int .u64 13] w fun e w' => e = .returned (.int .u64 (rot x 8192 2251799813685248)) ∧ w = w' := by
 unfold U at hx
 go_enter Tryz.func154, Tryz.ntmps154
 go_wp2
 go_ret
 exact ⟨rfl, rfl⟩
theorem rrot16 (x : Int) (hx : U x) (w : World) : Calls Tryz.prog 154 #[.int .u64 x, .int .u64 16] w fun e w' => e = .returned (.int .u64 (rot x 65536 281474976710656)) ∧ w = w' := by
 unfold U at hx
 go_enter Tryz.func154, Tryz.ntmps154
 go_wp2
 go_ret
 exact ⟨rfl, rfl⟩
theorem rrot17 (x : Int) (hx : U x) (w : World) : Calls Tryz.prog 154 #[.int .u64 x, .int .u64 17] w fun e w' => e = .returned (.int .u64 (rot x 131072 140737488355328)) ∧ w = w' := by
 unfold U at hx
 go_enter Tryz.func154, Tryz.ntmps154
 go_wp2
 go_ret
 exact ⟨rfl, rfl⟩
theorem rrot21 (x : Int) (hx : U x) (w : World) : Calls Tryz.prog 154 #[.int .u64 x, .int .u64 21] w fun e w' => e = .returned (.int .u64 (rot x 2097152 8796093022208)) ∧ w = w' := by
 unfold U at hx
 go_enter Tryz.func154, Tryz.ntmps154
 go_wp2
 go_ret
 exact ⟨rfl, rfl⟩
theorem rrot32 (x : Int) (hx : U x) (w : World) : Calls Tryz.prog 154 #[.int .u64 x, .int .u64 32] w fun e w' => e = .returned (.int .u64 (rot x 4294967296 4294967296)) ∧ w = w' := by
 unfold U at hx
 go_enter Tryz.func154, Tryz.ntmps154
 go_wp2
 go_ret
 exact ⟨rfl, rfl⟩
set_option maxRecDepth 100000 in
set_option maxHeartbeats 4000000 in
theorem rround_any (g : Nat) (v : V4) (w : World) (hS : St w g v) (hU : v.U) : Calls Tryz.prog 130 #[.pointer (some ⟨g, 0, none⟩)] w fun e w' => e = .returned (.tuple #[]) ∧ Onl g w w' ∧ St w' g (rnd v) := by
 have hO0 := Onl.refl_ g w
 obtain ⟨ca, cb, cc, cd, fa, fb, fc, fd⟩ := hS
 have hS0 : St w g v := ⟨ca, cb, cc, cd, fa, fb, fc, fd⟩
 go_enter Tryz.func130, Tryz.ntmps130
 go_upto_region 0 with fail
 go_cut [] (fun wx => Onl g w wx ∧ St wx g (v.s0))
 case first =>
  go_region
  all_goals
   go_wp2_with fail
   go_meet
   exact ⟨by repeat (first | with_reducible exact hO0 | with_reducible refine Onl.setCell ?_ _ _ | with_reducible refine Onl.drew ?_), by first | exact hS0.seta _ | exact hS0.drew.seta _ | exact hS0.drew.drew.seta _ | exact hS0.drew.drew.drew.seta _⟩
 case rest =>
 clear ca cb cc cd fa fb fc fd
 obtain ⟨hO1, hS1⟩ := hcut
 generalize wc = w1 at *
 obtain ⟨ca, cb, cc, cd, fa, fb, fc, fd⟩ := hS1
 have hS1 : St w1 g (v.s0) := ⟨ca, cb, cc, cd, fa, fb, fc, fd⟩
 clear hO0 hS0
 go_upto_region 1 with fail
 go_cut [] (fun wx => Onl g w wx ∧ St wx g (v.s0.s1))
 case first =>
  go_region_with (go_at_call 154; refine (rrot13 _ ((V4.U0 (hU)).2.1) _).mono ?_; rintro e w' ⟨rfl, rfl⟩)
  all_goals
   go_wp2_with fail
   go_meet
   exact ⟨by repeat (first | with_reducible exact hO1 | with_reducible refine Onl.setCell ?_ _ _ | with_reducible refine Onl.drew ?_), by first | exact hS1.setb _ | exact hS1.drew.setb _ | exact hS1.drew.drew.setb _ | exact hS1.drew.drew.drew.setb _⟩
 case rest =>
 clear ca cb cc cd fa fb fc fd
 obtain ⟨hO2, hS2⟩ := hcut
 generalize wc = w2 at *
 obtain ⟨ca, cb, cc, cd, fa, fb, fc, fd⟩ := hS2
 have hS2 : St w2 g (v.s0.s1) := ⟨ca, cb, cc, cd, fa, fb, fc, fd⟩
 clear hO1 hS1
 go_upto_region 2 with fail
 go_cut [] (fun wx => Onl g w wx ∧ St wx g (v.s0.s1.s2))
 case first =>
  go_wp2_with (go_at_call 154; refine (rrot32 _ ((V4.U1 (V4.U0 (hU))).1) _).mono ?_; rintro e w' ⟨rfl, rfl⟩)
  all_goals
   go_wp2_with fail
   go_meet
   exact ⟨by repeat (first | with_reducible exact hO2 | with_reducible refine Onl.setCell ?_ _ _ | with_reducible refine Onl.drew ?_), by first | exact hS2.seta _ | exact hS2.drew.seta _ | exact hS2.drew.drew.seta _ | exact hS2.drew.drew.drew.seta _⟩
 case rest =>
 clear ca cb cc cd fa fb fc fd
 obtain ⟨hO3, hS3⟩ := hcut
 generalize wc = w3 at *
 obtain ⟨ca, cb, cc, cd, fa, fb, fc, fd⟩ := hS3
 have hS3 : St w3 g (v.s0.s1.s2) := ⟨ca, cb, cc, cd, fa, fb, fc, fd⟩
 clear hO2 hS2
 go_upto_region 3 with fail
 go_cut [] (fun wx => Onl g w wx ∧ St wx g (v.s0.s1.s2.s3))
 case first =>
  go_region
  all_goals
   go_wp2_with fail
   go_meet
   exact ⟨by repeat (first | with_reducible exact hO3 | with_reducible refine Onl.setCell ?_ _ _ | with_reducible refine Onl.drew ?_), by first | exact hS3.setc _ | exact hS3.drew.setc _ | exact hS3.drew.drew.setc _ | exact hS3.drew.drew.drew.setc _⟩
 case rest =>
 clear ca cb cc cd fa fb fc fd
 obtain ⟨hO4, hS4⟩ := hcut
 generalize wc = w4 at *
 obtain ⟨ca, cb, cc, cd, fa, fb, fc, fd⟩ := hS4
 have hS4 : St w4 g (v.s0.s1.s2.s3) := ⟨ca, cb, cc, cd, fa, fb, fc, fd⟩
 clear hO3 hS3
 go_upto_region 4 with fail
 go_cut [] (fun wx => Onl g w wx ∧ St wx g (v.s0.s1.s2.s3.s4))
 case first =>
  go_region_with (go_at_call 154; refine (rrot16 _ ((V4.U3 (V4.U2 (V4.U1 (V4.U0 (hU))))).2.2.2) _).mono ?_; rintro e w' ⟨rfl, rfl⟩)
  all_goals
   go_wp2_with fail
   go_meet
   exact ⟨by repeat (first | with_reducible exact hO4 | with_reducible refine Onl.setCell ?_ _ _ | with_reducible refine Onl.drew ?_), by first | exact hS4.setd _ | exact hS4.drew.setd _ | exact hS4.drew.drew.setd _ | exact hS4.drew.drew.drew.setd _⟩
 case rest =>
 clear ca cb cc cd fa fb fc fd
 obtain ⟨hO5, hS5⟩ := hcut
 generalize wc = w5 at *
 obtain ⟨ca, cb, cc, cd, fa, fb, fc, fd⟩ := hS5
 have hS5 : St w5 g (v.s0.s1.s2.s3.s4) := ⟨ca, cb, cc, cd, fa, fb, fc, fd⟩
 clear hO4 hS4
 go_upto_region 5 with fail
 go_cut [] (fun wx => Onl g w wx ∧ St wx g (v.s0.s1.s2.s3.s4.s5))
 case first =>
  go_region
  all_goals
   go_wp2_with fail
   go_meet
   exact ⟨by repeat (first | with_reducible exact hO5 | with_reducible refine Onl.setCell ?_ _ _ | with_reducible refine Onl.drew ?_), by first | exact hS5.seta _ | exact hS5.drew.seta _ | exact hS5.drew.drew.seta _ | exact hS5.drew.drew.drew.seta _⟩
 case rest =>
 clear ca cb cc cd fa fb fc fd
 obtain ⟨hO6, hS6⟩ := hcut
 generalize wc = w6 at *
 obtain ⟨ca, cb, cc, cd, fa, fb, fc, fd⟩ := hS6
 have hS6 : St w6 g (v.s0.s1.s2.s3.s4.s5) := ⟨ca, cb, cc, cd, fa, fb, fc, fd⟩
 clear hO5 hS5
 go_upto_region 6 with fail
 go_cut [] (fun wx => Onl g w wx ∧ St wx g (v.s0.s1.s2.s3.s4.s5.s6))
 case first =>
  go_region_with (go_at_call 154; refine (rrot21 _ ((V4.U5 (V4.U4 (V4.U3 (V4.U2 (V4.U1 (V4.U0 (hU))))))).2.2.2) _).mono ?_; rintro e w' ⟨rfl, rfl⟩)
  all_goals
   go_wp2_with fail
   go_meet
   exact ⟨by repeat (first | with_reducible exact hO6 | with_reducible refine Onl.setCell ?_ _ _ | with_reducible refine Onl.drew ?_), by first | exact hS6.setd _ | exact hS6.drew.setd _ | exact hS6.drew.drew.setd _ | exact hS6.drew.drew.drew.setd _⟩
 case rest =>
 clear ca cb cc cd fa fb fc fd
 obtain ⟨hO7, hS7⟩ := hcut
 generalize wc = w7 at *
 obtain ⟨ca, cb, cc, cd, fa, fb, fc, fd⟩ := hS7
 have hS7 : St w7 g (v.s0.s1.s2.s3.s4.s5.s6) := ⟨ca, cb, cc, cd, fa, fb, fc, fd⟩
 clear hO6 hS6
 go_upto_region 7 with fail
 go_cut [] (fun wx => Onl g w wx ∧ St wx g (v.s0.s1.s2.s3.s4.s5.s6.s7))
 case first =>
  go_region
  all_goals
   go_wp2_with fail
   go_meet
   exact ⟨by repeat (first | with_reducible exact hO7 | with_reducible refine Onl.setCell ?_ _ _ | with_reducible refine Onl.drew ?_), by first | exact hS7.setc _ | exact hS7.drew.setc _ | exact hS7.drew.drew.setc _ | exact hS7.drew.drew.drew.setc _⟩
 case rest =>
 clear ca cb cc cd fa fb fc fd
 obtain ⟨hO8, hS8⟩ := hcut
 generalize wc = w8 at *
 obtain ⟨ca, cb, cc, cd, fa, fb, fc, fd⟩ := hS8
 have hS8 : St w8 g (v.s0.s1.s2.s3.s4.s5.s6.s7) := ⟨ca, cb, cc, cd, fa, fb, fc, fd⟩
 clear hO7 hS7
 go_upto_region 8 with fail
 go_cut [] (fun wx => Onl g w wx ∧ St wx g (v.s0.s1.s2.s3.s4.s5.s6.s7.s8))
 case first =>
  go_region_with (go_at_call 154; refine (rrot17 _ ((V4.U7 (V4.U6 (V4.U5 (V4.U4 (V4.U3 (V4.U2 (V4.U1 (V4.U0 (hU))))))))).2.1) _).mono ?_; rintro e w' ⟨rfl, rfl⟩)
  all_goals
   go_wp2_with fail
   go_meet
   exact ⟨by repeat (first | with_reducible exact hO8 | with_reducible refine Onl.setCell ?_ _ _ | with_reducible refine Onl.drew ?_), by first | exact hS8.setb _ | exact hS8.drew.setb _ | exact hS8.drew.drew.setb _ | exact hS8.drew.drew.drew.setb _⟩
 case rest =>
 clear ca cb cc cd fa fb fc fd
 obtain ⟨hO9, hS9⟩ := hcut
 generalize wc = w9 at *
 obtain ⟨ca, cb, cc, cd, fa, fb, fc, fd⟩ := hS9
 have hS9 : St w9 g (v.s0.s1.s2.s3.s4.s5.s6.s7.s8) := ⟨ca, cb, cc, cd, fa, fb, fc, fd⟩
 clear hO8 hS8
 go_wp2_with (go_at_call 154; refine (rrot32 _ ((V4.U8 (V4.U7 (V4.U6 (V4.U5 (V4.U4 (V4.U3 (V4.U2 (V4.U1 (V4.U0 (hU)))))))))).2.2.1) _).mono ?_; rintro e w' ⟨rfl, rfl⟩)
 go_end0
 refine ⟨rfl, ?_, ?_⟩
 ·repeat (first | with_reducible exact hO9 | with_reducible refine Onl.setCell ?_ _ _ | with_reducible refine Onl.drew ?_)
 ·first | exact hS9.setc _ | exact hS9.drew.setc _
end Go.Proofs.YteapnfdpkjbfhaaGreat
namespace Go.Proofs.YteapnfdpkjbfhaaGreat
set_option linter.unusedVariables false
open Go.RowKit Go.ChangeShapes Go.WideShapes Go.ChangeAt
theorem eat_any (g : Nat) (v : V4) (m : Int) (w : World) (hS : St w g v) (hU : v.U) :
 Calls Tryz.prog 128 #[.pointer (some ⟨g, 0, none⟩), .int .u64 m] w fun e w' => e = .returned (.tuple #[]) ∧ Onl g w w' ∧ St w' g (eat v m) := by
 have hO := Onl.refl_ g w
 have hS2 := hS
 obtain ⟨ca, cb, cc, cd, fa, fb, fc, fd⟩ := hS
 clear ca cb cc fa fb fc
 go_enter Tryz.func128, Tryz.ntmps128
 go_wp2_with fail
 refine (rround_any g { v with d := xo v.d m } _ (hS2.setd _) ⟨hU.1, hU.2.1, hU.2.2.1, U_xo _ _⟩).mono ?_
 rintro e w1 ⟨rfl, hO3, hS3⟩
 have hU3 := rnd_U (v := { v with d := xo v.d m }) ⟨hU.1, hU.2.1, hU.2.2.1, U_xo _ _⟩
 go_wp2_with fail
 refine (rround_any g _ _ hS3 hU3).mono ?_
 rintro e w2 ⟨rfl, hO4, hS4⟩
 have hO5 := ((hO.setCell 3 _).trans hO3).trans hO4
 have hS5 := hS4
 obtain ⟨ca, cb, cc, cd', fa, fb, fc, fd'⟩ := hS4
 clear cb cc cd' fb fc fd' cd fd hO3 hO4 hS3 hS2
 go_wp2_with fail
 go_end0
 exact ⟨rfl, hO5.setCell 0 _, hS5.seta _⟩
theorem and255 (n : Nat) (hn : n < 9223372036854775808) : bits .and .i64 (n : Int) 255 = ((n % 256 : Nat) : Int) := by
 have h1 : n &&& 255 = n % 256 := Nat.and_two_pow_sub_one_eq_mod n 8
 show IntKind.i64.wrap ((BitVec.ofInt 64 (n : Int) &&& BitVec.ofInt 64 ((255 : Nat) : Int)).toNat : Int) = _
 rw [BitVec.toNat_and, BitVec.ofInt_natCast, BitVec.ofInt_natCast, BitVec.toNat_ofNat, BitVec.toNat_ofNat, Nat.mod_eq_of_lt (by omega), Nat.mod_eq_of_lt (by omega), h1, IntKind.wrap_i64]
 omega
theorem top56 (n : Nat) : (n : Int) % 256 * 72057594037927936 = IntKind.u64.wrap ((n : Int) * 72057594037927936) := by
 rw [IntKind.wrap_u64]
 omega
set_option maxRecDepth 100000 in
theorem rof_anyK (a b : Int) (A : Option Addr) (n c : Nat) (f : Nat → Int) (w : World) (h : By w A n f) (hf : IsB f) (hnc : n ≤ c) (hn : n ≤ 140737488355328) :
 Calls Tryz.prog 100 #[.agg #[.int .u64 a, .int .u64 b], .slice A n c] w fun e w' => e = .returned (.int .u64 (sumB a b f n)) ∧ Below w.heap.size w w' := by
 have hand := and255 n (by omega)
 go_enter Tryz.func100, Tryz.ntmps100
 go_wp2_with fail
 have hS := St.made (w := w.alloc (.cells #[.int .u64 a, .int .u64 b] 29)) (T := 195) (v := strt a b) (g := w.heap.size + 1) (by simp)
 have hb2 : Below w.heap.size w ((w.alloc (.cells #[.int .u64 a, .int .u64 b] 29)).alloc (.cells #[.int .u64 (strt a b).a, .int .u64 (strt a b).b, .int .u64 (strt a b).c, .int .u64 (strt a b).d] 195)) :=
  ((Below.refl _ _).alloc (Nat.le_refl _) _).alloc (by simp) _
 have hs := h.below hb2 (Nat.le_refl _)
 have hz' : w.heap.size ≤ w.heap.size + 1 := by omega
 have hA : ∀ ad, A = some ad → 0 < n → ad.block ≠ w.heap.size + 1 := fun ad e h0 => by
  obtain ⟨b', off, e', hlt, _⟩ := h h0
  rw [e] at e'
  injection e' with e'
  subst e'
  simp only
  omega
 clear h
 change Code.wp _ _ _ _ ((w.alloc (.cells #[.int .u64 a, .int .u64 b] 29)).alloc (.cells #[.int .u64 (strt a b).a, .int .u64 (strt a b).b, .int .u64 (strt a b).c, .int .u64 (strt a b).d] 195))
 generalize hgg : w.heap.size + 1 = g at *
 clear hgg
 generalize (w.alloc (.cells #[.int .u64 a, .int .u64 b] 29)).alloc _ = w2 at *
 have hO := Onl.refl_ g w2
 go_loopw [6] (fun r wr => ∃ p : Nat, 8 * p ≤ n ∧ r = .int .i64 (8 * (p : Int)) ∧ Onl g w2 wr ∧ St wr g (eats (fun i => numK (fun j => f (8 * i + j)) 8) p (strt a b)))
  (fun r _ => n - (intOf r).toNat)
 case atStart => exact ⟨0, by omega, rfl, hO, hS⟩
 case round =>
  obtain ⟨p, hpn, rfl, hO1, hS1⟩ := hrel
  have hB := hO1.sl hs hA
  have hU1 := eats_U (f := fun i => numK (fun j => f (8 * i + j)) 8) (strt_U a b) p
  have hE : Hid (eats (fun i => numK (fun j => f (8 * i + j)) 8) (p + 1) (strt a b) = eat (eats (fun i => numK (fun j => f (8 * i + j)) 8) p (strt a b)) (numK (fun j => f (8 * p + j)) 8)) := rfl
  have hfp : IsB (fun j => f (8 * p + j)) := fun j => hf _
  clear hO hS
  by_cases hlt : 8 * p + 8 ≤ n
  ·generalize eats (fun i => numK (fun j => f (8 * i + j)) 8) p (strt a b) = v1 at *
   obtain ⟨A2, k2, S2⟩ := cut_mid_b A n c (8 * p) (8 * p + 8) (by omega) hlt hnc (8 * (p : Int)) (8 * (p : Int) + 8) (by omega) (by omega)
   rw [show 8 * p + 8 - 8 * p = 8 from by omega] at k2 S2
   have i1 : 8 * (p : Int) + 8 ≤ n := by omega
   have SB := S2 _ _ hB
   clear S2 hB
   go_wp2_with fail
   refine (low_any A2 8 _ (fun j => f (8 * p + j)) _ SB hfp (by omega)).mono ?_
   rintro e w3 ⟨rfl, rfl⟩
   go_wp2_with fail
   refine (eat_any g v1 (numK (fun j => f (8 * p + j)) 8) _ hS1 hU1).mono ?_
   rintro e w4 ⟨rfl, hO2, hS2⟩
   have hO3 := hid (hO1.trans hO2)
   have HS3 := hid hS2
   clear hS2 hO2 hS1 hO1
   go_wp2_with fail
   go_roundw
   case rel => exact ⟨p + 1, by omega, by go_num, hO3.out, by rw [hE.out]; exact HS3.out⟩
   case measure => simp [intOf]; omega
  ·obtain ⟨L, hL⟩ : ∃ L, L = n - 8 * p := ⟨_, rfl⟩
   have hfin := hid (sumB_at a b f n p L (by omega) (by omega))
   have i1 : ¬ 8 * (p : Int) + 8 ≤ n := by omega
   obtain ⟨A2, k2, S2⟩ := cut_from_b A n c (8 * p) (by omega) hnc (8 * (p : Int)) (by omega)
   rw [← hL] at k2 S2
   have SB := S2 _ _ hB
   have hL8 : L ≤ 8 := by omega
   have htop := hid (top56 n)
   clear S2 hB hL
   generalize eats (fun i => numK (fun j => f (8 * i + j)) 8) p (strt a b) = v1 at *
   clear hE
   go_wp2_with fail
   refine (low_any A2 L _ (fun j => f (8 * p + j)) _ SB hfp hL8).mono ?_
   rintro e w3 ⟨rfl, rfl⟩
   go_wp2_with fail
   rw [htop.out]
   obtain ⟨m, hm⟩ : ∃ m, m = bits .or .u64 (numK (fun j => f (8 * p + j)) L) (IntKind.u64.wrap ((n : Int) * 72057594037927936)) := ⟨_, rfl⟩
   rw [← hm]
   have HM := hid hm
   clear hm hand
   refine (eat_any g v1 m _ hS1 hU1).mono ?_
   rintro e w4 ⟨rfl, hO2, hS2⟩
   have hU2 := eat_U hU1 m
   have hO3 := hO1.trans hO2
   clear hO1 hO2 hS1 SB
   obtain ⟨ca, cb, cc, cd, fa, fb, fc, fd⟩ := hS2
   have hS2 : St w4 g (eat v1 m) := ⟨ca, cb, cc, cd, fa, fb, fc, fd⟩
   clear ca cb cd fa fb fd
   have hU3 : V4.U { eat v1 m with c := xo (eat v1 m).c 255 } := ⟨hU2.1, hU2.2.1, U_xo _ _, hU2.2.2.2⟩
   go_wp2_with fail
   refine (rround_any g { eat v1 m with c := xo (eat v1 m).c 255 } _ (hS2.setc _) hU3).mono ?_
   rintro e w5 ⟨rfl, hO4, hS4⟩
   have hU4 := rnd_U hU3
   go_wp2_with fail
   refine (rround_any g _ _ hS4 hU4).mono ?_
   rintro e w6 ⟨rfl, hO5, hS5⟩
   have hU5 := rnd_U hU4
   go_wp2_with fail
   refine (rround_any g _ _ hS5 hU5).mono ?_
   rintro e w7 ⟨rfl, hO6, hS6⟩
   have hU6 := rnd_U hU5
   go_wp2_with fail
   refine (rround_any g _ _ hS6 hU6).mono ?_
   rintro e w8 ⟨rfl, hO7, hS7⟩
   have hS8 : St w8 g (last4 (eat v1 m)) := hS7
   have hO8 := ((((hO3.setCell 2 _).trans hO4).trans hO5).trans hO6).trans hO7
   have hb9 := hb2.trans (hO8.below hz' hb2.size)
   clear hS2 cc fc hO3 hO4 hO5 hO6 hO7 hS4 hS5 hS6 hS7
   obtain ⟨ca, cb, cc, cd, fa, fb, fc, fd⟩ := hS8
   clear fa fb fc fd
   go_wp2_with fail
   go_quiet (fail)
   go_wp2
   go_ret
   refine ⟨ret_u64 ?_, below_drewN hb9 _⟩
   rw [← hfin.out, ← HM.out]
   rfl
end Go.Proofs.YteapnfdpkjbfhaaGreat
namespace Go.Proofs.YteapnfdpkjbfhaaGreat
set_option linter.unusedVariables false
open Go.RowKit Go.ChangeShapes Go.WideShapes Go.ChangeAt
/-- Byte q of numbers laid one behind the other, the lowest byte first. -/
def byteOf (f : Nat → Int) (q : Nat) : Int := IntKind.u64.wrap (f (q / 8)) / 2 ^ (8 * (q % 8)) % 256
theorem byteOf_b (f : Nat → Int) : IsB (byteOf f) := fun q => by unfold byteOf; omega
theorem byteOf_at (f : Nat → Int) (i j : Nat) (hj : j < 8) : byteOf f (8 * i + j) = IntKind.u64.wrap (f i) / 256 ^ j % 256 := by
 have h1 : (8 * i + j) / 8 = i := by omega
 have h2 : (8 * i + j) % 8 = j := by omega
 have h3 : (2 : Int) ^ (8 * j) = 256 ^ j := by rw [Int.pow_mul]; rfl
 unfold byteOf
 rw [h1, h2, h3]
theorem num_byteOf (f : Nat → Int) (i : Nat) : numK (fun j => byteOf f (8 * i + j)) 8 = IntKind.u64.wrap (f i) := by
 have hU := U_wrap (f i)
 generalize hx : IntKind.u64.wrap (f i) = x at *
 unfold U at hU
 simp only [numK, byteOf_at f i _ (show 0 < 8 by omega), byteOf_at f i _ (show 1 < 8 by omega), byteOf_at f i _ (show 2 < 8 by omega), byteOf_at f i _ (show 3 < 8 by omega), byteOf_at f i _ (show 4 < 8 by omega), byteOf_at f i _ (show 5 < 8 by omega), byteOf_at f i _ (show 6 < 8 by omega), byteOf_at f i _ (show 7 < 8 by omega), hx]
 simp only [Int.pow_succ, Int.pow_zero, Int.one_mul, Int.ediv_one, Int.mul_one, Int.zero_add]
 omega
theorem sumB_words (a b : Int) (f : Nat → Int) (n : Nat) : sumB a b (byteOf f) (8 * n) = sumW a b f n := by
 have h1 : 8 * n / 8 = n := by omega
 have h2 : 8 * n % 8 = 0 := by omega
 unfold sumB sumW
 rw [h1, h2, eats_ext _ n (fun i _ => num_byteOf f i)]
 rfl
set_option maxRecDepth 100000 in
theorem rwords_any (a b : Int) (A : Option Addr) (n c : Nat) (f : Nat → Int) (w : World) (h : Is w A n f) (hf : IsI f) (hn : n ≤ 17592186044416) :
 Calls Tryz.prog 64 #[.agg #[.int .u64 a, .int .u64 b], .slice A n c] w fun e w' => e = .returned (.int .u64 (sumW a b f n)) ∧ Below w.heap.size w w' := by
 go_enter Tryz.func64, Tryz.ntmps64
 go_wp2_with fail
 have hs := h.below ((Below.refl w.heap.size w).alloc (Nat.le_refl _) (.cells #[.int .u64 a, .int .u64 b] 29)) (Nat.le_refl _)
 have hb0 : Below w.heap.size w (w.alloc (.cells #[.int .u64 a, .int .u64 b] 29)) := (Below.refl _ _).alloc (Nat.le_refl _) _
 have hk0 : (w.alloc (.cells #[.int .u64 a, .int .u64 b] 29)).cell? ⟨w.heap.size, 0, none⟩ = some (.int .u64 a) := by
  rw [cell_of_row _ _ _ _ _ _ (heap_alloc_new w _)]; rfl
 have hk1 : (w.alloc (.cells #[.int .u64 a, .int .u64 b] 29)).cell? ⟨w.heap.size, 1, none⟩ = some (.int .u64 b) := by
  rw [cell_of_row _ _ _ _ _ _ (heap_alloc_new w _)]; rfl
 have hsz : (w.alloc (.cells #[.int .u64 a, .int .u64 b] 29)).heap.size = w.heap.size + 1 := by simp
 have hsl : w.heap.size < (w.alloc (.cells #[.int .u64 a, .int .u64 b] 29)).heap.size := by simp
 clear hsz
 generalize hw1 : w.alloc (.cells #[.int .u64 a, .int .u64 b] 29) = w1 at *
 clear hw1 h
 go_loopw [5, 6, 7] (fun r i _ wr => ∃ (k : Nat) (A' : Option Addr) (c' : Nat), k ≤ n ∧ i = .int .i64 k ∧ r = .slice A' (8 * k) c' ∧ 8 * k ≤ c' ∧ Below w1.heap.size w1 wr ∧ Ow wr w1.heap.size 5 1 (.slice A' (8 * k) c') (8 * k) (fun q => .int .u8 (byteOf f q)))
  (fun _ i _ _ => n - (intOf i).toNat)
 case atStart => exact ⟨0, none, 0, by omega, rfl, rfl, by omega, Below.refl _ _, Ow.none_⟩
 case round =>
  obtain ⟨k, A', c', hk, rfl, rfl, hc', hb1, hO1⟩ := hrel
  obtain ⟨wo, rfl⟩ : ∃ wo : World, wo = wr := ⟨_, rfl⟩
  by_cases hlt : k < n
  ·have i1 : (k : Int) < n := by omega
   go_wp2_with fail
   go_loopw [5, 7] (fun r j wr => ∃ (q : Nat) (A2 : Option Addr) (c2 : Nat), q ≤ 8 ∧ j = .int .i64 q ∧ r = .slice A2 (8 * k + q) c2 ∧ 8 * k + q ≤ c2 ∧ Below w1.heap.size w1 wr ∧ Ow wr w1.heap.size 5 1 (.slice A2 (8 * k + q) c2) (8 * k + q) (fun q => .int .u8 (byteOf f q)))
    (fun _ j _ => 8 - (intOf j).toNat)
   case atStart => exact ⟨0, A', c', by omega, rfl, rfl, hc', hb1, hO1⟩
   case round =>
    obtain ⟨q, A2, c2, hq, rfl, rfl, hc2, hb2, hO2⟩ := hrel
    by_cases hq8 : q < 8
    ·have i2 : (q : Int) < 8 := by omega
     obtain ⟨ba, off, rfl, _, hcell⟩ := hs.below hb2 (Nat.le_refl _) (by omega)
     have c0 := hcell k hlt
     have hfk := hf k
     clear hcell
     have hx : Hid (byteOf f (8 * k + q) = IntKind.u64.wrap (f k) / 2 ^ (8 * q) % 256) := by
      unfold Hid byteOf
      rw [show (8 * k + q) / 8 = k from by omega, show (8 * k + q) % 8 = q from by omega]
     go_wp2_with (at_builtin
                  refine wp_app_b rfl (.tmp 18) (.tmp 29) rfl w1.heap.size (.slice A2 (8 * k + q) c2) (8 * k + q) (byteOf f) rfl (hO2.alloc _) (some ⟨wr.heap.size, 0, none⟩) 1 1 (fun j => [IntKind.u64.wrap (f k) / 2 ^ (8 * q) % 256].getD j 0) rfl (row_at .u8 [IntKind.u64.wrap (f k) / 2 ^ (8 * q) % 256] rfl) (by omega) (by have := hb2.size; simp; omega) ?_
                  intro A3 c3 w3 o3 hc3 hm3 hb3 hg3 ho3)
     have hb4 : Below w1.heap.size w1 w3 := (hb2.alloc hb2.size _).trans hb3
     go_roundw
     case rel => exact ⟨q + 1, A3, c3, by omega, by go_num, rfl, hc3, hb4, o3.as_ fun j hj => by
      show Value.int .u8 _ = Value.int .u8 _
      congr 1
      split
      ·rfl
      ·rw [show j = 8 * k + q from by omega, hx.out]; simp⟩
     case measure => simp [intOf]; omega
    ·have e : q = 8 := by omega
     subst e
     have i2 : ¬ ((8 : Nat) : Int) < 8 := by omega
     go_wp2_with fail
     go_roundw
     case rel => exact ⟨k + 1, A2, c2, by omega, by go_num, by rw [show 8 * (k + 1) = 8 * k + 8 from by omega], by omega, hb2, by rw [show 8 * (k + 1) = 8 * k + 8 from by omega]; exact hO2⟩
     case measure => simp [intOf]; omega
  ·have e : k = n := by omega
   subst e
   have i1 : ¬ (k : Int) < k := by omega
   have d0 : wo.cell? ⟨w.heap.size, 0, none⟩ = some (.int .u64 a) := (hb1.cell (p := ⟨w.heap.size, 0, none⟩) (by omega)).trans hk0
   have d1 : wo.cell? ⟨w.heap.size, 1, none⟩ = some (.int .u64 b) := (hb1.cell (p := ⟨w.heap.size, 1, none⟩) (by omega)).trans hk1
   have hfin := hid (sumB_words a b f k)
   have SB := hO1.sl1
   have hb5 := hb0.trans (hb1.mono (by omega))
   clear hO1 hk0 hk1
   go_wp2_with fail
   refine (rof_anyK a b A' (8 * k) c' (byteOf f) _ SB (byteOf_b f) hc' (by omega)).mono ?_
   rintro e w9 ⟨rfl, hb9⟩
   go_wp2
   go_ret
   exact ⟨ret_u64 hfin.out, hb5.trans (hb9.mono hb5.size)⟩
end Go.Proofs.YteapnfdpkjbfhaaGreat
namespace Go.Proofs.YteapnfdpkjbfhaaGreat
set_option linter.unusedVariables false
open Go.RowKit Go.ChangeShapes Go.WideShapes Go.ChangeAt
end Go.Proofs.YteapnfdpkjbfhaaGreat
