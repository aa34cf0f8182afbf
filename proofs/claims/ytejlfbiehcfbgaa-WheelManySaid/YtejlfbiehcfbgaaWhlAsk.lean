/- What is asked of keyed sums; a slot's course; Pick, Share, Same. -/
import Derived.Test.YtejlfbiehcfbgaaWhlArr
import Derived.BigQuiet
import Derived.Deep.RegionHeld3
import Derived.Deep.Cut
namespace Go.Proofs.Ytejlfbiehcfbgaa
set_option linter.unusedVariables false
set_option linter.unusedSimpArgs false
open Go.RowKit Go.ChangeShapes Go.WideShapes Go.ChangeAt

theorem sumW_U (a b : Int) (f : Nat → Int) (n : Nat) : U (sumW a b f n) := by
  unfold sumW fin4
  exact U_xo _ _
/-- The keyed sum of three numbers, without a key. -/
def S3 (x y z : Int) : Int := sumW 0 0 (fun j => [x, y, z].getD j 0) 3
def S5 (f : Fl) : Int := sumW 0 0 (fun j => [3, f.a, f.p, f.ta, f.tp].getD j 0) 5
def cAt (a p : Int) : Int := S3 1 a p % 127
def cBy (a p : Int) : Int := S3 2 a p % 126 + 1
def pkW (f : Fl) : Int := S5 f % 127
theorem isI3 {x y z : Int} (hx : I64 x) (hy : I64 y) (hz : I64 z) : IsI (fun j => [x, y, z].getD j 0) := by
  intro j
  unfold I64 at hx hy hz
  rcases j with _ | _ | _ | j
  · exact hx
  · exact hy
  · exact hz
  · exact (by show (-9223372036854775808 : Int) ≤ 0 ∧ (0 : Int) ≤ 9223372036854775807; decide)
def Fl.okI (f : Fl) : Prop := I64 f.a ∧ I64 f.p ∧ I64 f.ta ∧ I64 f.tp
theorem isI5 {f : Fl} (hf : Fl.okI f) : IsI (fun j => [3, f.a, f.p, f.ta, f.tp].getD j 0) := by
  intro j
  obtain ⟨h1, h2, h3, h4⟩ := hf
  rcases j with _ | _ | _ | _ | _ | j
  · exact (by show (-9223372036854775808 : Int) ≤ 3 ∧ (3 : Int) ≤ 9223372036854775807; decide)
  · exact h1
  · exact h2
  · exact h3
  · exact h4
  · exact (by show (-9223372036854775808 : Int) ≤ 0 ∧ (0 : Int) ≤ 9223372036854775807; decide)
theorem cAt_bd (a p : Int) : 0 ≤ cAt a p ∧ cAt a p < 127 := by unfold cAt; omega
theorem cBy_bd (a p : Int) : 1 ≤ cBy a p ∧ cBy a p ≤ 126 := by unfold cBy; omega
theorem pkW_bd (f : Fl) : 0 ≤ pkW f ∧ pkW f < 127 := by unfold pkW; omega
set_option maxRecDepth 100000 in
theorem ask_any (m : Int) (hm : m = 127 ∨ m = 126) (A : Option Addr) (n c : Nat) (f : Nat → Int) (w : World) (h : Is w A n f) (hf : IsI f) (hn : n ≤ 1000) :
    Calls Try.prog 34 #[.int .u64 m, .slice A n c] w fun e w' => e = .returned (.int .i64 (sumW 0 0 f n % m)) ∧ Below w.heap.size w w' := by
  have WD := hid (fun (w : World) (h : Is w A n f) => words_any 0 0 A n c f w h hf (by omega))
  obtain ⟨s, hs⟩ : ∃ s, s = sumW 0 0 f n := ⟨_, rfl⟩
  have hU := sumW_U 0 0 f n
  rw [← hs] at WD hU ⊢
  clear hs
  obtain ⟨u1, u2⟩ := hU
  rcases hm with rfl | rfl
  all_goals
    go_enter Try.func34, Try.ntmps34
    go_wp2_with fail
    refine (WD.out _ h).mono ?_
    rintro e w1 ⟨rfl, hb⟩
    go_wp2_with fail
    go_ret
    exact ⟨rfl, hb⟩
set_option maxRecDepth 100000 in
theorem order_any (st a p we si : Int) (ha : I64 a) (hp : I64 p) (w : World) :
    Calls Try.prog 33 #[.agg #[.int .i64 st, .int .i64 a, .int .i64 p, .int .i64 we, .int .i64 si]] w fun e w' => e = .returned (.tuple #[.int .i64 (cAt a p), .int .i64 (cBy a p)]) ∧ Below w.heap.size w w' := by
  have W1 := hid (fun (A : Option Addr) (w : World) (h : Is w A 3 (fun j => [1, a, p].getD j 0)) => rwords_any 0 0 A 3 3 _ w h (isI3 (by unfold I64; decide) ha hp) (by omega))
  have W2 := hid (fun (A : Option Addr) (w : World) (h : Is w A 3 (fun j => [2, a, p].getD j 0)) => rwords_any 0 0 A 3 3 _ w h (isI3 (by unfold I64; decide) ha hp) (by omega))
  have hU1 := sumW_U 0 0 (fun j => [1, a, p].getD j 0) 3
  have hU2 := sumW_U 0 0 (fun j => [2, a, p].getD j 0) 3
  unfold cAt cBy S3
  generalize sumW 0 0 (fun j => [1, a, p].getD j 0) 3 = s1 at *
  generalize sumW 0 0 (fun j => [2, a, p].getD j 0) 3 = s2 at *
  obtain ⟨u1, u2⟩ := hU1
  obtain ⟨v1, v2⟩ := hU2
  go_enter Try.func33, Try.ntmps33
  go_upto_region 1 with (fail)
  have C0 := Ce.made (w := w) (l := [.int .i64 st, .int .i64 a, .int .i64 p, .int .i64 we, .int .i64 si]) (T := 25) (g := w.heap.size) rfl
  have B0 := (Below.refl w.heap.size w).alloc (Nat.le_refl _) (.cells #[.int .i64 st, .int .i64 a, .int .i64 p, .int .i64 we, .int .i64 si] 25)
  generalize w.alloc (.cells #[.int .i64 st, .int .i64 a, .int .i64 p, .int .i64 we, .int .i64 si] 25) = w1 at *
  have HC := hid C0
  have HB := hid B0
  have x1 := C0.2.1 1 _ rfl
  have x2 := C0.2.1 2 _ rfl
  clear C0 B0
  go_wp2_with fail
  refine (W1.out _ _ (row_at .i64 [1, a, p] rfl)).mono ?_
  rintro e w2 ⟨rfl, hb⟩
  clear x1 x2
  have HC2 := hid ((HC.out.alloc _).below hb)
  have HB2 := hid ((HB.out.alloc HB.out.size _).trans (hb.mono (by have := HB.out.size; simp; omega)))
  clear hb HC HB
  have x1 := HC2.out.2.1 1 _ rfl
  have x2 := HC2.out.2.1 2 _ rfl
  go_wp2_with fail
  refine (W2.out _ _ (row_at .i64 [2, a, p] rfl)).mono ?_
  rintro e w3 ⟨rfl, hb⟩
  have HB3 := hid ((HB2.out.alloc HB2.out.size _).trans (hb.mono (by have := HB2.out.size; simp; omega)))
  clear hb x1 x2 HC2 HB2
  go_wp2_with fail
  go_ret2
  exact ⟨rfl, HB3.out⟩
set_option maxRecDepth 100000 in
set_option maxHeartbeats 4000000 in
theorem pick_any (A : Option Addr) (c : Nat) (g : Nat → Int) (f : Fl) (hf : Fl.okI f) (w : World) (hr : Is w A 127 g) :
    Calls Try.prog 18 #[.slice A 127 c, flV f] w fun e w' => e = .returned (.int .i64 (g (pkW f).toNat)) ∧ Below w.heap.size w w' := by
  have HR := hid hr
  clear hr
  obtain ⟨fa, fp, ft, fq⟩ := f
  unfold flV
  simp only
  have W1 := hid (fun (A : Option Addr) (w : World) (h : Is w A 5 (fun j => [3, fa, fp, ft, fq].getD j 0)) => ask_any 127 (.inl rfl) A 5 5 _ w h (isI5 hf) (by omega))
  have hU1 := sumW_U 0 0 (fun j => [3, fa, fp, ft, fq].getD j 0) 5
  unfold pkW S5
  simp only
  generalize sumW 0 0 (fun j => [3, fa, fp, ft, fq].getD j 0) 5 = s1 at *
  obtain ⟨u1, u2⟩ := hU1
  obtain ⟨j, hj⟩ : ∃ j : Nat, s1 % 127 = j := ⟨(s1 % 127).toNat, by omega⟩
  have j1 : j < 127 := by omega
  have HJ := hid hj
  rw [hj] at W1 ⊢
  simp only [Int.toNat_natCast]
  clear hj
  go_enter Try.func18, Try.ntmps18
  go_upto_region 1 with (fail)
  have C0 := Ce.made (w := w) (l := [.int .i64 fa, .int .i64 fp, .int .i64 ft, .int .i64 fq]) (T := 39) (g := w.heap.size) rfl
  have B0 := (Below.refl w.heap.size w).alloc (Nat.le_refl _) (.cells #[.int .i64 fa, .int .i64 fp, .int .i64 ft, .int .i64 fq] 39)
  generalize w.alloc (.cells #[.int .i64 fa, .int .i64 fp, .int .i64 ft, .int .i64 fq] 39) = w1 at *
  have HB := hid B0
  have x0 := C0.2.1 0 _ rfl
  have x1 := C0.2.1 1 _ rfl
  have x2 := C0.2.1 2 _ rfl
  have x3 := C0.2.1 3 _ rfl
  clear C0 B0
  go_wp2_with fail
  refine (W1.out _ _ (row_at .i64 [3, fa, fp, ft, fq] rfl)).mono ?_
  rintro e w2 ⟨rfl, hb⟩
  clear x0 x1 x2 x3
  have HB2 := hid ((HB.out.alloc HB.out.size _).trans (hb.mono (by have := HB.out.size; simp; omega)))
  clear hb HB
  have R2 := Sl.below HR.out HB2.out (Nat.le_refl _)
  obtain ⟨bb, off, rfl⟩ := Sl.addr R2 (by omega)
  have xc := Sl.at_ R2 (j := j) j1
  clear R2
  have j2 : (j : Int) < 127 := by omega
  have j0 : (0 : Int) ≤ j := by omega
  go_wp2_with fail
  go_ret
  exact ⟨rfl, HB2.out⟩
set_option maxRecDepth 100000 in
set_option maxHeartbeats 4000000 in
theorem rpick_any (A : Option Addr) (c : Nat) (g : Nat → Int) (f : Fl) (hf : Fl.okI f) (w : World) (hr : Is w A 127 g) :
    Calls Try.prog 20 #[.slice A 127 c, flV f] w fun e w' => e = .returned (.int .i64 (g (pkW f).toNat)) ∧ Below w.heap.size w w' := by
  have HR := hid hr
  clear hr
  obtain ⟨fa, fp, ft, fq⟩ := f
  unfold flV
  simp only
  have W1 := hid (fun (A : Option Addr) (w : World) (h : Is w A 5 (fun j => [3, fa, fp, ft, fq].getD j 0)) => rwords_any 0 0 A 5 5 _ w h (isI5 hf) (by omega))
  have hU1 := sumW_U 0 0 (fun j => [3, fa, fp, ft, fq].getD j 0) 5
  unfold pkW S5
  simp only
  generalize sumW 0 0 (fun j => [3, fa, fp, ft, fq].getD j 0) 5 = s1 at *
  obtain ⟨u1, u2⟩ := hU1
  obtain ⟨j, hj⟩ : ∃ j : Nat, s1 % 127 = j := ⟨(s1 % 127).toNat, by omega⟩
  have j1 : j < 127 := by omega
  have HJ := hid hj
  rw [hj]
  simp only [Int.toNat_natCast]
  clear hj
  go_enter Try.func20, Try.ntmps20
  go_upto_region 1 with (fail)
  have C0 := Ce.made (w := w) (l := [.int .i64 fa, .int .i64 fp, .int .i64 ft, .int .i64 fq]) (T := 39) (g := w.heap.size) rfl
  have B0 := (Below.refl w.heap.size w).alloc (Nat.le_refl _) (.cells #[.int .i64 fa, .int .i64 fp, .int .i64 ft, .int .i64 fq] 39)
  generalize w.alloc (.cells #[.int .i64 fa, .int .i64 fp, .int .i64 ft, .int .i64 fq] 39) = w1 at *
  have HB := hid B0
  have x0 := C0.2.1 0 _ rfl
  have x1 := C0.2.1 1 _ rfl
  have x2 := C0.2.1 2 _ rfl
  have x3 := C0.2.1 3 _ rfl
  clear C0 B0
  go_wp2_with fail
  refine (W1.out _ _ (row_at .i64 [3, fa, fp, ft, fq] rfl)).mono ?_
  rintro e w2 ⟨rfl, hb⟩
  clear x0 x1 x2 x3
  have HB2 := hid ((HB.out.alloc HB.out.size _).trans (hb.mono (by have := HB.out.size; simp; omega)))
  clear hb HB
  have R2 := Sl.below HR.out HB2.out (Nat.le_refl _)
  obtain ⟨bb, off, rfl⟩ := Sl.addr R2 (by omega)
  have xc := Sl.at_ R2 (j := j) j1
  clear R2
  have j2 : (j : Int) < 127 := by omega
  have j0 : (0 : Int) ≤ j := by omega
  have e9 : s1 % 127 = j := HJ.out
  go_wp2_with fail
  go_ret
  exact ⟨rfl, HB2.out⟩
set_option maxRecDepth 100000 in
set_option maxHeartbeats 4000000 in
theorem share_any (A : Option Addr) (n c : Nat) (g : Nat → Int) (x : Int) (hx : I64 x) (w : World) (hr : Is w A n g) (hn : (n : Int) ≤ 4611686018427387904) :
    Calls Try.prog 21 #[.slice A n c, .int .i64 x] w fun e w' => e = .returned (.int .i64 (cnW g x n : Int)) ∧ w = w' := by
  have HR := hid hr
  clear hr
  go_enter Try.func21, Try.ntmps21
  go_wp2_with fail
  go_loop [5, 10] (fun s i => ∃ k : Nat, k ≤ n ∧ i = .int .i64 (k : Int) ∧ s = .int .i64 (cnW g x k : Int)) (fun _ i => n - (intOf i).toNat)
  case atStart => exact ⟨0, by omega, rfl, rfl⟩
  case round =>
    obtain ⟨k, hk, rfl, rfl⟩ := hrel
    have hle := cn_le g x k
    by_cases hlt : k < n
    · have i0 : (0 : Int) ≤ k := by omega
      have i1 : (k : Int) < n := by omega
      obtain ⟨bb, off, rfl⟩ := Sl.addr HR.out (by omega)
      have xc := Sl.at_ HR.out (j := k) hlt
      obtain ⟨y, hy⟩ : ∃ y, y = g k := ⟨_, rfl⟩
      rw [← hy] at xc
      have HS := hid (show cnW g x (k + 1) = cnW g x k + (if y = x then 1 else 0) from by rw [hy]; rfl)
      clear hy
      cases b1 : (y == x)
      · have hne : ¬ y = x := by simpa using b1
        have HS2 := hid (HS.out.trans (by rw [if_neg hne]))
        clear hne HS
        go_wp2_with fail
        go_round
        case rel => exact ⟨k + 1, by omega, by go_num, by rw [HS2.out]; rfl⟩
        case measure => simp [intOf]; omega
      · have hye : y = x := by simpa using b1
        have HS2 := hid (HS.out.trans (by rw [if_pos hye]))
        clear hye HS
        go_wp2_with fail
        go_round
        case rel => exact ⟨k + 1, by omega, by go_num, by rw [HS2.out]; go_num⟩
        case measure => simp [intOf]; omega
    · have e : k = n := by omega
      subst e
      go_wp2_with fail
      go_ret
      exact ⟨rfl, rfl⟩
set_option maxRecDepth 100000 in
set_option maxHeartbeats 4000000 in
theorem rshare_any (A : Option Addr) (n c : Nat) (g : Nat → Int) (x : Int) (hx : I64 x) (w : World) (hr : Is w A n g) (hn : (n : Int) ≤ 4611686018427387904) :
    Calls Try.prog 23 #[.slice A n c, .int .i64 x] w fun e w' => e = .returned (.int .i64 (cnW g x n : Int)) ∧ w = w' := by
  have HR := hid hr
  clear hr
  go_enter Try.func23, Try.ntmps23
  go_wp2_with fail
  go_loop [5, 6] (fun s i => ∃ k : Nat, k ≤ n ∧ i = .int .i64 (k : Int) ∧ s = .int .i64 (cnW g x k : Int)) (fun _ i => n - (intOf i).toNat)
  case atStart => exact ⟨0, by omega, rfl, rfl⟩
  case round =>
    obtain ⟨k, hk, rfl, rfl⟩ := hrel
    have hle := cn_le g x k
    by_cases hlt : k < n
    · have i0 : (0 : Int) ≤ k := by omega
      have i1 : (k : Int) < n := by omega
      obtain ⟨bb, off, rfl⟩ := Sl.addr HR.out (by omega)
      have xc := Sl.at_ HR.out (j := k) hlt
      obtain ⟨y, hy⟩ : ∃ y, y = g k := ⟨_, rfl⟩
      rw [← hy] at xc
      have HS := hid (show cnW g x (k + 1) = cnW g x k + (if y = x then 1 else 0) from by rw [hy]; rfl)
      clear hy
      cases b1 : (y == x)
      · have hne : ¬ y = x := by simpa using b1
        have HS2 := hid (HS.out.trans (by rw [if_neg hne]))
        clear hne HS
        go_wp2_with fail
        go_round
        case rel => exact ⟨k + 1, by omega, by go_num, by rw [HS2.out]; rfl⟩
        case measure => simp [intOf]; omega
      · have hye : y = x := by simpa using b1
        have HS2 := hid (HS.out.trans (by rw [if_pos hye]))
        clear hye HS
        go_wp2_with fail
        go_round
        case rel => exact ⟨k + 1, by omega, by go_num, by rw [HS2.out]; go_num⟩
        case measure => simp [intOf]; omega
    · have e : k = n := by omega
      subst e
      go_wp2_with fail
      go_ret
      exact ⟨rfl, rfl⟩
def sameW (f g : Nat → Int) (n : Nat) : Bool := (List.range n).all fun j => f j == g j
set_option maxRecDepth 100000 in
set_option maxHeartbeats 4000000 in
theorem same_any (A B : Option Addr) (n c d : Nat) (f g : Nat → Int) (w : World) (hr : Is w A n f) (hq : Is w B n g) (he : ∀ j, j < n → f j = g j) (hn : (n : Int) ≤ 4611686018427387904) :
    Calls Try.prog 17 #[.slice A n c, .slice B n d] w fun e w' => e = .returned (.bool true) ∧ Below w.heap.size w w' := by
  have HR := hid hr
  have HQ := hid hq
  clear hr hq
  go_enter Try.func17, Try.ntmps17
  go_wp2_with fail
  go_loopw [5] (fun i wr => ∃ k : Nat, k ≤ n ∧ i = .int .i64 (k : Int) ∧ Below w.heap.size w wr) (fun i _ => n - (intOf i).toNat)
  case atStart => exact ⟨0, by omega, rfl, Below.refl _ _⟩
  case round =>
    obtain ⟨k, hk, rfl, hb⟩ := hrel
    have HB := hid hb
    clear hb
    by_cases hlt : k < n
    · have i0 : (0 : Int) ≤ k := by omega
      have i1 : (k : Int) < n := by omega
      have R1 := Sl.below HR.out HB.out (Nat.le_refl _)
      have Q1 := Sl.below HQ.out HB.out (Nat.le_refl _)
      obtain ⟨b1, o1, rfl⟩ := Sl.addr R1 (by omega)
      obtain ⟨b2, o2, rfl⟩ := Sl.addr Q1 (by omega)
      have x1 := Sl.at_ R1 (j := k) hlt
      have x2 := Sl.at_ Q1 (j := k) hlt
      clear R1 Q1
      rw [← he k hlt] at x2
      go_upto_region 6 with (fail)
      go_quiet (fail)
      go_wp2_with fail
      go_roundw
      case rel => exact ⟨k + 1, by omega, by go_num, ⟨HB.out.os, HB.out.tape, HB.out.output, HB.out.size, HB.out.block⟩⟩
      case measure => simp [intOf]; omega
    · have e : k = n := by omega
      subst e
      go_wp2_with fail
      go_ret
      exact ⟨rfl, HB.out⟩
end Go.Proofs.Ytejlfbiehcfbgaa
