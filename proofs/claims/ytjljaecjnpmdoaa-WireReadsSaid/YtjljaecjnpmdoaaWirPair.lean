/- Pairs, small tests. -/
import Derived.Test.YtjljaecjnpmdoaaWirNum
import Derived.BigQuiet
import Derived.Deep.RegionHeld3
import Derived.Deep.Cut
namespace Go.Proofs.Ytjljaecjnpmdoaa
set_option linter.unusedVariables false
set_option linter.unusedSimpArgs false
open Go.RowKit Go.ChangeShapes Go.WideShapes Go.ChangeAt

/-- Two bytes; behind the last one a 0 stands. -/
def pairF (g : Nat → Int) (n a : Nat) : Int := if a + 1 = n then g a * 256 else num g a 2
theorem pairF_bd {g : Nat → Int} (hg : IsB g) (n a : Nat) : 0 ≤ pairF g n a ∧ pairF g n a ≤ 65535 := by
  unfold pairF
  split
  · have := hg a; omega
  · have h := num_bd hg a 2
    have h2 : (256 : Int) ^ 2 = 65536 := by decide
    omega
theorem pair_any_ (A : Option Addr) (n c : Nat) (g : Nat → Int) (w : World) (h : By w A n g) (hg : IsB g) (a : Nat) (ha : a < n) (hn : n ≤ c) (hb : n ≤ 1000000) :
    Calls Try.prog 49 #[.slice A n c, .int .i64 a] w fun e w' => e = .returned (.int .i64 (pairF g n a)) ∧ w = w' := by
  have q1 : IntKind.i64.wrap ((a : Int) + 1) = (a : Int) + 1 := IntWalk.i64_in _ (by omega)
  have q2 : IntKind.i64.wrap ((a : Int) + 2) = (a : Int) + 2 := IntWalk.i64_in _ (by omega)
  have i0 : (0 : Int) ≤ a := by omega
  have i1 : (a : Int) < n := by omega
  by_cases e : a + 1 = n
  · have he : ((a : Int) + 1 == n) = true := by simp; omega
    obtain ⟨b, off, rfl, hblt, hcell⟩ := h (by omega)
    have c1 := hcell a ha
    have gb := hg a
    obtain ⟨g0, g1⟩ := gb
    have HF : Hid (pairF g n a = g a * 256) := hid (by unfold pairF; rw [if_pos e])
    clear hcell h e
    go_enter Try.func49, Try.ntmps49
    go_wp2_with fail
    go_ret
    exact ⟨ret_i64 HF.out.symm, rfl⟩
  · have he : ((a : Int) + 1 == n) = false := by simp; omega
    obtain ⟨A', r1, r2⟩ := cut_mid_b A n c a (a + 2) (by omega) (by omega) hn (a : Int) ((a : Int) + 2) rfl (by omega)
    rw [show a + 2 - a = 2 from by omega] at r1 r2
    have HB := hid (r2 w g h)
    have HF : Hid (pairF g n a = num (fun j => g (a + j)) 0 2) := hid (by unfold pairF; rw [if_neg e, num_shift]; rfl)
    have HG : Hid (IsB (fun j => g (a + j))) := hid (fun j => hg _)
    clear r2 h e
    go_enter Try.func49, Try.ntmps49
    go_wp2_with fail
    refine (number_any A' 2 (c - a) _ _ HB.out HG.out (by omega)).mono ?_
    rintro x w' ⟨rfl, rfl⟩
    go_wp2_with fail
    go_ret
    exact ⟨ret_i64 HF.out.symm, rfl⟩
theorem rpair_any_ (A : Option Addr) (n c : Nat) (g : Nat → Int) (w : World) (h : By w A n g) (hg : IsB g) (a : Nat) (ha : a < n) (hb : n ≤ 1000000) :
    Calls Try.prog 57 #[.slice A n c, .int .i64 a] w fun e w' => e = .returned (.int .i64 (pairF g n a)) ∧ w = w' := by
  have q1 : IntKind.i64.wrap ((a : Int) + 1) = (a : Int) + 1 := IntWalk.i64_in _ (by omega)
  have i0 : (0 : Int) ≤ a := by omega
  have i1 : (a : Int) < n := by omega
  by_cases e : a + 1 = n
  · have he : ¬ (a : Int) + 1 < n := by omega
    obtain ⟨b, off, rfl, hblt, hcell⟩ := h (by omega)
    have c1 := hcell a ha
    have gb := hg a
    obtain ⟨g0, g1⟩ := gb
    have HF : Hid (pairF g n a = g a * 256) := hid (by unfold pairF; rw [if_pos e])
    clear hcell h e
    go_enter Try.func57, Try.ntmps57
    go_wp2_with fail
    go_ret
    exact ⟨ret_i64 HF.out.symm, rfl⟩
  · have he : (a : Int) + 1 < n := by omega
    have HF : Hid (pairF g n a = num g a 2) := hid (by unfold pairF; rw [if_neg e])
    have HN := hid (rnum_any A n c g w h hg a 2 (by omega) (by omega) hb)
    clear h e
    go_enter Try.func57, Try.ntmps57
    go_wp2_with fail
    refine HN.out.mono ?_
    rintro x w' ⟨rfl, rfl⟩
    go_wp2_with fail
    go_ret
    exact ⟨ret_i64 HF.out.symm, rfl⟩
def inR (n m : Int) : Bool := decide (0 ≤ n) && decide (n ≤ m)
theorem wwithin_any (n m : Int) (w : World) : Calls Try.prog 59 #[.int .i64 n, .int .i64 m] w fun e w' => e = .returned (.bool (inR n m)) ∧ w = w' := by
  unfold inR
  cases h1 : decide (0 ≤ n) <;> cases h2 : decide (n ≤ m)
  all_goals
    go_enter Try.func59, Try.ntmps59
    go_wp2
    go_ret
    exact ⟨rfl, rfl⟩
theorem rout_any (n m : Int) (w : World) : Calls Try.prog 41 #[.int .i64 n, .int .i64 m] w fun e w' => e = .returned (.bool (!inR n m)) ∧ w = w' := by
  unfold inR
  cases h1 : decide (n < 0) <;> cases h2 : decide (m < n)
  · have e1 : decide (0 ≤ n) = true := by simp at h1 ⊢; omega
    have e2 : decide (n ≤ m) = true := by simp at h2 ⊢; omega
    rw [e1, e2]
    clear e1 e2
    go_enter Try.func41, Try.ntmps41
    go_wp2
    go_ret
    exact ⟨rfl, rfl⟩
  · have e1 : decide (0 ≤ n) = true := by simp at h1 ⊢; omega
    have e2 : decide (n ≤ m) = false := by simp at h2 ⊢; omega
    rw [e1, e2]
    clear e1 e2
    go_enter Try.func41, Try.ntmps41
    go_wp2
    go_ret
    exact ⟨rfl, rfl⟩
  all_goals
    have e1 : decide (0 ≤ n) = false := by simp at h1 ⊢; omega
    rw [e1]
    clear e1
    go_enter Try.func41, Try.ntmps41
    go_wp2
    go_ret
    exact ⟨rfl, rfl⟩
def isK (k : Int) : Bool := decide (1 ≤ k) && decide (k ≤ 3)
theorem iskind_any (k : Int) (w : World) : Calls Try.prog 61 #[.int .i64 k] w fun e w' => e = .returned (.bool (isK k)) ∧ w = w' := by
  unfold isK
  cases h1 : decide (1 ≤ k) <;> cases h2 : decide (k ≤ 3)
  all_goals
    go_enter Try.func61, Try.ntmps61
    go_wp2
    go_ret
    exact ⟨rfl, rfl⟩
def sumA (k : Int) : Nat := if k = 3 then 18 else 22
theorem place_any (k : Int) (w : World) : Calls Try.prog 44 #[.int .i64 k] w fun e w' => e = .returned (.int .i64 (sumA k : Int)) ∧ w = w' := by
  unfold sumA
  cases h1 : (k == 3)
  · rw [if_neg (by simpa using h1)]
    go_enter Try.func44, Try.ntmps44
    go_wp2
    go_ret
    exact ⟨rfl, rfl⟩
  · rw [if_pos (by simpa using h1)]
    go_enter Try.func44, Try.ntmps44
    go_wp2
    go_ret
    exact ⟨rfl, rfl⟩
theorem sumat_any (A : Option Addr) (n c : Nat) (g : Nat → Int) (w : World) (h : By w A n g) (hn : 0 < n) :
    Calls Try.prog 38 #[.slice A n c] w fun e w' => e = .returned (.int .i64 (sumA (g 0) : Int)) ∧ w = w' := by
  obtain ⟨b, off, rfl, hblt, hcell⟩ := h hn
  have c1 := hcell 0 hn
  have i1 : (0 : Int) < n := by omega
  rw [Nat.add_zero] at c1
  clear hcell h
  unfold sumA
  cases h1 : (g 0 == 3)
  · rw [if_neg (by simpa using h1)]
    go_enter Try.func38, Try.ntmps38
    go_wp2
    go_ret
    exact ⟨rfl, rfl⟩
  · rw [if_pos (by simpa using h1)]
    go_enter Try.func38, Try.ntmps38
    go_wp2
    go_ret
    exact ⟨rfl, rfl⟩
/-- A gram without a sum. -/
def bareF (g : Nat → Int) : Bool := g 0 == 2 && num g 22 2 == 0
theorem isbare_any (A : Option Addr) (n c : Nat) (g : Nat → Int) (w : World) (h : By w A n g) (hg : IsB g) (hn : 0 < n) (hk : g 0 = 3 ∨ 24 ≤ n) (hc : n ≤ c) (hb : n ≤ 1000000) :
    Calls Try.prog 50 #[.slice A n c] w fun e w' => e = .returned (.bool (bareF g)) ∧ w = w' := by
  unfold bareF
  have HP := hid (fun h24 : 24 ≤ n => pair_any_ A n c g w h hg 22 (by omega) hc hb)
  obtain ⟨b, off, rfl, hblt, hcell⟩ := h hn
  have c1 := hcell 0 hn
  have i1 : (0 : Int) < n := by omega
  rw [Nat.add_zero] at c1
  clear hcell h
  cases h1 : (g 0 == 2)
  · rw [Bool.false_and]
    clear hk
    go_enter Try.func50, Try.ntmps50
    go_wp2
    go_ret
    exact ⟨rfl, rfl⟩
  · have h24 : 24 ≤ n := by
      rcases hk with h3 | h3
      · rw [h3] at h1; cases h1
      · exact h3
    have HF : Hid (pairF g n 22 = num g 22 2) := hid (by unfold pairF; rw [if_neg (by omega)])
    have HP2 := HP.out h24
    rw [HF.out] at HP2
    replace HP2 := hid HP2
    clear hk HP HF
    go_enter Try.func50, Try.ntmps50
    go_wp2_with fail
    refine HP2.out.mono ?_
    rintro x w' ⟨rfl, rfl⟩
    go_wp2
    go_ret
    exact ⟨rfl, rfl⟩
theorem rbare_any (A : Option Addr) (n c : Nat) (g : Nat → Int) (w : World) (h : By w A n g) (hg : IsB g) (hn : 0 < n) (hk : g 0 = 3 ∨ 24 ≤ n) (hb : n ≤ 1000000) :
    Calls Try.prog 55 #[.slice A n c] w fun e w' => e = .returned (.bool (bareF g)) ∧ w = w' := by
  unfold bareF
  have HP := hid (fun h24 : 24 ≤ n => rnum_any A n c g w h hg 22 2 (by omega) (by omega) hb)
  obtain ⟨b, off, rfl, hblt, hcell⟩ := h hn
  have c1 := hcell 0 hn
  have i1 : (0 : Int) < n := by omega
  rw [Nat.add_zero] at c1
  clear hcell h
  cases h1 : (g 0 == 2)
  · rw [Bool.false_and]
    clear hk
    go_enter Try.func55, Try.ntmps55
    go_wp2
    go_ret
    exact ⟨rfl, rfl⟩
  · have h24 : 24 ≤ n := by
      rcases hk with h3 | h3
      · rw [h3] at h1; cases h1
      · exact h3
    have HP2 := hid (HP.out h24)
    clear hk HP
    go_enter Try.func55, Try.ntmps55
    go_wp2_with fail
    refine HP2.out.mono ?_
    rintro x w' ⟨rfl, rfl⟩
    go_wp2
    go_ret
    exact ⟨rfl, rfl⟩
end Go.Proofs.Ytjljaecjnpmdoaa
