/- The reference's Parse. -/
import Derived.Test.YteapnfdpkjbfhaaGreatGa
import Derived.Test.YteapnfdpkjbfhaaGreatGwb
import Derived.BigQuiet
import Derived.Deep.RegionHeld3
import Derived.Deep.Cut
namespace Go.Proofs.YteapnfdpkjbfhaaGreat
set_option linter.unusedVariables false
set_option linter.unusedSimpArgs false
open Go.RowKit Go.ChangeShapes Go.WideShapes Go.ChangeAt
theorem kind_3 {x : Int} (h : isK x = true) : x = 1 ∨ x = 2 ∨ x = 3 := by unfold isK at h; simp at h; omega
theorem parseE_head {g : Nat → Int} {n : Nat} (e : Int) (h : headE g n = e) (he : e ≠ 0) : parseE g n = e := by unfold parseE; rw [h, if_neg he]
set_option maxRecDepth 100000 in
set_option maxHeartbeats 8000000 in
theorem rparse_no (A : Option Addr) (n c : Nat) (g : Nat → Int) (w : World) (h : By w A n g) (hg : IsB g) (hc : n ≤ c) (hb : n ≤ 1000000) (hne : headE g n ≠ 0 ∧ headE g n ≠ 4) :
 Calls Tryz.prog 16 #[.slice A n c] w (Parsed w g n) := by
 have hz : ∀ w : World, (zeroValue 39).run Tryz.prog w = .ok (.agg #[.int .i64 0, .int .i64 0, .int .i64 0, .int .i64 0, .int .i64 0, .int .i64 0, .int .i64 0, .int .i64 0, .int .i64 0, .bool false, .int .i64 0, .slice none 0 0, .slice none 0 0]) w := fun w => by kernel_rfl
 by_cases h16 : n < 16
 ·have i1 : (n : Int) < 16 := by omega
  have hE : parseE g n = 1 := parseE_head 1 (by unfold headE; rw [if_pos h16]) (by decide)
  have HR : Hid (parseR g n = {}) := hid (by unfold parseR; rw [hE, if_neg (by decide)])
  have HE := hid hE
  clear hE
  clear h h16 hne
  go_enter Tryz.func16, Tryz.ntmps16
  go_wp2_with fail
  refine bodyPost_ret (v := .tuple #[pkV {} (.slice none 0 0) (.slice none 0 0), .int .i64 1]) (by simp [results, Tryz.results16, go_sem, pkV, pkL]) rfl ?_
  exact ⟨.slice none 0 0, .slice none 0 0, by rw [HR.out, HE.out], by rw [HR.out]; exact OB.nil, by rw [HR.out]; exact OB.nil, (Below.refl _ _).alloc (Nat.le_refl _) _⟩
 ·have i1 : ¬ (n : Int) < 16 := by omega
  have gb := hg 0
  obtain ⟨gb0, gb1⟩ := gb
  have HN := hid (fun (w' : World) (h' : By w' A n g) => rnum_any A n c g w' h' hg 2 2 (by omega) (by omega) hb)
  have hA := hid (h.below ((Below.refl w.heap.size w).alloc (Nat.le_refl _) (.cells #[.int .i64 0, .int .i64 0, .int .i64 0, .int .i64 0, .int .i64 0, .int .i64 0, .int .i64 0, .int .i64 0, .int .i64 0, .bool false, .int .i64 0, .slice none 0 0, .slice none 0 0] 39)) (Nat.le_refl _))
  obtain ⟨b, off, rfl, hblt, hcell⟩ := hA.out (by omega)
  have c0 := hcell 0 (by omega)
  have c13 := hcell 13 (by omega)
  rw [Nat.add_zero] at c0
  have i2 : (0 : Int) < n := by omega
  have i3 : (13 : Int) < n := by omega
  clear hcell h
  cases b0 : isK (g 0)
  ·have hk : g 0 < 1 ∨ 3 < g 0 := by unfold isK at b0; simp at b0; omega
   have hE : parseE g n = 2 := parseE_head 2 (by unfold headE; rw [if_neg h16, if_pos b0]) (by decide)
   have HR : Hid (parseR g n = {}) := hid (by unfold parseR; rw [hE, if_neg (by decide)])
   have HE := hid hE
   clear hE
   clear h16 b0 hne
   rcases hk with hk | hk
   ·go_enter Tryz.func16, Tryz.ntmps16
    go_wp2_with fail
    refine bodyPost_ret (v := .tuple #[pkV {} (.slice none 0 0) (.slice none 0 0), .int .i64 2]) (by simp [results, Tryz.results16, go_sem, pkV, pkL]) rfl ?_
    exact ⟨.slice none 0 0, .slice none 0 0, by rw [HR.out, HE.out], by rw [HR.out]; exact OB.nil, by rw [HR.out]; exact OB.nil, (Below.refl _ _).alloc (Nat.le_refl _) _⟩
   ·have hk2 : ¬ g 0 < 1 := by omega
    go_enter Tryz.func16, Tryz.ntmps16
    go_wp2_with fail
    refine bodyPost_ret (v := .tuple #[pkV {} (.slice none 0 0) (.slice none 0 0), .int .i64 2]) (by simp [results, Tryz.results16, go_sem, pkV, pkL]) rfl ?_
    exact ⟨.slice none 0 0, .slice none 0 0, by rw [HR.out, HE.out], by rw [HR.out]; exact OB.nil, by rw [HR.out]; exact OB.nil, (Below.refl _ _).alloc (Nat.le_refl _) _⟩
  ·have hp : pairF g n 2 = num g 2 2 := by unfold pairF; rw [if_neg (by omega)]
   have hx : headE g n = if ((num g 2 2 != (n : Int)) || decide (1500 < (n : Int)) || (g 13 != 0)) = true then 3 else if (norm (tot g 16) == 65535) = false then 4 else 0 := by
    unfold headE; rw [if_neg h16, if_neg (by simp [b0]), hp]
   have hk := kind_3 b0
   have k1 : ¬ g 0 < 1 := by omega
   have k2 : ¬ 3 < g 0 := by omega
   obtain ⟨p, hpp⟩ : ∃ p, p = num g 2 2 := ⟨_, rfl⟩
   rw [← hpp] at HN hx
   clear hpp hp h16 b0 hk
   cases b1 : (p != (n : Int)) <;> cases b2 : decide (1500 < (n : Int)) <;> cases b3 : (g 13 != 0)
   ·exfalso
    rw [b1, b2, b3] at hx
    simp only [Bool.false_or, Bool.false_eq_true, if_false] at hx
    split at hx
    ·exact hne.2 hx
    ·exact hne.1 hx
   all_goals
    have hE : parseE g n = 3 := parseE_head 3 (by rw [hx, b1, b2, b3]; rfl) (by decide)
    have HR : Hid (parseR g n = {}) := hid (by unfold parseR; rw [hE, if_neg (by decide)])
    have HE := hid hE
    clear hE hx hne
    go_enter Tryz.func16, Tryz.ntmps16
    go_wp2_with fail
    refine (HN.out _ hA.out).mono ?_
    rintro x w' ⟨rfl, rfl⟩
    go_wp2_with fail
    refine bodyPost_ret (v := .tuple #[pkV {} (.slice none 0 0) (.slice none 0 0), .int .i64 3]) (by simp [results, Tryz.results16, go_sem, pkV, pkL]) rfl ?_
    exact ⟨.slice none 0 0, .slice none 0 0, by rw [HR.out, HE.out], by rw [HR.out]; exact OB.nil, by rw [HR.out]; exact OB.nil, (Below.refl _ _).alloc (Nat.le_refl _) _⟩
end Go.Proofs.YteapnfdpkjbfhaaGreat
