/- What Age keeps. -/
import Derived.Test.YtjljaecjnpmdoaaWirChg
import Derived.BigQuiet
import Derived.Deep.RegionHeld3
import Derived.Deep.Cut
namespace Go.Proofs.Ytjljaecjnpmdoaa
set_option linter.unusedVariables false
set_option linter.unusedSimpArgs false
open Go.RowKit Go.ChangeShapes Go.WideShapes Go.ChangeAt

theorem headE_of {x : Nat → Int} {n : Nat} (h16 : 16 ≤ n) (hk : isK (x 0) = true) (hp : pairF x n 2 = n) (hn : n ≤ 1500) (h13 : x 13 = 0) (ht : norm (tot x 16) = 65535) : headE x n = 0 := by
  unfold headE
  rw [if_neg (by omega), if_neg (by rw [hk]; decide), hp, h13, ht, if_neg (by simp; omega), if_neg (by decide)]
/-- A head whose sum is as good is right. -/
theorem head_same {g x : Nat → Int} {n : Nat} (hx : IsB x) (hg : IsB g) (h : headE g n = 0) (h0 : x 0 = g 0) (h2 : x 2 = g 2) (h3 : x 3 = g 3) (h13 : x 13 = g 13) (ht : tot x 16 % 65535 = tot g 16 % 65535) : headE x n = 0 := by
  obtain ⟨a1, a2, a3, a4, a5, a6⟩ := headE_0 h
  refine headE_of a1 (by rw [h0]; exact a2) (by rw [pairF_ext (x := x) (y := g) h2 (fun _ => h3) (by omega)]; exact a3) a4 (by rw [h13]; exact a5) ?_
  have k0 : x 0 ≠ 0 := by rw [h0]; unfold isK at a2; simp at a2; omega
  have g1 := (norm_right (tot_nonneg g hg 16)).1 a6
  exact (norm_right (tot_nonneg x hx 16)).2 ⟨tot_pos hx (j := 0) (by omega) k0, by rw [ht]; exact g1.2⟩
theorem sumF_ext {g x : Nat → Int} {n : Nat} (h0 : x 0 = g 0) (h4 : ∀ j, 4 ≤ j → j < 12 → x j = g j) (h16 : ∀ j, 16 ≤ j → x j = g j) : tot (sumF x n) (sumN x n) = tot (sumF g n) (sumN g n) := by
  have e1 : sumN x n = sumN g n := by unfold sumN; rw [h0]
  rw [e1]
  refine tot_ext _ _ _ fun j _ => ?_
  have e2 : endF x n = endF g n := by funext j; unfold endF; rw [h0]
  unfold sumF
  rw [h0, e2]
  by_cases k : g 0 = 3
  · rw [if_pos k, if_pos k]
    split
    · rfl
    · exact h16 _ (by omega)
  · rw [if_neg k, if_neg k]
    split
    · exact h4 _ (by omega) (by omega)
    · split
      · rfl
      · exact h16 _ (by omega)
theorem age_out {g : Nat → Int} {j : Nat} (h : j ≠ 1) (h' : j < 14 ∨ 16 ≤ j) : ageF g j = g j := by
  unfold ageF
  rw [putF_out h']
  unfold set1
  rw [if_neg h]
theorem ageE_0 {g : Nat → Int} {L : Nat} (h : ageE g L = 0) : parseE g L = 0 ∧ 1 < g 1 := by
  unfold ageE at h
  split at h
  · contradiction
  · rename_i hp
    split at h
    · cases h
    · exact ⟨by simpa using hp, by omega⟩
theorem age_tot {g : Nat → Int} (hg : IsB g) (h1 : 1 < g 1) : tot (ageF g) 16 % 65535 = tot g 16 % 65535 := by
  have hx : IsB (set1 g 1 (g 1 - 1)) := fun j => by have := hg 1; unfold set1; split; omega; exact hg j
  have b1 := num2_bd hg 14
  have b2 := num2_bd hg 0
  have b3 := num2_bd hx 0
  have ht := turn_bd (num g 14 2) (num g 0 2) (num (set1 g 1 (g 1 - 1)) 0 2) b1.1 b1.2 b2.1 b2.2 b3.1 b3.2
  have hm := turn_mod (num g 14 2) (num g 0 2) (num (set1 g 1 (g 1 - 1)) 0 2)
  have e := tot_put2 (set1 g 1 (g 1 - 1)) 7 (turn (num g 14 2) (num g 0 2) (num (set1 g 1 (g 1 - 1)) 0 2)) ht.1 ht.2 16 (by omega)
  have e1 := tot_set1 g 1 (g 1 - 1) 16 (by omega)
  have e2 : num (set1 g 1 (g 1 - 1)) (2 * 7) 2 = num g 14 2 := num_ext fun j h1 h2 => by unfold set1; rw [if_neg (by omega)]
  have e3 : num (set1 g 1 (g 1 - 1)) 0 2 = num g 0 2 - 1 := by rw [num_2, num_2, Nat.zero_add]; unfold set1; rw [if_neg (by omega), if_pos rfl]; omega
  rw [if_neg (by decide)] at e1
  unfold ageF
  rw [show putF (set1 g 1 (g 1 - 1)) 14 2 (turn (num g 14 2) (num g 0 2) (num (set1 g 1 (g 1 - 1)) 0 2)) = putF (set1 g 1 (g 1 - 1)) (2 * 7) 2 (turn (num g 14 2) (num g 0 2) (num (set1 g 1 (g 1 - 1)) 0 2)) from rfl, e, e1, e2]
  rw [e3] at hm ⊢
  omega
theorem age_isB {g : Nat → Int} {L : Nat} (hg : IsB g) (h : ageE g L = 0) : IsB (ageF g) := by
  have h1 := (ageE_0 h).2
  have h2 := hg 1
  unfold ageF
  exact putF_B (fun j => by unfold set1; split; omega; exact hg j) _ _ _
theorem age_parse {g : Nat → Int} {L : Nat} (hg : IsB g) (h : ageE g L = 0) : parseE (ageF g) L = 0 := by
  obtain ⟨hp, h1⟩ := ageE_0 h
  obtain ⟨p1, p2⟩ := parseE_0 hp
  unfold parseE
  rw [head_same (age_isB hg h) hg p1 (age_out (by omega) (by omega)) (age_out (by omega) (by omega)) (age_out (by omega) (by omega)) (age_out (by omega) (by omega)) (age_tot hg h1), if_pos rfl,
    bodyE_ext (g := g) (age_out (by omega) (by omega)) (age_out (by omega) (by omega)) (fun _ => age_out (by omega) (by omega)) (fun _ => age_out (by omega) (by omega)), p2]
theorem age_whole {g : Nat → Int} {L : Nat} (hg : IsB g) (h : ageE g L = 0) : wholeB (ageF g) L = wholeB g L := by
  obtain ⟨hp, h1⟩ := ageE_0 h
  have pf := parse_facts hp
  exact wholeB_of hg (age_isB hg h) (age_out (by omega) (by omega)) pf.2.2.1 pf.1 (age_parse hg h) hp (bare_ext (age_out (by omega) (by omega)) (age_out (by omega) (by omega)) (age_out (by omega) (by omega)))
    (fun _ => by rw [sumF_ext (age_out (by omega) (by omega)) (fun j h1 h2 => age_out (by omega) (by omega)) (fun j h1 => age_out (by omega) (by omega))])
/-- Behind Age all is as it was, but life, one less. -/
theorem age_read {g : Nat → Int} {L : Nat} (hg : IsB g) (h : ageE g L = 0) : Pe (parseR (ageF g) L) { parseR g L with life := g 1 - 1 } := by
  obtain ⟨hp, h1⟩ := ageE_0 h
  have o : ∀ j, j ≠ 1 → (j < 14 ∨ 16 ≤ j) → ageF g j = g j := fun j a b => age_out a b
  have n4 : num (ageF g) 4 4 = num g 4 4 := num_ext fun j a b => o j (by omega) (by omega)
  have n8 : num (ageF g) 8 4 = num g 8 4 := num_ext fun j a b => o j (by omega) (by omega)
  have n16 : num (ageF g) 16 2 = num g 16 2 := num_ext fun j a b => o j (by omega) (by omega)
  have n18 : num (ageF g) 18 2 = num g 18 2 := num_ext fun j a b => o j (by omega) (by omega)
  have n20 : num (ageF g) 20 2 = num g 20 2 := num_ext fun j a b => o j (by omega) (by omega)
  have n22 : num (ageF g) 22 2 = num g 22 2 := num_ext fun j a b => o j (by omega) (by omega)
  have e1 : ageF g 1 = g 1 - 1 := by unfold ageF; rw [putF_out (by omega)]; unfold set1; rw [if_pos rfl]
  unfold parseR
  rw [age_parse hg h, hp, if_pos rfl, if_pos rfl]
  unfold parseP
  rw [o 0 (by omega) (by omega), o 12 (by omega) (by omega), o 16 (by omega) (by omega), o 20 (by omega) (by omega), o 21 (by omega) (by omega), n4, n8, n16, n18, n20, n22, e1]
  split
  · exact ⟨rfl, rfl, rfl, rfl, rfl, rfl, rfl, rfl, rfl, rfl, rfl, rfl, fun _ _ => rfl, rfl, fun j _ => o _ (by omega) (by omega)⟩
  · split
    · exact ⟨rfl, rfl, rfl, rfl, rfl, rfl, rfl, rfl, rfl, rfl, rfl, rfl, fun _ _ => rfl, rfl, fun j _ => o _ (by omega) (by omega)⟩
    · exact ⟨rfl, rfl, rfl, rfl, rfl, rfl, rfl, rfl, rfl, rfl, rfl, rfl, fun j _ => o _ (by omega) (by omega), rfl, fun j _ => o _ (by omega) (by omega)⟩
end Go.Proofs.Ytjljaecjnpmdoaa
