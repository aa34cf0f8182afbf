/- A fault's steps. -/
import Derived.Test.YteapnfdpkjbfhaaGreatGa
import Derived.Test.YteapnfdpkjbfhaaGreatPlRE
import Derived.BigQuiet
import Derived.Deep.RegionHeld3
import Derived.Deep.Cut
import Derived.IntWalk
namespace Go.Proofs.YteapnfdpkjbfhaaGreat
set_option linter.unusedVariables false
set_option linter.unusedSimpArgs false
open Go.RowKit Go.ChangeShapes Go.WideShapes Go.ChangeAt
theorem rea_parse {g : Nat → Int} {n : Nat} (hg : IsB g) (hp : parseE g n = 0) (h3 : g 0 = 3) {a : Int} (ha : 0 ≤ a ∧ a ≤ 4294967295) : parseE (reaF g n a) n = 0 ∧ reaF g n a 0 = 3 ∧ IsB (reaF g n a) := by
 obtain ⟨hE, hL⟩ := rea_E hg hp h3 ha
 have bd := rd_bd hg hp
 obtain ⟨_, _, l3, _⟩ := rd_len hg hp
 have hR : ∀ j, reaF g n a j = if j < 16 then builtF { parseR g n with dst := a } j else g j := fun j => rfl
 obtain ⟨x, hx⟩ : ∃ x : Pk, x = { parseR g n with dst := a } := ⟨_, rfl⟩
 have hgo : IsB x.go := by rw [hx]; exact bd.2.2.2.2.2.1
 have hgd : IsB x.gd := by rw [hx]; exact bd.2.2.2.2.2.2
 have hk : x.kind = 3 := by rw [hx]; exact l3.trans h3
 rw [← hx] at hE hL hR
 clear hx bd
 have hP := built_parseE hgd hgo hE
 rw [hL] at hP
 obtain ⟨q1, q2⟩ := parseE_0 hP
 obtain ⟨_, r2⟩ := parseE_0 hp
 have e0 : reaF g n a 0 = 3 := by rw [hR, if_pos (by omega), built_hd (by omega), raw_0, hk]
 refine ⟨?_, e0, fun j => ?_⟩
 ·unfold parseE
  rw [headE_ext (g := builtF x) (fun j hj => by rw [hR, if_pos hj]), if_pos q1, bodyE_ext (g := g) (e0.trans h3.symm) (by rw [hR, if_neg (by omega)]) (fun k => absurd h3 k) (fun k => absurd h3 k), r2]
 ·rw [hR]
  split
  ·exact builtF_B hgd hgo hE j
  ·exact hg j
theorem f_wr {g : Nat → Int} {n : Nat} {a m v : Int} (hp : parseE g n = 0) (h3 : g 0 = 3) (hm : m = 2 ∧ v ≤ 65535 ∨ m = 4 ∧ v ≤ 4294967295) (hv : 0 ≤ v) (ha : 24 ≤ a) (hL : a + m ≤ n) : wrE g n a m v = 0 := by
 have hk : sumA (g 0) = 18 := by unfold sumA; rw [if_pos h3]
 unfold wrE
 rw [if_neg (by rw [hp]; simp), if_pos]
 unfold mayB
 rw [hk]
 simp only [Bool.and_eq_true, Bool.or_eq_true, decide_eq_true_eq, beq_iff_eq]
 omega
/-- What a fault's three steps find. -/
theorem fau_steps {g : Nat → Int} {n : Nat} (hg : IsB g) (hp : parseE g n = 0) (h1 : 1 < g 1) (h3 : g 0 = 3) {a q : Int} (ha : 0 ≤ a ∧ a ≤ 4294967295) (hq : 0 ≤ q ∧ q ≤ 65535) :
 (parseE (ageF g) n = 0 ∧ ageF g 0 = 3 ∧ IsB (ageF g)) ∧ (IsB (reaF (ageF g) n a) ∧ wrE (reaF (ageF g) n a) n 24 4 a = 0) ∧ (IsB (wrF (reaF (ageF g) n a) n 24 4 a) ∧ wrE (wrF (reaF (ageF g) n a) n 24 4 a) n 36 2 q = 0) := by
 have n44 := ((rd_len hg hp).2.2.2.2.2.2.2.2 h3).1
 have A0 := tk_age (n := n) hp h1
 have A1 := age_parse hg A0
 have A2 := age_isB hg A0
 have A3 : ageF g 0 = 3 := tk_age0.trans h3
 obtain ⟨B1, B2, B3⟩ := rea_parse A2 A1 A3 ha
 have C1 : parseE (wrF (reaF (ageF g) n a) n 24 4 a) n = 0 := wr_parse (by omega) B1
 have C2 : wrF (reaF (ageF g) n a) n 24 4 a 0 = 3 := by rw [wr_out (by omega) (.inl (by have := sumA_or (reaF (ageF g) n a 0); omega)) (by omega), B2]
 exact ⟨⟨A1, A3, A2⟩, ⟨B3, f_wr B1 B2 (.inr ⟨rfl, ha.2⟩) ha.1 (by omega) (by omega)⟩, wr_B B3 _ _ _ _, f_wr C1 C2 (.inl ⟨rfl, hq.2⟩) hq.1 (by omega) (by omega)⟩
end Go.Proofs.YteapnfdpkjbfhaaGreat
