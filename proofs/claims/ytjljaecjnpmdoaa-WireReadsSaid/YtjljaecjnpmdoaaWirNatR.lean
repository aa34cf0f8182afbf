/- What Nat's packet is read as. -/
import Derived.Test.YtjljaecjnpmdoaaWirNatK
import Derived.BigQuiet
import Derived.Deep.RegionHeld3
import Derived.Deep.Cut
namespace Go.Proofs.Ytjljaecjnpmdoaa
set_option linter.unusedVariables false
set_option linter.unusedSimpArgs false
open Go.RowKit Go.ChangeShapes Go.WideShapes Go.ChangeAt

theorem inR_bd {x n : Int} (h : inR x n = true) : 0 ≤ x ∧ x ≤ n := by unfold inR at h; simpa using h
/-- Behind Nat the packet is the same, but for where it is from, or goes. -/
theorem nat_read {g : Nat → Int} {L : Nat} {s : Bool} {ad po : Int} (hg : IsB g) (h : natE g L ad po = 0) : Pe (parseR (natF g L s ad po) L) (if s = true then { parseR g L with src := ad, fp := po } else { parseR g L with dst := ad, tp := po }) := by
  obtain ⟨hp, h3, ra, rp⟩ := natE_0 h
  have ha := inR_bd ra
  have hpo := inR_bd rp
  have haa := aA_or s
  have o : ∀ j, (j < 14 ∨ 16 ≤ j) → (j < 22 ∨ 24 ≤ j) → natF g L s ad po j = natP g s ad po j := fun j a b => nat_at a b
  have q : ∀ j, (j < 4 ∨ j = 12 ∨ j = 13 ∨ (20 ≤ j ∧ j < 22) ∨ 24 ≤ j) → natF g L s ad po j = g j := fun j hj => by rw [o j (by omega) (by omega), natP_out (by omega) (by omega)]
  have nm : ∀ a n, (a + n ≤ 14 ∨ 16 ≤ a) → (a + n ≤ 22 ∨ 24 ≤ a) → num (natF g L s ad po) a n = num (natP g s ad po) a n := fun a n h1 h2 => num_ext fun j a b => o j (by omega) (by omega)
  have nl : num (natF g L s ad po) 20 2 = num g 20 2 := num_ext fun j a b => q j (by omega)
  have hbr := nat_bare (g := g) (L := L) (s := s) (ad := ad) (po := po)
  have e0 : natF g L s ad po 0 = g 0 := q 0 (by omega)
  have hbare : g 0 = 2 → (num (natF g L s ad po) 22 2 == 0) = (num g 22 2 == 0) := fun h2 => by
    unfold bareF at hbr
    rw [e0, h2] at hbr
    simpa using hbr
  have hnum : num (natF g L s ad po) 4 4 = (if s = true then ad else num g 4 4) ∧ num (natF g L s ad po) 8 4 = (if s = true then num g 8 4 else ad) ∧ num (natF g L s ad po) 16 2 = (if s = true then po else num g 16 2) ∧ num (natF g L s ad po) 18 2 = (if s = true then num g 18 2 else po) := by
    rw [nm 4 4 (by omega) (by omega), nm 8 4 (by omega) (by omega), nm 16 2 (by omega) (by omega), nm 18 2 (by omega) (by omega)]
    cases s
    · have e : natP g false ad po = putF (putF g 8 4 ad) 18 2 po := rfl
      rw [e, num_out (by omega), num_out (by omega), num_out (by omega), num_put4 ha.1 ha.2, num_out (by omega), num_out (by omega), num_put2 hpo.1 hpo.2]
      exact ⟨rfl, rfl, rfl, rfl⟩
    · have e : natP g true ad po = putF (putF g 4 4 ad) 16 2 po := rfl
      rw [e, num_out (by omega), num_put4 ha.1 ha.2, num_out (by omega), num_out (by omega), num_put2 hpo.1 hpo.2, num_out (by omega), num_out (by omega)]
      exact ⟨rfl, rfl, rfl, rfl⟩
  obtain ⟨n4, n8, n16, n18⟩ := hnum
  have e : parseR (natF g L s ad po) L = parseP (natF g L s ad po) L := by unfold parseR; rw [nat_parse hg h, if_pos rfl]
  have e' : parseR g L = parseP g L := by unfold parseR; rw [hp, if_pos rfl]
  rw [e, e']
  unfold parseP
  rw [e0, if_neg h3, if_neg h3, q 1 (by omega), q 12 (by omega), q 20 (by omega), q 21 (by omega), n4, n8, n16, n18, nl]
  by_cases h2 : g 0 = 2
  · rw [if_pos h2, if_pos h2, hbare h2]
    cases s
    · exact ⟨rfl, rfl, rfl, rfl, rfl, rfl, rfl, rfl, rfl, rfl, rfl, rfl, fun _ _ => rfl, rfl, fun j _ => q _ (by omega)⟩
    · exact ⟨rfl, rfl, rfl, rfl, rfl, rfl, rfl, rfl, rfl, rfl, rfl, rfl, fun _ _ => rfl, rfl, fun j _ => q _ (by omega)⟩
  · rw [if_neg h2, if_neg h2]
    cases s
    · exact ⟨rfl, rfl, rfl, rfl, rfl, rfl, rfl, rfl, rfl, rfl, rfl, rfl, fun j _ => q _ (by omega), rfl, fun j _ => q _ (by omega)⟩
    · exact ⟨rfl, rfl, rfl, rfl, rfl, rfl, rfl, rfl, rfl, rfl, rfl, rfl, fun j _ => q _ (by omega), rfl, fun j _ => q _ (by omega)⟩
end Go.Proofs.Ytjljaecjnpmdoaa
