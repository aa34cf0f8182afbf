/- Plain lemmas for the laws of packets. -/
import Derived.Test.YtjfopkbpaekejaaGreatGa
import Derived.Test.YtjfopkbpaekejaaGreatGwb
import Derived.Test.YtjfopkbpaekejaaGreatGwc
import Derived.BigQuiet
import Derived.Deep.RegionHeld3
import Derived.Deep.Cut
namespace Go.Proofs.YtjfopkbpaekejaaGreat
set_option linter.unusedVariables false
set_option linter.unusedSimpArgs false
open Go.RowKit Go.ChangeShapes Go.WideShapes Go.ChangeAt

theorem wr_in {g : Nat → Int} {L a m : Nat} {v : Int} {j : Nat} (h : a ≤ j) (ha : 24 ≤ a) : wrF g L a m v j = putF g a m v j := by
  have hA := (sumA_even (g 0)).choose_spec
  unfold wrF
  split
  · rfl
  · have e0 : tbody (sumA (g 0)) L g ((m + a % 2 + 1) / 2) (a - a % 2) (putF g a m v) 0 = g 0 := by rw [tbody_out (by omega), putF_out (by omega)]
    by_cases k2 : g 0 = 2
    · rw [fillF_out (by omega), tbody_out (by omega)]
    · rw [fillF_3 (by rw [e0]; exact k2), tbody_out (by omega)]
theorem wr_num {g : Nat → Int} {L a m : Nat} {v : Int} (ha : 24 ≤ a) (hm : m = 1 ∨ m = 2 ∨ m = 4) (hv : 0 ≤ v) (hv' : v ≤ 255) : num (wrF g L a m v) a m = v := by
  rw [num_ext (g' := putF g a m v) (fun j h1 h2 => wr_in h1 ha)]
  rcases hm with rfl | rfl | rfl
  · exact num_put1 hv hv'
  · exact num_put2 hv (by omega)
  · exact num_put4 hv (by omega)
theorem may_yes {g : Nat → Int} {L : Nat} {a m v : Int} (hm : m = 1 ∧ v ≤ 255 ∨ m = 2 ∧ v ≤ 65535 ∨ m = 4 ∧ v ≤ 4294967295) (hv : 0 ≤ v) (ha : 16 ≤ a) (hL : a + m ≤ L) (hs : a + m ≤ (sumA (g 0) : Int) ∨ (sumA (g 0) : Int) + 2 ≤ a) : mayB g L a m v = true := by
  unfold mayB
  simp only [Bool.and_eq_true, Bool.or_eq_true, decide_eq_true_eq, beq_iff_eq]
  omega
theorem may_no {g : Nat → Int} {L : Nat} {a m v : Int} (hL : (L : Int) < a + m) : mayB g L a m v = false := by
  cases h : mayB g L a m v
  · rfl
  · have := mayB_iff h; omega
theorem wrE_yes {g : Nat → Int} {L : Nat} {a m v : Int} (hp : parseE g L = 0) (h : mayB g L a m v = true) : wrE g L a m v = 0 := by
  unfold wrE; rw [if_neg (by rw [hp]; simp), if_pos h]
theorem wrE_no {g : Nat → Int} {L : Nat} {a m v : Int} (hp : parseE g L = 0) (h : mayB g L a m v = false) : wrE g L a m v = 14 := by
  unfold wrE; rw [if_neg (by rw [hp]; simp), if_neg (by rw [h]; simp)]
theorem wrE_0 {g : Nat → Int} {L : Nat} {a m v : Int} (h : wrE g L a m v = 0) : parseE g L = 0 ∧ mayB g L a m v = true := by
  unfold wrE at h
  split at h
  · contradiction
  · rename_i h1
    split at h
    · rename_i h2; exact ⟨by simpa using h1, h2⟩
    · cases h
theorem whole_head {g : Nat → Int} {n : Nat} (h : wholeB g n = true) : (norm (tot g 16) == 65535) = true := by
  unfold wholeB at h
  simp only [Bool.and_eq_true, beq_iff_eq] at h
  exact beq_iff_eq.2 (headE_0 (parseE_0 h.1).1).2.2.2.2.2
theorem sumA_if (k : Int) : (if k = 3 then (18 : Int) else 22) = (sumA k : Int) := by unfold sumA; split <;> rfl
theorem age_1 {g : Nat → Int} : ageF g 1 = g 1 - 1 := by
  unfold ageF
  rw [putF_out (by omega)]
  unfold set1
  rw [if_pos rfl]
theorem age_no {g : Nat → Int} {L : Nat} (hp : parseE g L = 0) (h : g 1 ≤ 1) : ageE g L = 7 := by
  unfold ageE; rw [if_neg (by rw [hp]; simp), if_pos h]
theorem age_yes {g : Nat → Int} {L : Nat} (hp : parseE g L = 0) (h : 1 < g 1) : ageE g L = 0 := by
  unfold ageE; rw [if_neg (by rw [hp]; simp), if_neg (by omega)]
theorem nat_yes {g : Nat → Int} {L : Nat} {ad po : Int} (hp : parseE g L = 0) (h3 : g 0 ≠ 3) (h1 : 0 ≤ ad ∧ ad ≤ 4294967295) (h2 : 0 ≤ po ∧ po ≤ 65535) : natE g L ad po = 0 := by
  unfold natE inR
  rw [if_neg (by rw [hp]; simp), if_neg h3, if_pos (by simp; omega)]
theorem nat_no {g : Nat → Int} {L : Nat} {ad po : Int} (hp : parseE g L = 0) (h3 : g 0 = 3) : natE g L ad po = 2 := by
  unfold natE
  rw [if_neg (by rw [hp]; simp), if_pos h3]
theorem pe_trans {p q r : Pk} (h : Pe p q) (k : Pe q r) : Pe p r :=
  ⟨h.kind.trans k.kind, h.life.trans k.life, h.piece.trans k.piece, h.src.trans k.src, h.dst.trans k.dst, h.fp.trans k.fp, h.tp.trans k.tp, h.flags.trans k.flags, h.label.trans k.label, h.bare.trans k.bare, h.code.trans k.code, h.no.trans k.no,
    fun j hj => (h.go j hj).trans (k.go j (by rw [← h.no]; exact hj)), h.nd.trans k.nd, fun j hj => (h.gd j hj).trans (k.gd j (by rw [← h.nd]; exact hj))⟩
theorem pe_src {p q : Pk} (h : Pe p q) (a b : Int) : Pe { p with src := a, fp := b } { q with src := a, fp := b } :=
  ⟨h.kind, h.life, h.piece, rfl, h.dst, rfl, h.tp, h.flags, h.label, h.bare, h.code, h.no, h.go, h.nd, h.gd⟩
theorem pe_dst {p q : Pk} (h : Pe p q) (a b : Int) : Pe { p with dst := a, tp := b } { q with dst := a, tp := b } :=
  ⟨h.kind, h.life, h.piece, h.src, rfl, h.fp, rfl, h.flags, h.label, h.bare, h.code, h.no, h.go, h.nd, h.gd⟩
def moved (p : Pk) (s : Bool) (a b : Int) : Pk := if s = true then { p with src := a, fp := b } else { p with dst := a, tp := b }
theorem pe_moved {p q : Pk} (h : Pe p q) (s : Bool) (a b : Int) : Pe (moved p s a b) (moved q s a b) := by
  cases s
  · exact pe_dst h a b
  · exact pe_src h a b
theorem moved_back (p : Pk) (s : Bool) (a b : Int) : moved (moved p s a b) s (if s = true then p.src else p.dst) (if s = true then p.fp else p.tp) = p := by
  cases s <;> rfl
theorem nat_pe {g : Nat → Int} {L : Nat} {p : Pk} {s : Bool} {ad po : Int} (hg : IsB g) (hp : Pe (parseR g L) p) (h : natE g L ad po = 0) : Pe (parseR (natF g L s ad po) L) (moved p s ad po) :=
  pe_trans (nat_read hg h) (pe_moved hp s ad po)
theorem place_bd {p : Pk} (h : buildE p = 0) (k : p.kind ≠ 3) : (0 ≤ p.src ∧ p.src ≤ 4294967295) ∧ (0 ≤ p.dst ∧ p.dst ≤ 4294967295) ∧ (0 ≤ p.fp ∧ p.fp ≤ 65535) ∧ (0 ≤ p.tp ∧ p.tp ≤ 65535) := by
  have e := (buildE_0 h).2.1
  unfold rangeB at e
  rw [if_neg k] at e
  simp only [Bool.and_eq_true] at e
  exact ⟨inR_bd e.1.1.2, inR_bd e.1.2, inR_bd e.2.1.1, inR_bd e.2.1.2⟩
theorem pe_kind {g : Nat → Int} {L : Nat} {p : Pk} (hP : parseE g L = 0) (h : Pe (parseR g L) p) : g 0 = p.kind := (parse_life hP).2.symm.trans h.kind
theorem pe_life {g : Nat → Int} {L : Nat} {p : Pk} (hP : parseE g L = 0) (h : Pe (parseR g L) p) : g 1 = p.life := (parse_life hP).1.symm.trans h.life
theorem pe_bare {g : Nat → Int} {L : Nat} {p : Pk} (hP : parseE g L = 0) (h : Pe (parseR g L) p) : bareF g = p.bare := (parseR_bare hP).symm.trans h.bare
end Go.Proofs.YtjfopkbpaekejaaGreat

