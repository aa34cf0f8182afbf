/- Packets told by their fields, and what a unit tells of them. -/
import Derived.Test.YteapnfdpkjbfhaaGreatGa
import Derived.Test.YteapnfdpkjbfhaaGreatGz
import Derived.Test.YteapnfdpkjbfhaaGreatWirLawP
import Derived.Test.YteapnfdpkjbfhaaGreatOptKp
import Derived.Test.YteapnfdpkjbfhaaGreatPolMake
import Derived.Test.YteapnfdpkjbfhaaGreatGx
import Derived.BigQuiet
import Derived.Deep.RegionHeld3
import Derived.Deep.Cut
import Derived.IntWalk
namespace Go.Proofs.YteapnfdpkjbfhaaGreat
set_option linter.unusedVariables false
set_option linter.unusedSimpArgs false
open Go.RowKit Go.ChangeShapes Go.WideShapes Go.ChangeAt
/-- The tops' pools. -/
theorem mkP_ap (g : Nat → Int) : ∀ k : Nat, (mkP g k).a = 10 ∧ (mkP g k).p = 80
 | 0 => ⟨rfl, rfl⟩
 | k + 1 => by
   have ih := mkP_ap g k
   unfold mkP
   split
   ·rename_i h
    rw [(apR_ok h).2.2]
    unfold nxP
    cases (enN (g k)).k == 6
    ·exact ih
    ·exact ih
   ·exact ih
theorem mkP_pt (g : Nat → Int) (k : Nat) (hk : k ≤ 1000) : Pt (mkP g k) := by
 have hi := mkP_inv g k
 have ha := mkP_ap g k
 refine ⟨mk_pw g k, ⟨by have := hi.2.1; omega, by have := hi.2.1; omega⟩, hi.st, ?_, ?_⟩
 ·rw [ha.1]; decide
 ·rw [ha.2]; decide
theorem stO_pe {x y : Pk} (h : Pe x y) : stO x = stO y := by
 unfold stO
 rw [h.no]
 exact stamp_ext fun j hj => h.go j (by rw [h.no]; exact hj)
theorem outT_pe {p : Pl} {nr : Nat → Option Int} {g : Nat → Int} {n s : Nat} {x y : Pk} (h : Pe x y) : outT p nr g n x s = outT p nr g n y s := by
 unfold outT okC
 rw [h.kind, h.dst, h.tp, stO_pe h]
theorem inT_pe {p : Pl} {nr : Nat → Option Int} {g : Nat → Int} {n : Nat} {x y : Pk} (h : Pe x y) : inT p nr g n x = inT p nr g n y := by
 unfold inT inG slT byT carT
 rw [h.kind, h.src, h.fp, h.label, h.flags, stO_pe h]
/-- What a slot's backend sends goes out. -/
theorem take_out {p : Pl} {nr : Nat → Option Int} {g : Nat → Int} {n s : Nat} {x : Pk} (hp : parseE g n = 0) (pe : Pe (parseR g n) x) (h0 : x.piece = 0) (h1 : 1 < x.life) (hk : x.kind ≠ 3) (hd : ¬ (x.dst = p.a ∧ x.tp = p.p)) (hf : findO p x.src x.fp = some s) : takeT p true nr g n = outT p nr g n x s := by
 unfold takeT
 dsimp only
 rw [if_neg (by simp), hp, if_neg (by simp), pe.piece, if_neg (by simp [h0]), pe.life, if_neg (by omega), pe.dst, pe.kind, pe.tp, if_neg (fun h => hk h.2), if_neg hd, if_neg hk, pe.src, pe.fp, hf]
 exact outT_pe pe
/-- What a client sends comes in. -/
theorem take_in {p : Pl} {nr : Nat → Option Int} {g : Nat → Int} {n : Nat} {x : Pk} (hp : parseE g n = 0) (pe : Pe (parseR g n) x) (h0 : x.piece = 0) (h1 : 1 < x.life) (hk : x.kind ≠ 3) (hd : x.dst = p.a ∧ x.tp = p.p) : takeT p true nr g n = inT p nr g n x := by
 unfold takeT
 dsimp only
 rw [if_neg (by simp), hp, if_neg (by simp), pe.piece, if_neg (by simp [h0]), pe.life, if_neg (by omega), pe.dst, pe.kind, pe.tp, if_neg (fun h => hk h.2), if_pos hd]
 exact inT_pe pe
/-- A stamp's four bytes written over. -/
theorem wr_opt {g : Nat → Int} {L i : Nat} {v : Int} (hp : parseE g L = 0) (h1 : g 0 = 1) (hi : i + 4 ≤ (parseR g L).no) : Pe (parseR (wrF g L (24 + i) 4 v) L) { parseR g L with go := putF (parseR g L).go i 4 v } := by
 have hs : sumA (g 0) = 22 := by rw [h1]; decide
 have o : ∀ j, j < 24 + i ∨ 24 + i + 4 ≤ j → (j < 22 ∨ 24 ≤ j) → wrF g L (24 + i) 4 v j = g j := fun j a b => wr_out (by omega) (by omega) (by omega)
 have e0 : wrF g L (24 + i) 4 v 0 = g 0 := o 0 (by omega) (by omega)
 have q := wr_parse (v := v) (m := 4) (show 24 ≤ 24 + i by omega) hp
 have nm : ∀ a m, a + m ≤ 22 → num (wrF g L (24 + i) 4 v) a m = num g a m := fun a m h => num_ext fun j a b => o j (by omega) (by omega)
 unfold parseR at hi ⊢
 rw [if_pos hp] at hi
 rw [if_pos q, if_pos hp]
 unfold parseP at hi ⊢
 rw [h1, if_neg (by decide), if_neg (by decide)] at hi
 rw [e0, h1, if_neg (by decide), if_neg (by decide), if_neg (by decide), if_neg (by decide), o 1 (by omega) (by omega), o 12 (by omega) (by omega), o 20 (by omega) (by omega), o 21 (by omega) (by omega), nm 4 4 (by omega), nm 8 4 (by omega), nm 16 2 (by omega), nm 18 2 (by omega)]
 dsimp only at hi
 refine ⟨rfl, rfl, rfl, rfl, rfl, rfl, rfl, rfl, rfl, rfl, rfl, rfl, fun j hj => ?_, rfl, fun j hj => o _ (by omega) (by omega)⟩
 show wrF g L (24 + i) 4 v (24 + j) = putF (fun j => g (24 + j)) i 4 v j
 by_cases hij : i ≤ j
 ·rw [wr_in (by omega) (by omega)]
  unfold putF
  by_cases h4 : j < i + 4
  ·rw [if_pos (by omega), if_pos (by omega)]; congr 1; omega
  ·rw [if_neg (by omega), if_neg (by omega)]
 ·rw [o _ (by omega) (by omega)]
  unfold putF
  rw [if_neg (by omega)]
theorem pe_go {x y : Pk} (h : Pe x y) {i : Nat} {v : Int} : Pe { x with go := putF x.go i 4 v } { y with go := putF y.go i 4 v } :=
 ⟨h.kind, h.life, h.piece, h.src, h.dst, h.fp, h.tp, h.flags, h.label, h.bare, h.code, h.no, fun j hj => by
  show putF x.go i 4 v j = putF y.go i 4 v j
  unfold putF; split; rfl; exact h.go j hj, h.nd, h.gd⟩
theorem pe_life_ {x y : Pk} (h : Pe x y) {a b : Int} (e : a = b) : Pe { x with life := a } { y with life := b } :=
 ⟨h.kind, e, h.piece, h.src, h.dst, h.fp, h.tp, h.flags, h.label, h.bare, h.code, h.no, h.go, h.nd, h.gd⟩
/-- Behind Age and Nat. -/
theorem an_read {g : Nat → Int} {n : Nat} {x : Pk} {s : Bool} {ad po : Int} (hg : IsB g) (hp : parseE g n = 0) (pe : Pe (parseR g n) x) (h1 : 1 < x.life) (hk : x.kind ≠ 3) (ha : 0 ≤ ad ∧ ad ≤ 4294967295) (hb : 0 ≤ po ∧ po ≤ 65535) :
 parseE (natF (ageF g) n s ad po) n = 0 ∧ IsB (natF (ageF g) n s ad po) ∧ Pe (parseR (natF (ageF g) n s ad po) n) (moved { x with life := x.life - 1 } s ad po) ∧ wholeB (natF (ageF g) n s ad po) n = wholeB g n ∧ natF (ageF g) n s ad po 0 = g 0 := by
 have e0 := pe_kind hp pe
 have e1 := pe_life hp pe
 have hA : ageE g n = 0 := age_yes hp (by rw [e1]; exact h1)
 have hgA := age_isB hg hA
 have h0A : ageF g 0 = g 0 := age_out (by omega) (by omega)
 have hN : natE (ageF g) n ad po = 0 := nat_yes (age_parse hg hA) (by rw [h0A, e0]; exact hk) ha hb
 have hP := age_read hg hA
 exact ⟨nat_parse hgA hN, nat_isB hgA _ _ _ _, nat_pe hgA (pe_trans hP (pe_life_ pe (by rw [e1]))) hN, by rw [nat_whole hgA hN, age_whole hg hA], tk_nat0⟩
/-- Stamps with one number anew. -/
theorem put_mk4 {v e z : Int} (hz : U32 z) : ∀ j, j < 12 → putF (mkBO v e) 4 4 z j = mkBO z e j := by
 obtain ⟨z0, z1⟩ := hz
 intro j hj
 rcases (by omega : j = 0 ∨ j = 1 ∨ j = 2 ∨ j = 3 ∨ j = 4 ∨ j = 5 ∨ j = 6 ∨ j = 7 ∨ j = 8 ∨ j = 9 ∨ j = 10 ∨ j = 11) with rfl | rfl | rfl | rfl | rfl | rfl | rfl | rfl | rfl | rfl | rfl | rfl
 all_goals first
  | rfl
  | (show z / 256 ^ 3 % 256 = z / 16777216; omega)
  | (show z / 256 ^ 2 % 256 = z / 65536 % 256; omega)
  | (show z / 256 ^ 1 % 256 = z / 256 % 256; omega)
  | (show z / 256 ^ 0 % 256 = z % 256; omega)
theorem put_mk8 {v e z : Int} (hz : U32 z) : ∀ j, j < 12 → putF (mkBO v e) 8 4 z j = mkBO v z j := by
 obtain ⟨z0, z1⟩ := hz
 intro j hj
 rcases (by omega : j = 0 ∨ j = 1 ∨ j = 2 ∨ j = 3 ∨ j = 4 ∨ j = 5 ∨ j = 6 ∨ j = 7 ∨ j = 8 ∨ j = 9 ∨ j = 10 ∨ j = 11) with rfl | rfl | rfl | rfl | rfl | rfl | rfl | rfl | rfl | rfl | rfl | rfl
 all_goals first
  | rfl
  | (show z / 256 ^ 3 % 256 = z / 16777216; omega)
  | (show z / 256 ^ 2 % 256 = z / 65536 % 256; omega)
  | (show z / 256 ^ 1 % 256 = z / 256 % 256; omega)
  | (show z / 256 ^ 0 % 256 = z % 256; omega)
theorem mkB_B {v e : Int} (hv : U32 v) (he : U32 e) : IsB (mkBO v e) := by
 obtain ⟨v0, v1⟩ := hv
 obtain ⟨e0, e1⟩ := he
 intro j
 by_cases hj : j < 12
 ·rcases (by omega : j = 0 ∨ j = 1 ∨ j = 2 ∨ j = 3 ∨ j = 4 ∨ j = 5 ∨ j = 6 ∨ j = 7 ∨ j = 8 ∨ j = 9 ∨ j = 10 ∨ j = 11) with rfl | rfl | rfl | rfl | rfl | rfl | rfl | rfl | rfl | rfl | rfl | rfl
  all_goals first
   | (show (0 : Int) ≤ 1 ∧ (1 : Int) ≤ 255; decide)
   | (show (0 : Int) ≤ 8 ∧ (8 : Int) ≤ 255; decide)
   | (show (0 : Int) ≤ 10 ∧ (10 : Int) ≤ 255; decide)
   | (show 0 ≤ v / 16777216 ∧ v / 16777216 ≤ 255; omega)
   | (show 0 ≤ v / 65536 % 256 ∧ v / 65536 % 256 ≤ 255; omega)
   | (show 0 ≤ v / 256 % 256 ∧ v / 256 % 256 ≤ 255; omega)
   | (show 0 ≤ v % 256 ∧ v % 256 ≤ 255; omega)
   | (show 0 ≤ e / 16777216 ∧ e / 16777216 ≤ 255; omega)
   | (show 0 ≤ e / 65536 % 256 ∧ e / 65536 % 256 ≤ 255; omega)
   | (show 0 ≤ e / 256 % 256 ∧ e / 256 % 256 ≤ 255; omega)
   | (show 0 ≤ e % 256 ∧ e % 256 ≤ 255; omega)
 ·have : mkBO v e j = 0 := by
   unfold mkBO mkL b4L
   rw [List.getD_eq_getElem?_getD, List.getElem?_eq_none (by simp; omega)]
   rfl
  rw [this]
  exact ⟨by decide, by decide⟩
end Go.Proofs.YteapnfdpkjbfhaaGreat
