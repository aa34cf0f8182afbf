/- By which cookie, which wheel. -/
import Derived.Test.YteapnfdpkjbfhaaGreatGa
import Derived.Test.YteapnfdpkjbfhaaGreatTopPk
import Derived.Test.YteapnfdpkjbfhaaGreatGz
import Derived.Test.YteapnfdpkjbfhaaGreatWhlRmake
import Derived.BigQuiet
import Derived.Deep.RegionHeld3
import Derived.Deep.Cut
import Derived.IntWalk
namespace Go.Proofs.YteapnfdpkjbfhaaGreat
set_option linter.unusedVariables false
set_option linter.unusedSimpArgs false
open Go.RowKit Go.ChangeShapes Go.WideShapes Go.ChangeAt
set_option maxRecDepth 100000
theorem whl_k (p : Pl) (f : Fl) : whlW p (pkW f).toNat = -1 ∨ ∃ k : Nat, k < 64 ∧ whlW p (pkW f).toNat = k := by
 have b := pkW_bd f
 generalize pkW f = z at b
 obtain ⟨j, hj⟩ : ∃ j : Nat, z = j := ⟨z.toNat, by omega⟩
 subst hj
 rcases whl_bd (p := p) (j := j) (by omega) with h | ⟨i, h1, _, h2⟩
 ·exact .inl h
 ·exact .inr ⟨i, h1, h2⟩
theorem in_some {p : Pl} {nr : Nat → Option Int} {g : Nat → Int} {n : Nat} {x : Pk} {s : Nat} (h : byT p x = some (s : Int)) : inT p nr g n x = ⟨0, s, true, n, inG p nr g n x s, nr⟩ := by
 have hs : slT p x = s := by unfold slT; rw [h]; rfl
 unfold inT
 rw [hs, if_neg (by omega), h]
 rfl
theorem in_no {p : Pl} {nr : Nat → Option Int} {g : Nat → Int} {n : Nat} {x : Pk} (h : byT p x = none) (hw : whlW p (pkW (flP p x.src x.fp)).toNat = -1) : inT p nr g n x = dropT 9 nr := by
 have hs : slT p x = -1 := by unfold slT; rw [h]; exact hw
 unfold inT
 rw [if_pos hs]
theorem in_whl {p : Pl} {nr : Nat → Option Int} {g : Nat → Int} {n : Nat} {x : Pk} {k : Nat} (h : byT p x = none) (hw : whlW p (pkW (flP p x.src x.fp)).toNat = k) : inT p nr g n x = ⟨0, k, false, n, inG p nr g n x k, nr⟩ := by
 have hs : slT p x = k := by unfold slT; rw [h]; exact hw
 unfold inT
 rw [hs, if_neg (by omega), h]
 rfl
theorem by_some {p : Pl} {x : Pk} {c s : Int} (h : carT x = some c) (ho : readC (tkT x.kind) p.r x.kind (flP p x.src x.fp) c = some s) (ht : takesB (p.s s.toNat).st = true) : byT p x = some s := by
 unfold byT
 rw [h]
 show (readC (tkT x.kind) p.r x.kind (flP p x.src x.fp) c).bind _ = _
 rw [ho]
 show (if takesB (p.s s.toNat).st = true then some s else none) = _
 rw [if_pos ht]
theorem by_no1 {p : Pl} {x : Pk} (h : carT x = none) : byT p x = none := by unfold byT; rw [h]; rfl
theorem by_no2 {p : Pl} {x : Pk} {c : Int} (h : carT x = some c) (ho : readC (tkT x.kind) p.r x.kind (flP p x.src x.fp) c = none) : byT p x = none := by
 unfold byT
 rw [h]
 show (readC (tkT x.kind) p.r x.kind (flP p x.src x.fp) c).bind _ = _
 rw [ho]
 rfl
theorem by_no3 {p : Pl} {x : Pk} {c s : Int} (h : carT x = some c) (ho : readC (tkT x.kind) p.r x.kind (flP p x.src x.fp) c = some s) (ht : takesB (p.s s.toNat).st = false) : byT p x = none := by
 unfold byT
 rw [h]
 show (readC (tkT x.kind) p.r x.kind (flP p x.src x.fp) c).bind _ = _
 rw [ho]
 show (if takesB (p.s s.toNat).st = true then some s else none) = _
 rw [if_neg (by rw [ht]; decide)]
theorem c_read {p : Pl} (hp : Pt p) {x : Pk} (hk : x.kind = 1 ∨ x.kind = 2) (hf : (flP p x.src x.fp).I) (c : Int) (w : World) : Calls Tryz.prog 111 #[rgV p.r, .int .i64 x.kind, flV (flP p x.src x.fp), .int .i64 c] w fun e w' => e = .returned (.tuple #[.int .i64 ((readC (tkT x.kind) p.r x.kind (flP p x.src x.fp) c).getD 0), .bool (readC (tkT x.kind) p.r x.kind (flP p x.src x.fp) c).isSome]) ∧ Below w.heap.size w w' := by
 rcases hk with k | k
 ·rw [k]; exact read1 p.r (flP p x.src x.fp) c hf hp.2.1 w
 ·rw [k]; exact read2 p.r (flP p x.src x.fp) c hf hp.2.1 w
theorem rmake_fa (p : Pl) (hp : Pw p) (w : World) : Calls Tryz.prog 33 #[.agg (FA 330 (_root_.Go.Proofs.YteapnfdpkjbfhaaGreat.pc p))] w fun x w' => ∃ B : Nat, x = .returned (.slice (some ⟨B, 0, none⟩) 127 127) ∧ w.heap.size ≤ B ∧ IA w' B 127 (whlW p) ∧ Below w.heap.size w w' := rmake7_any p hp w
end Go.Proofs.YteapnfdpkjbfhaaGreat
