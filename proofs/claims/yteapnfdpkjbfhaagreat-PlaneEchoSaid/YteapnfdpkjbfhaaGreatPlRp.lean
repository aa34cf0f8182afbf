/- The reference's Parse by things. -/
import Derived.Test.YteapnfdpkjbfhaaGreatGa
import Derived.Test.YteapnfdpkjbfhaaGreatTopTh
import Derived.Test.YteapnfdpkjbfhaaGreatWirRparse2
import Derived.BigQuiet
import Derived.Deep.RegionHeld3
import Derived.Deep.Cut
import Derived.IntWalk
namespace Go.Proofs.YteapnfdpkjbfhaaGreat
set_option linter.unusedVariables false
set_option linter.unusedSimpArgs false
open Go.RowKit Go.ChangeShapes Go.WideShapes Go.ChangeAt
theorem c_rparse {S : List Nat} {W w : World} {L : List Th} (hS : HS S W w L) (p : Pk) (g : Nat → Int) (n : Nat) (hg : IsB g) (hn : n ≤ 1000000) (hP : parseE g n = 0) (pe : Pe (parseR g n) p) (A : Option Addr) (c : Nat) (hc : n ≤ c) (h : By w A n g) :
 Calls Tryz.prog 16 #[.slice A n c] w fun e w' => ∃ AO cO AD cD, e = .returned (.tuple #[.agg #[.int .i64 p.kind, .int .i64 p.life, .int .i64 p.piece, .int .i64 p.src, .int .i64 p.dst, .int .i64 p.fp, .int .i64 p.tp, .int .i64 p.flags, .int .i64 p.label, .bool p.bare, .int .i64 p.code, .slice AO p.no cO, .slice AD p.nd cD], .int .i64 0]) ∧ HS S W w' (thOD 0 (.slice AO p.no cO) (.slice AD p.nd cD) p.no p.nd p.go p.gd :: L) ∧ p.no ≤ cO ∧ p.nd ≤ cD := by
 refine (rparse_any A n c g w h hg hc hn).mono ?_
 rintro e w' ⟨O, D, rfl, hO, hD, hb⟩
 rw [hP]
 have hv : pkV (parseR g n) O D = pkV p O D := by
  unfold pkV pkL
  rw [pe.kind, pe.life, pe.piece, pe.src, pe.dst, pe.fp, pe.tp, pe.flags, pe.label, pe.bare, pe.code]
 rw [hv]
 rw [pe.no] at hO
 rw [pe.nd] at hD
 obtain ⟨AO, cO, rfl, _, _, _⟩ := hO.form_
 obtain ⟨AD, cD, rfl, _, _, _⟩ := hD.form_
 have hO2 := hO.as2 (fun j hj => pe.go j (by rw [pe.no]; exact hj))
 have hD2 := hD.as2 (fun j hj => pe.gd j (by rw [pe.nd]; exact hj))
 exact ⟨AO, cO, AD, cD, rfl, hS.newP hb hO2 hD2, row_le hO2, row_le hD2⟩
end Go.Proofs.YteapnfdpkjbfhaaGreat
