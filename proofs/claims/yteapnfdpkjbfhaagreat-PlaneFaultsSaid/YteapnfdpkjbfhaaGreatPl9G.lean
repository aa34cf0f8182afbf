/- Build of the reference, by things. -/
import Derived.Test.YteapnfdpkjbfhaaGreatGa
import Derived.Test.YteapnfdpkjbfhaaGreatTopTh
import Derived.Test.YteapnfdpkjbfhaaGreatWirBld5
import Derived.Test.YteapnfdpkjbfhaaGreatWirBld4
import Derived.BigQuiet
import Derived.Deep.RegionHeld3
import Derived.Deep.Cut
import Derived.IntWalk
namespace Go.Proofs.YteapnfdpkjbfhaaGreat
set_option linter.unusedVariables false
set_option linter.unusedSimpArgs false
open Go.RowKit Go.ChangeShapes Go.WideShapes Go.ChangeAt
theorem rbuild32 (p : Pk) (hk : p.kind = 3 ∨ p.kind = 2) (AO : Option Addr) (cO : Nat) (AD : Option Addr) (cD : Nat) (w : World) (HO : By w AO p.no p.go) (HD : By w AD p.nd p.gd) (hgo : IsB p.go) (hgd : IsB p.gd) (h1 : p.no ≤ 1000000) (h2 : p.nd ≤ 1000000) :
 Calls Tryz.prog 14 #[.agg #[.int .i64 p.kind, .int .i64 p.life, .int .i64 p.piece, .int .i64 p.src, .int .i64 p.dst, .int .i64 p.fp, .int .i64 p.tp, .int .i64 p.flags, .int .i64 p.label, .bool p.bare, .int .i64 p.code, .slice AO p.no cO, .slice AD p.nd cD]] w (Outd w (buildE p) (lenP p) (builtF p)) := by
 rcases hk with h | h
 ·exact rbuild3_any p AO cO AD cD w HO HD hgo hgd h1 h2 (hid h)
 ·exact rbuild2_any p AO cO AD cD w HO HD hgo hgd h1 h2 (hid h)
/-- Build of the reference by things. -/
theorem c_rbuild {S : List Nat} {W w : World} {L : List Th} (hS : HS S W w L) (p : Pk) (hk : p.kind = 3 ∨ p.kind = 2) (n : Nat) (F : Nat → Int) (hL : n = lenP p) (hF : F = builtF p) (hE : buildE p = 0) (hgo : IsB p.go) (hgd : IsB p.gd) (h1 : p.no ≤ 1000000) (h2 : p.nd ≤ 1000000) (AO : Option Addr) (cO : Nat) (AD : Option Addr) (cD : Nat) (HO : By w AO p.no p.go) (HD : By w AD p.nd p.gd) :
 Calls Tryz.prog 14 #[.agg #[.int .i64 p.kind, .int .i64 p.life, .int .i64 p.piece, .int .i64 p.src, .int .i64 p.dst, .int .i64 p.fp, .int .i64 p.tp, .int .i64 p.flags, .int .i64 p.label, .bool p.bare, .int .i64 p.code, .slice AO p.no cO, .slice AD p.nd cD]] w fun e w' => ∃ A c, e = .returned (.tuple #[.slice A n c, .int .i64 0]) ∧ HS S W w' (thY (.slice A n c) n F :: L) ∧ n ≤ c := by
 subst hL hF
 have h := rbuild32 p hk AO cO AD cD w HO HD hgo hgd h1 h2
 rw [hE] at h
 refine h.mono ?_
 rintro e w' h
 obtain ⟨A, c, rfl, hO, hc, hb⟩ := outd_ok h
 exact ⟨A, c, rfl, hS.newY hb hO, hc⟩
end Go.Proofs.YteapnfdpkjbfhaaGreat
