/- Make; the reference's Build. -/
import Derived.Test.YtjljaecjnpmdoaaWirMk
import Derived.Test.YtjljaecjnpmdoaaWirBld4
import Derived.Test.YtjljaecjnpmdoaaWirBld5
import Derived.Test.YtjljaecjnpmdoaaWirBld6
import Derived.BigQuiet
import Derived.Deep.RegionHeld3
import Derived.Deep.Cut
namespace Go.Proofs.Ytjljaecjnpmdoaa
set_option linter.unusedVariables false
set_option linter.unusedSimpArgs false
open Go.RowKit Go.ChangeShapes Go.WideShapes Go.ChangeAt

/-- The reference's Build, of any kind that there is. -/
theorem rbuild_any (p : Pk) (AO : Option Addr) (cO : Nat) (AD : Option Addr) (cD : Nat) (w : World) (HO : By w AO p.no p.go) (HD : By w AD p.nd p.gd) (hgo : IsB p.go) (hgd : IsB p.gd) (h1 : p.no ≤ 1000000) (h2 : p.nd ≤ 1000000) (hk : isK p.kind = true) :
    Calls Try.prog 18 #[pkV p (.slice AO p.no cO) (.slice AD p.nd cD)] w (Outd w (buildE p) (lenP p) (builtF p)) := by
  have hk3 : p.kind = 1 ∨ p.kind = 2 ∨ p.kind = 3 := by unfold isK at hk; simp at hk; omega
  rcases hk3 with h | h | h
  · exact rbuild1_any p AO cO AD cD w HO HD hgo hgd h1 h2 (hid h)
  · exact rbuild2_any p AO cO AD cD w HO HD hgo hgd h1 h2 (hid h)
  · exact rbuild3_any p AO cO AD cD w HO HD hgo hgd h1 h2 (hid h)
end Go.Proofs.Ytjljaecjnpmdoaa
