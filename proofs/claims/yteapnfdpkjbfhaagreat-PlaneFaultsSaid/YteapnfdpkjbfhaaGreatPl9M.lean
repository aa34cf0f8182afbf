/- The pool and the packet of stage 9's known. -/
import Derived.Test.YteapnfdpkjbfhaaGreatGa
import Derived.Test.YteapnfdpkjbfhaaGreatTopPk
import Derived.Test.YteapnfdpkjbfhaaGreatGx
import Derived.BigQuiet
import Derived.Deep.RegionHeld3
import Derived.Deep.Cut
import Derived.IntWalk
namespace Go.Proofs.YteapnfdpkjbfhaaGreat
set_option linter.unusedVariables false
set_option linter.unusedSimpArgs false
open Go.RowKit Go.ChangeShapes Go.WideShapes Go.ChangeAt
set_option maxRecDepth 100000
def g9 (j : Nat) : Int := if j = 0 then 0 else 2
def kp9 : Pl := mkP g9 2
def k9X : Pk := { kind := 2, life := 9, src := 1, dst := 10, fp := 2, tp := 80 }
theorem kp9_v : kp9.v = 2 := by decide +kernel
theorem kp9_pt : Pt kp9 := mkP_pt g9 2 (by omega)
theorem kp9_pw : Pw kp9 := mk_pw g9 2
theorem kp9_w {i : Nat} (hi : i < 64) : 0 < wtP kp9 i → i = 0 := by
 have h : ∀ i : Fin 64, 0 < wtP kp9 i → (i : Nat) = 0 := by decide +kernel
 exact h ⟨i, hi⟩
theorem kp9_off : 0 < offW (wtP kp9) 64 := by decide +kernel
theorem kp9_whl {j : Nat} (hj : j < 127) : whlW kp9 j = 0 := by
 unfold whlW
 rw [if_neg (by have := kp9_off; omega)]
 obtain ⟨i, h1, h2, h3⟩ := wk_full (at_ := atP kp9) (by_ := byP kp9) kp9_off (by_of kp9) j hj
 rw [h3, kp9_w h1 h2]
 rfl
theorem k9E : buildE k9X = 0 := by decide +kernel
theorem k9L : lenP k9X = 24 := by decide +kernel
theorem kp9_ap : kp9.a = 10 ∧ kp9.p = 80 := mkP_ap g9 2
theorem toT_eq (s : Int) (c : Bool) (F G : Nat → Int) (nr : Nat → Option Int) (h1 : s = 0) (h2 : c = false) (h3 : F = G) : (⟨0, s, c, 24, F, nr⟩ : To) = ⟨0, 0, false, 24, G, nr⟩ := by rw [h1, h2, h3]
attribute [local irreducible] kp9 inG builtF whlW pkW
theorem k9_take (nr : Nat → Option Int) : ∃ F, takeT kp9 true nr (builtF k9X) 24 = ⟨0, 0, false, 24, F, nr⟩ := by
 have c0 : IsB (fun _ => (0 : Int)) := fun _ => ⟨(by decide : (0 : Int) ≤ 0), (by decide : (0 : Int) ≤ 255)⟩
 have hq := built_parseE (p := k9X) c0 c0 k9E
 have pe := built_parse (p := k9X) c0 c0 k9E ⟨fun h => absurd h (by decide), fun _ => ⟨rfl, rfl⟩, fun h => absurd rfl h, fun _ => rfl⟩
 rw [k9L] at hq pe
 have ha := kp9_ap
 have hc : carT k9X = none := by unfold carT; rw [if_pos (by rfl), if_pos (by rfl)]
 have hb : byT kp9 k9X = none := by unfold byT; rw [hc]; rfl
 have b := pkW_bd (flP kp9 k9X.src k9X.fp)
 obtain ⟨j, hj⟩ : ∃ j : Nat, j = (pkW (flP kp9 k9X.src k9X.fp)).toNat := ⟨_, rfl⟩
 have hj7 : j < 127 := by rw [hj]; generalize pkW (flP kp9 k9X.src k9X.fp) = z at b; omega
 have hs : slT kp9 k9X = 0 := by unfold slT; rw [hb]; show whlW kp9 (pkW (flP kp9 k9X.src k9X.fp)).toNat = 0; rw [← hj]; exact kp9_whl hj7
 refine ⟨inG kp9 nr (builtF k9X) 24 k9X 0, ?_⟩
 rw [take_in hq pe rfl (by show (1 : Int) < 9; decide) (by show (2 : Int) ≠ 3; decide) ⟨ha.1.symm, ha.2.symm⟩]
 unfold inT
 rw [hs, if_neg (by decide), hb]
 exact toT_eq _ _ _ _ _ rfl rfl (by rw [Int.toNat_zero])
end Go.Proofs.YteapnfdpkjbfhaaGreat
