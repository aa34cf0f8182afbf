/- What goes through two units, out and in. -/
import Derived.Test.YteapnfdpkjbfhaaGreatGa
import Derived.Test.YteapnfdpkjbfhaaGreatTopRtS
import Derived.Test.YteapnfdpkjbfhaaGreatTopAll
import Derived.Test.YteapnfdpkjbfhaaGreatWirMkp
import Derived.BigQuiet
import Derived.Deep.RegionHeld3
import Derived.Deep.Cut
import Derived.IntWalk
namespace Go.Proofs.YteapnfdpkjbfhaaGreat
set_option linter.unusedVariables false
set_option linter.unusedSimpArgs false
open Go.RowKit Go.ChangeShapes Go.WideShapes Go.ChangeAt
structure Mkd (x : Pk) : Prop where
 kd : x.kind = 1 ∨ x.kind = 2
 tp : 0 ≤ x.tp ∧ x.tp ≤ 65535
 fl : 0 ≤ x.flags ∧ x.flags ≤ 15
 lb : 0 ≤ x.label ∧ x.label ≤ 65535
 cl : (x.kind ≠ 1 → x.flags = 0 ∧ x.no = 0) ∧ (x.kind ≠ 2 → x.label = 0 ∧ x.bare = false) ∧ x.code = 0
 go : IsB x.go
 gd : IsB x.gd
 no : x.no ≤ 40
 nd : x.nd ≤ 200
theorem kd_E {x : Pk} (h : Mkd x) (hl : 0 ≤ x.life ∧ x.life ≤ 255) (hp : x.piece = 0) (hs : 0 ≤ x.src ∧ x.src ≤ 4294967295) (hd : 0 ≤ x.dst ∧ x.dst ≤ 4294967295) (hf : 0 ≤ x.fp ∧ x.fp ≤ 65535) : buildE x = 0 ∧ Clean x ∧ 24 ≤ lenP x ∧ lenP x ≤ 1500 ∧ lenP x = 24 + (if x.kind = 2 then 0 else x.no) + x.nd := by
 have hn := h.no
 have hm := h.nd
 have ht := h.tp
 have hfl := h.fl
 have hlb := h.lb
 have hL : lenP x = 24 + (if x.kind = 2 then 0 else x.no) + x.nd := by
  unfold lenP
  rcases h.kd with k | k
  ·rw [k, if_neg (by decide), if_neg (by decide), if_neg (by decide)]
  ·rw [k, if_neg (by decide), if_pos rfl, if_pos rfl]
 have hL2 : lenP x ≤ 1500 := by rw [hL]; split <;> omega
 have hr : rangeB x = true := by
  unfold rangeB inR
  rcases h.kd with k | k
  ·rw [k, hp, if_neg (by decide), if_neg (by decide)]; simp; omega
  ·rw [k, hp, if_neg (by decide), if_pos rfl]; simp; omega
 refine ⟨?_, ⟨fun k => ?_, h.cl.1, h.cl.2.1, fun _ => h.cl.2.2⟩, by omega, hL2, hL⟩
 ·unfold buildE
  rw [hr, if_neg (by rcases h.kd with k | k <;> (rw [k]; decide)), if_neg (by simp), if_neg (by omega), if_neg (by rcases h.kd with k | k <;> omega)]
 ·rcases h.kd with j | j <;> (rw [j] at k; exact absurd k (by decide))
end Go.Proofs.YteapnfdpkjbfhaaGreat
