/- A yard that may not be; a unit that is none. -/
import Derived.Test.YtlfionfnpieoiaaGreatYdAt
import Derived.BigQuiet
import Derived.Deep.RegionHeld3
import Derived.Deep.Cut
import Derived.IntWalk
namespace Go.Proofs.YtlfionfnpieoiaaGreat
set_option linter.unusedVariables false
set_option linter.unusedSimpArgs false
open Go.RowKit Go.ChangeShapes Go.WideShapes Go.ChangeAt
set_option maxRecDepth 100000
attribute [local irreducible] FA FL
set_option maxHeartbeats 8000000 in
theorem yd_newN {S : List Nat} {W w : World} {R : List Th} (hS : HS S W w R) (p : Pl) (u : Int) (hu : u < 1 ∨ 16 < u) : Calls Tryz.prog 6 #[.agg (FA 330 (pc p)), .int .i64 u] w fun x w' => x = .returned (.tuple #[.pointer none, .int .i64 14]) ∧ HS S W w' R := by
 have S0 := hid hS
 clear hS
 have HN := hid (fun w' => hnew_nf p u hu w')
 go_enter Tryz.func6, Tryz.ntmps6
 go_upto_region 0 with (fail)
 apply wp_region_lit
 refine wl_ow rfl (ow_box rfl rfl (by omega) S0.out (fun P w1 hZ _ => ?_))
 have S1 := hid hZ
 clear hZ S0
 try simp only [Act.put, List.setIfInBounds_toArray, List.set_cons_zero, List.set_cons_succ]
 refine wl_val (v := ?_) rfl ?_ ?_; rotate_left; (focus ( go_simp; (try with_reducible rfl))); (try simp only [Act.put, List.setIfInBounds_toArray, List.set_cons_zero, List.set_cons_succ])
 refine wl_val (v := ?_) rfl ?_ ?_; rotate_left; (focus ( go_simp; (try with_reducible rfl))); (try simp only [Act.put, List.setIfInBounds_toArray, List.set_cons_zero, List.set_cons_succ])
 go_wp2_with ((with_reducible refine wl_id ?_); refine wl_ow rfl (ow_load 0 rfl 0 330 (pc p) rfl rfl S1.out (by omega) (fun j hj => by rw [Nat.zero_add]) Tryz.underlying34 rfl info_pl ?_))
 refine (HN.out _).mono ?_
 rintro x w2 ⟨rfl, hB⟩
 have S2 := hid (S1.out.below hB)
 clear hB S1 HN
 go_simp
 go_wp2_with fail
 go_ret2
 exact ⟨rfl, S2.out.tail⟩
section
variable {S : List Nat} {W w : World} {D : Yl} {y : Yd} {R : List Th} {N : Nat}
theorem ya_has (h : YA S W w D y R N) (i : Int) : Calls Tryz.prog 21 #[.pointer (some ⟨D.Y, 0, none⟩), .int .i64 i] w fun x w' => x = .returned (.bool (hasB i y.h.un)) ∧ w = w' := by
 obtain ⟨V, ns, bf, hn, h1, h2, h3⟩ := h
 exact yd_has h3 i
theorem ya_crashN (h : YA S W w D y R N) (i : Int) (hi : hasB i y.h.un = false) : Calls Tryz.prog 9 #[.pointer (some ⟨D.Y, 0, none⟩), .int .i64 i] w fun x w' => x = .returned (.bool false) ∧ w = w' := by
 have HAS := hid (ya_has h i)
 rw [hi] at HAS
 clear h
 go_enter Tryz.func9, Tryz.ntmps9
 go_wp2_with fail
 refine HAS.out.mono ?_
 rintro e w' ⟨rfl, rfl⟩
 go_simp
 go_wp2_with fail
 go_ret
 exact ⟨rfl, rfl⟩
end
end Go.Proofs.YtlfionfnpieoiaaGreat
