/- The functions of a plane that take no packet. -/
import Derived.Test.YteefhiniamajkaaGreatGy
import Derived.Test.YteefhiniamajkaaGreatGx
import Derived.Test.YteefhiniamajkaaGreatGi
import Derived.BigQuiet
import Derived.Deep.RegionHeld3
import Derived.Deep.Cut
import Derived.IntWalk
namespace Go.Proofs.YteefhiniamajkaaGreat
set_option linter.unusedVariables false
set_option linter.unusedSimpArgs false
open Go.RowKit Go.ChangeShapes Go.WideShapes Go.ChangeAt
section
variable {S : List Nat} {W w w' : World} {L : List Th} {a b t : Th}
theorem HS.join2 (h : HS S W w (a :: b :: L)) (t : Th) (hb : t.bs = a.bs ++ b.bs) (ht : t.at_ w) : HS S W w (t :: L) := by
  obtain ⟨h1, h2, h3, h4⟩ := h
  have e : (t :: L).flatMap Th.bs = (a :: b :: L).flatMap Th.bs := by rw [List.flatMap_cons, List.flatMap_cons, List.flatMap_cons, hb, List.append_assoc]
  refine ⟨fun x hx => ?_, h2, by rw [e]; exact h3, by rw [e]; exact h4⟩
  rcases List.mem_cons.1 hx with rfl | hx
  · exact ht
  · exact h1 x (by simp [hx])
theorem HS.set1 {b n : Nat} {f : Nat → Value} {A B : List Th} (h : HS S W w (A ++ thB b n f :: B)) (o : Nat) (v : Value) (ho : o < n) (f' : Nat → Value) (hf : ∀ j, j < n → patch f o 1 (fun _ => v) j = f' j) : HS S W (w.setCell ⟨b, o, none⟩ v) (A ++ thB b n f' :: B) := h.set o 1 (fun _ => v) ho f' hf
end
theorem build_plane (w : World) : (Instr.build 144 #[]).run Tryz.prog w = .ok (.agg (FA 130 (plc none false nr0))) w := run_build w _ _ _ (by kernel_rfl)
theorem build_unit (i : Int) (pb : Nat) (w : World) : (Instr.build 102 #[(0, .int .i64 i), (3, .pointer (some ⟨pb, 0, none⟩))]).run Tryz.prog w = .ok (.agg (FA 333 (uc i 0 zPl pb))) w := run_build w _ _ _ (by kernel_rfl)
theorem build_stand (p : Pl) (b : Nat) (w : World) : (Instr.build 147 #[(0, .agg (FA 330 (pc p))), (1, .slice (some ⟨b, 0, none⟩) 127 127)]).run Tryz.prog w = .ok (.agg (FA 331 (stc p (.slice (some ⟨b, 0, none⟩) 127 127)))) w := run_build w _ _ _ (by kernel_rfl)
theorem make_fa7 (p : Pl) (hp : Pw p) (w : World) : Calls Tryz.prog 92 #[.agg (FA 330 (pc p))] w fun x w' => ∃ B : Nat, x = .returned (.slice (some ⟨B, 0, none⟩) 127 127) ∧ Below w.heap.size w w' := (make7_any p hp w).mono fun x w' ⟨B, h1, _, _, h2⟩ => ⟨B, h1, h2⟩
attribute [local irreducible] FA FL
theorem plane_new {S : List Nat} {W w : World} {L : List Th} (hS : HS S W w L) : Calls Tryz.prog 54 #[] w fun x w' => ∃ pb : Nat, x = .returned (.pointer (some ⟨pb, 0, none⟩)) ∧ HS S W w' (thB pb 130 (plc none false nr0) :: L) := by
  have S0 := hid hS
  clear hS
  go_enter Tryz.func54, Tryz.ntmps54
  go_upto_region 1 with (fail)
  apply wp_region_lit
  refine wl_val (v := .agg (FA 130 (plc none false nr0))) rfl (by unfold execOp; simp only [List.map_toArray, List.map_nil, Sem.run_bind, build_plane, Result.andThen_ok, Sem.run_pure]) ?_
  try simp only [Act.put, List.setIfInBounds_toArray, List.set_cons_zero, List.set_cons_succ]
  refine wl_ow rfl (ow_box rfl rfl (by omega) S0.out (fun pb w2 hZ hb => ?_))
  have S1 := hid hZ
  clear hZ hb S0
  try simp only [Act.put, List.setIfInBounds_toArray, List.set_cons_zero, List.set_cons_succ]
  go_wp2_with fail
  go_ret
  exact ⟨pb, rfl, S1.out⟩
theorem unit_new {S : List Nat} {W w : World} {L : List Th} (hS : HS S W w L) (i : Nat) : Calls Tryz.prog 27 #[.int .i64 (i : Int)] w fun x w' => ∃ ub pb : Nat, x = .returned (.pointer (some ⟨ub, 0, none⟩)) ∧ HS S W w' (thU i ub pb 0 ⟨0, zPl, false⟩ :: L) := by
  have S0 := hid hS
  clear hS
  go_enter Tryz.func27, Tryz.ntmps27
  go_wp2_with fail
  refine (plane_new S0.out).mono ?_
  rintro x w1 ⟨pb, rfl, hZ⟩
  have S1 := hid hZ
  clear hZ S0
  go_simp
  apply_assumption
  refine wl_val (v := .agg (FA 333 (uc (i : Int) 0 zPl pb))) rfl (ex_build2 rfl rfl rfl (build_unit (i : Int) pb _)) ?_
  try simp only [Act.put, List.setIfInBounds_toArray, List.set_cons_zero, List.set_cons_succ]
  refine wl_ow rfl (ow_box rfl rfl (by omega) S1.out (fun ub w2 hZ hb => ?_))
  have S2 := hid hZ
  clear hZ hb S1
  try simp only [Act.put, List.setIfInBounds_toArray, List.set_cons_zero, List.set_cons_succ]
  go_wp2_with fail
  go_ret
  exact ⟨ub, pb, rfl, S2.out.join2 (thU i ub pb 0 ⟨0, zPl, false⟩) rfl ⟨S2.out.fb 0 rfl, ⟨nr0, S2.out.fb 1 rfl⟩, fun h => by cases h⟩⟩
theorem get_any (A : Option Addr) (up : Bool) (w : World) : Calls Tryz.prog 70 #[.agg #[.pointer A, .bool up]] w fun x w' => x = .returned (.tuple #[.pointer A, .bool up]) ∧ Below w.heap.size w w' := by
  go_enter Tryz.func70, Tryz.ntmps70
  go_upto_region 1 with (fail)
  have C := hid (Ce.made (w := w) (l := [.pointer A, .bool up]) (T := 139) (g := w.heap.size) rfl)
  have B := hid ((Below.refl w.heap.size w).alloc (Nat.le_refl _) (.cells #[.pointer A, .bool up] 139))
  generalize w.alloc (.cells #[.pointer A, .bool up] 139) = w1 at *
  obtain ⟨X, hX⟩ : ∃ X, X = w.heap.size := ⟨_, rfl⟩
  rw [← hX] at C ⊢
  replace hX := hid hX
  refine wp_region_held_drew (S := fun (w' : World) => Ce w' X [.pointer A, .bool up] ∧ Below w.heap.size w w') (by kernel_rfl) ?_ (fun hHeld => ?_)
  · exact ⟨C.out, B.out.drew⟩
  refine tkq 0 hHeld ?_
  refine tkq 1 hHeld ?_ (hy := by intro w hSw; (try dsimp only at hSw); have x0 := hSw.1.2.1 0 _ rfl; go_simp; (try with_reducible rfl))
  refine tkq 2 hHeld ?_
  refine tkq 3 hHeld ?_ (hy := by intro w hSw; (try dsimp only at hSw); have x0 := hSw.1.2.1 1 _ rfl; go_simp; (try with_reducible rfl))
  refine tkq 4 hHeld ?_
  refine tkq 5 hHeld ?_
  have B9 := hid hHeld.2
  clear hHeld
  refine wpAnyH_done (by kernel_rfl) ?_ _
  go_wp2_with fail
  go_ret2
  exact ⟨rfl, B9.out⟩
end Go.Proofs.YteefhiniamajkaaGreat
