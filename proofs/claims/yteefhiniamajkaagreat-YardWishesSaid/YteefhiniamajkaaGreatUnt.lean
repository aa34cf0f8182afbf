/- The functions of a unit: version, load, crash. -/
import Derived.Test.YteefhiniamajkaaGreatPln2
import Derived.BigQuiet
import Derived.Deep.RegionHeld3
import Derived.Deep.Cut
import Derived.IntWalk
namespace Go.Proofs.YteefhiniamajkaaGreat
set_option linter.unusedVariables false
set_option linter.unusedSimpArgs false
open Go.RowKit Go.ChangeShapes Go.WideShapes Go.ChangeAt
section
variable {S : List Nat} {W w : World} {A B : List Th} {Q : Exit → Act → World → Prop} {o : Oper} {a : Act} {K : Act → World → Prop}
theorem ow_storeJ {x y : Operand} {b n : Nat} {f : Nat → Value} (off : Nat) (v : Int) (f' : Nat → Value) (ho : o.op = .store 3 x y) (hx : a.eval x = .pointer (some ⟨b, off, none⟩)) (hy : a.eval y = .int .i64 v) (hS : HS S W w (A ++ thB b n f :: B)) (hok : off + 1 ≤ n) (hf : ∀ j, j < n → patch f off 1 (fun _ => .int .i64 v) j = f' j)
    (h : ∀ w', HS S W w' (A ++ thB b n f' :: B) → K (a.put o.dst undef) w') : o.wp Tryz.prog a w K Q := by
  have hF : Fb w b n f := hS.1 (thB b n f) (by simp)
  refine ov_store ho hx hy (w' := w.setCell ⟨b, off, none⟩ (.int .i64 v)) ?_ (h _ (hS.set off 1 (fun _ => .int .i64 v) hok f' hf))
  have c := hF.2.1 off (by omega)
  have z := hF.2.2 off
  go_simp
end
theorem uc_pool (i b : Int) (p q : Pl) (pb j : Nat) : patch (uc i b p pb) 2 330 (pc q) j = uc i b q pb j := by
  unfold patch uc
  by_cases h : 2 ≤ j ∧ j < 2 + 330
  · rw [if_pos h, if_neg (by omega), if_neg (by omega), if_pos (by omega)]
  · rw [if_neg h]
    by_cases h0 : j = 0
    · rw [if_pos h0, if_pos h0]
    · rw [if_neg h0, if_neg h0]
      by_cases h1 : j = 1
      · rw [if_pos h1, if_pos h1]
      · rw [if_neg h1, if_neg h1, if_neg (by omega), if_neg (by omega)]
theorem uc_boot (i b b' : Int) (p : Pl) (pb j : Nat) : patch (uc i b p pb) 1 1 (fun _ => .int .i64 b') j = uc i b' p pb j := by
  unfold patch uc
  by_cases h : j = 1
  · rw [if_pos (by omega), if_neg (by omega), if_pos h]
  · rw [if_neg (by omega)]
    by_cases h0 : j = 0
    · rw [if_pos h0, if_pos h0]
    · rw [if_neg h0, if_neg h0, if_neg h, if_neg h]
theorem build_zpF (w : World) : (Instr.build 33 #[]).run Tryz.prog w = .ok (.agg (FA 330 (pc zPl))) w := build_zz w
theorem build_ackF (i b v : Int) (w : World) : (Instr.build 94 #[(0, .int .i64 i), (1, .int .i64 b), (2, .int .i64 v), (4, .bool true)]).run Tryz.prog w = .ok (.agg (FA 342 (ntc ⟨i, b, v, false, true, zEn, zPl⟩))) w := run_build w _ _ _ (by kernel_rfl)
theorem apply_faU (p : Pl) (e : En) (hp : PB p) (w : World) : Calls Tryz.prog 72 #[.agg (FA 330 (pc p)), .agg #[.int .i64 e.k, .int .i64 e.s, .int .i64 e.a, .int .i64 e.p, .int .i64 e.w, .int .u64 e.y.a, .int .u64 e.y.b]] w fun x w' => x = .returned (.tuple #[.agg (FA 330 (pc (apR p e).1)), .int .i64 (apR p e).2]) ∧ Below w.heap.size w w' := apply_any p e hp w
attribute [local irreducible] FA FL
theorem unit_ver {w : World} {ub pb sb : Nat} {i b : Int} {p0 p : Pl} {up : Bool} (hF : Fb w ub 333 (uc i b p0 pb)) (hP : PlnAt w pb sb p up) : Calls Tryz.prog 75 #[.pointer (some ⟨ub, 0, none⟩)] w fun x w' => x = .returned (.int .i64 (if up = true then p.v else -1)) ∧ Below w.heap.size w w' := by
  have c0 : w.cell? ⟨ub, 332, none⟩ = some (.pointer (some ⟨pb, 0, none⟩)) := hF.2.1 332 (by omega)
  have PV := hid (plane_ver hP)
  clear hF hP
  go_enter Tryz.func75, Tryz.ntmps75
  go_wp2_with fail
  refine PV.out.mono ?_
  rintro x w1 ⟨rfl, hb⟩
  have HB := hid hb
  clear hb c0 PV
  cases up
  · go_simp
    go_wp2_with fail
    go_ret
    exact ⟨rfl, HB.out⟩
  · go_simp
    go_wp2_with fail
    go_ret
    exact ⟨rfl, HB.out⟩
set_option maxRecDepth 100000 in
set_option maxHeartbeats 8000000 in
theorem unit_load {S : List Nat} {W w : World} {B : List Th} {ub pb sb : Nat} {i b : Int} {p0 p : Pl} {up : Bool} (hS : HS S W w (thB ub 333 (uc i b p0 pb) :: thP pb sb p up :: B)) (q : Pl) (hq : Pw q) : Calls Tryz.prog 81 #[.pointer (some ⟨ub, 0, none⟩), .agg (FA 330 (pc q))] w fun x w' => x = .returned (.tuple #[]) ∧ ∃ sb', HS S W w' (thB ub 333 (uc i b q pb) :: thP pb sb' q true :: B) := by
  have S0 := hid hS
  clear hS
  go_enter Tryz.func81, Tryz.ntmps81
  go_upto_region 1 with (fail)
  have S1 := hid (S0.out.boxed (n := 330) (T := 33) (pc q))
  generalize w.alloc (.cells (FA 330 (pc q)) 33) = w1 at *
  obtain ⟨X, hX⟩ : ∃ X, X = w.heap.size := ⟨_, rfl⟩
  rw [← hX] at S1 ⊢
  replace hX := hid hX
  clear S0
  apply wp_region_lit
  refine wl_val (v := ?_) rfl ?_ ?_; rotate_left; (focus ( go_simp; (try with_reducible rfl))); (try simp only [Act.put, List.setIfInBounds_toArray, List.set_cons_zero, List.set_cons_succ])
  refine wl_ow rfl (ow_load 0 rfl 0 330 (pc q) rfl rfl S1.out (by omega) (fun j hj => by rw [Nat.zero_add]) Tryz.underlying33 rfl info_pl ?_)
  try simp only [Act.put, List.setIfInBounds_toArray, List.set_cons_zero, List.set_cons_succ]
  refine wl_val (v := ?_) rfl ?_ ?_; rotate_left; (focus ( go_simp; (try with_reducible rfl))); (try simp only [Act.put, List.setIfInBounds_toArray, List.set_cons_zero, List.set_cons_succ])
  refine wl_val (v := ?_) rfl ?_ ?_; rotate_left; (focus ( go_simp; (try with_reducible rfl))); (try simp only [Act.put, List.setIfInBounds_toArray, List.set_cons_zero, List.set_cons_succ])
  refine wl_ow rfl (ow_store (A := [thB X 330 (pc q)]) 2 330 (pc q) (uc i b q pb) rfl rfl rfl S1.out (by omega) (fun j _ => uc_pool _ _ _ _ _ _) info_pl (pc_one _) ?_)
  intro w2 hZ
  have S2 : Hid (HS S W w2 (thB X 330 (pc q) :: thB ub 333 (uc i b q pb) :: thP pb sb p up :: B)) := hid hZ
  clear hZ S1
  try simp only [Act.put, List.setIfInBounds_toArray, List.set_cons_zero, List.set_cons_succ]
  go_upto_region 2 with (fail)
  refine wp_region_held_drew (S := fun (w' : World) => ∃ sb p up, HS S W w' (thB X 330 (pc q) :: thB ub 333 (uc i b q pb) :: thP pb sb p up :: B)) (by kernel_rfl) ?_ (fun hHeld => ?_)
  · exact ⟨_, _, _, S2.out.drew⟩
  have F0 := S2.out.drew
  refine tkq 0 hHeld ?_
  refine tkq 1 hHeld ?_
  refine tkq 2 hHeld ?_
  refine tkq 3 hHeld ?_ (hy := by intro w hSw; (try dsimp only at hSw); obtain ⟨_, _, _, hS⟩ := hSw; have x0 : w.cell? ⟨ub, 332, none⟩ = some (.pointer (some ⟨pb, 0, none⟩)) := (hS.fb 1 rfl).2.1 332 (by omega); go_simp; (try with_reducible rfl))
  refine tk 4 (v := .agg (FA 330 (pc q))) rfl (by kernel_rfl) (by kernel_rfl) (by kernel_rfl) (fun _ _ _ h => h) rfl (fun w hSw => by obtain ⟨_, _, _, hS⟩ := hSw; exact ex_load rfl rfl ((hS.fb 0 rfl).load 0 330 (pc q) (by omega) (fun j hj => by rw [Nat.zero_add]) Tryz.underlying33 rfl info_pl)) hHeld ?_; (try simp only [Act.put, List.setIfInBounds_toArray, List.set_cons_zero, List.set_cons_succ])
  refine only 5 rfl (by kernel_rfl) rfl (fun K hK => ?_)
  go_simp
  refine (plane_load (A := [thB X 330 (pc q), thB ub 333 (uc i b q pb)]) F0 q hq).mono ?_
  rintro e' w3 ⟨rfl, sb', hZ⟩
  try go_wp2_with fail
  refine hK.out _ _ (⟨_, _, _, hZ⟩) (fun h2 => ?_)
  clear hK
  try simp only [Act.put, List.setIfInBounds_toArray, List.set_cons_zero, List.set_cons_succ]
  have S9 := hid (⟨trivial, sb', HS.tail hZ⟩ : True ∧ ∃ sb', HS S W w3 (thB ub 333 (uc i b q pb) :: thP pb sb' q true :: B))
  clear h2 hZ F0 hHeld S2
  refine wpAnyH_done (by kernel_rfl) ?_ _
  go_wp2_with fail
  go_end0
  exact ⟨rfl, S9.out.2⟩
end Go.Proofs.YteefhiniamajkaaGreat
