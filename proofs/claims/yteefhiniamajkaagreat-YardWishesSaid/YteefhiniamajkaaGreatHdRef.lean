/- The reference's head: New. -/
import Derived.Test.YteefhiniamajkaaGreatGl
import Derived.BigQuiet
import Derived.Deep.RegionHeld3
import Derived.Deep.Cut
import Derived.IntWalk
import Derived.Great.BuildSlice
namespace Go.Proofs.YteefhiniamajkaaGreat
set_option linter.unusedVariables false
set_option linter.unusedSimpArgs false
open Go.RowKit Go.ChangeShapes Go.WideShapes Go.ChangeAt

/-- The cells of the reference's head. -/
def rhc (p : Pl) (l : Value) (e : En) (i : Bool) (u : Value) (j : Nat) : Value := if j < 330 then pc p j else if j = 330 then l else if j < 338 then enc e (j - 331) else if j = 338 then .bool i else u
theorem build_rh (p : Pl) (w : World) : (Instr.build 116 #[(0, .agg (FA 330 (pc p)))]).run Tryz.prog w = .ok (.agg (FA 340 (rhc p (.slice none 0 0) zEn false (.slice none 0 0)))) w := run_build w _ _ _ (by kernel_rfl)
theorem rh_unit (p : Pl) (l : Value) (e : En) (i : Bool) (u v : Value) (j : Nat) (hj : j < 340) : patch (rhc p l e i u) 339 1 (fun _ => v) j = rhc p l e i v j := by
  unfold patch rhc
  by_cases h : 339 ≤ j ∧ j < 339 + 1
  · rw [if_pos h, if_neg (by omega), if_neg (by omega), if_neg (by omega), if_neg (by omega)]
  · rw [if_neg h]
    by_cases h1 : j < 330
    · rw [if_pos h1, if_pos h1]
    · rw [if_neg h1, if_neg h1]
      by_cases h2 : j = 330
      · rw [if_pos h2, if_pos h2]
      · rw [if_neg h2, if_neg h2]
        by_cases h3 : j < 338
        · rw [if_pos h3, if_pos h3]
        · rw [if_neg h3, if_neg h3, if_pos (by omega), if_pos (by omega)]
/-- A new head of the reference: what its words are is not said. -/
def RNewOk (w : World) (p : Pl) (x : Ending) (w' : World) : Prop := ∃ (b : Nat) (v : Value), x = .returned (.tuple #[.pointer (some ⟨b, 0, none⟩), .int .i64 0]) ∧ Fb w' b 340 (rhc p (.slice none 0 0) zEn false v) ∧ w.heap.size ≤ b ∧ Below w.heap.size w w'
theorem info_wo : (Tryz.prog.info? 118).map (fun i => (i.zero, i.size, i.bytes)) = some (some (.agg #[.int .i64 0, .int .i64 0]), 2, 16) := by kernel_rfl
theorem run_bsw (w : World) : (Instr.buildSlice 114 1 #[(0, .agg #[.int .i64 0, .int .i64 (-1)])]).run Tryz.prog w = .ok (.slice (some ⟨w.heap.size, 0, none⟩) 1 1) (w.alloc (.cells (FA 2 (wdc ⟨0, -1⟩)) 118)) := by
  obtain ⟨i0, hi, hz0, hz1, hz2⟩ := info_parts info_wo
  refine run_buildSlice (P := Tryz.prog) w _ _ 1 _ (FA 2 (wdc ⟨0, -1⟩)) i0 (.agg #[.int .i64 0, .int .i64 0]) Tryz.underlying114 hi hz0 (by rw [hz1]; omega) (by rw [hz1]; omega) ?_
  rw [hz1]
  kernel_rfl
attribute [local irreducible] FA FL
theorem rhnew_no (p : Pl) (u : Int) (hu : u < 1 ∨ 16 < u) (w : World) : Calls Tryz.prog 28 #[.agg (FA 330 (pc p)), .int .i64 u] w fun x w' => x = .returned (.tuple #[.pointer none, .int .i64 14]) ∧ Below w.heap.size w w' := by
  rcases hu with hu | hu
  · go_enter Tryz.func28, Tryz.ntmps28
    go_wp2
    go_ret2
    exact ⟨rfl, (Below.refl _ _).alloc (Nat.le_refl _) _⟩
  · have h2 : ¬ u < 1 := by omega
    go_enter Tryz.func28, Tryz.ntmps28
    go_wp2
    go_ret2
    exact ⟨rfl, (Below.refl _ _).alloc (Nat.le_refl _) _⟩
set_option maxRecDepth 100000 in
set_option maxHeartbeats 8000000 in
theorem rhnew_ok (p : Pl) (u : Nat) (hu : 1 ≤ u ∧ u ≤ 16) (w : World) : Calls Tryz.prog 28 #[.agg (FA 330 (pc p)), .int .i64 (u : Int)] w (RNewOk w p) := by
  obtain ⟨hu1, hu2⟩ := hu
  go_enter Tryz.func28, Tryz.ntmps28
  go_upto_region 3 with (fail)
  have S1 := hid ((HS.start (S := []) (W := w)).boxed (n := 330) (T := 33) (pc p))
  generalize w.alloc (.cells (FA 330 (pc p)) 33) = w1 at *
  obtain ⟨A, hA⟩ : ∃ A, A = w.heap.size := ⟨_, rfl⟩
  rw [← hA] at S1 ⊢
  replace hA := hid hA
  apply wp_region_lit
  refine wl_ow rfl (ow_load 0 rfl 0 330 (pc p) rfl rfl S1.out (by omega) (fun j hj => by rw [Nat.zero_add]) Tryz.underlying33 rfl info_pl ?_)
  try simp only [Act.put, List.setIfInBounds_toArray, List.set_cons_zero, List.set_cons_succ]
  refine wl_val rfl (v := .agg (FA 340 (rhc p (.slice none 0 0) zEn false (.slice none 0 0)))) (by unfold execOp; simp only [List.map_toArray, List.map_cons, List.map_nil]; rw [show Act.eval _ (Operand.tmp 14) = Value.agg (FA 330 (pc p)) from rfl]; simp only [Sem.run_bind, build_rh, Result.andThen_ok, Sem.run_pure]) ?_
  try simp only [Act.put, List.setIfInBounds_toArray, List.set_cons_zero, List.set_cons_succ]
  refine wl_ow rfl (ow_box rfl rfl (by omega) S1.out (fun b w2 hZ hb => ?_))
  have S2 := hid hZ
  have HBW := hid hb
  clear hZ hb S1
  try simp only [Act.put, List.setIfInBounds_toArray, List.set_cons_zero, List.set_cons_succ]
  have hbl := hid ((S2.out.fb 0 rfl).1 : b < w2.heap.size)
  go_wp2_with fail
  go_loopw [7] (fun i wx => ∃ (k : Nat) (v : Value) (f : Nat → Value), k ≤ u ∧ i = .int .i64 (k : Int) ∧ Fb wx b 340 (rhc p (.slice none 0 0) zEn false v) ∧ Ow wx w2.heap.size 118 2 v k f ∧ Below w.heap.size w wx ∧ w2.heap.size ≤ wx.heap.size) (fun i _ => u - (intOf i).toNat)
  case atStart =>
    exact ⟨0, .slice none 0 0, fun _ => undef, Nat.zero_le _, rfl, S2.out.fb 0 rfl, Ow.none_, S2.out.bl, Nat.le_refl _⟩
  case round =>
    obtain ⟨k, v, f, hk, rfl, hF, hO, hB, hZ⟩ := hrel
    have HF := hid hF
    have HO := hid hO
    have HB := hid (And.intro hB hZ)
    clear hF hO hB hZ
    by_cases hlt : (k : Int) < u
    · obtain ⟨A1, c1, hv, _, _, _⟩ := HO.out.form_
      subst hv
      have c339 : wr.cell? ⟨b, 339, none⟩ = some (.slice A1 k c1) := HF.out.2.1 339 (by omega)
      go_upto_region 7 with (fail)
      apply wp_region_lit
      refine wl_val (v := ?_) rfl ?_ ?_; rotate_left; (focus ( go_simp; (try with_reducible rfl))); (try simp only [Act.put, List.setIfInBounds_toArray, List.set_cons_zero, List.set_cons_succ])
      refine wl_val (v := ?_) rfl ?_ ?_; rotate_left; (focus ( go_simp; (try with_reducible rfl))); (try simp only [Act.put, List.setIfInBounds_toArray, List.set_cons_zero, List.set_cons_succ])
      refine wl_val (v := ?_) rfl ?_ ?_; rotate_left; (focus ( go_simp; (try with_reducible rfl))); (try simp only [Act.put, List.setIfInBounds_toArray, List.set_cons_zero, List.set_cons_succ])
      refine wl_val (v := ?_) rfl ?_ ?_; rotate_left; (focus ( go_simp; (try with_reducible rfl))); (try simp only [Act.put, List.setIfInBounds_toArray, List.set_cons_zero, List.set_cons_succ])
      refine wl_val (v := ?_) rfl ?_ ?_; rotate_left; (focus ( go_simp; (try with_reducible rfl))); (try simp only [Act.put, List.setIfInBounds_toArray, List.set_cons_zero, List.set_cons_succ])
      refine wl_val (v := ?_) rfl ?_ ?_; rotate_left; (focus ( go_simp; (try with_reducible rfl))); (try simp only [Act.put, List.setIfInBounds_toArray, List.set_cons_zero, List.set_cons_succ])
      obtain ⟨i0, hi, hz0, hz1, hz2⟩ := info_parts info_wo
      refine wl_ow rfl (ow_val (v := .slice (some ⟨wr.heap.size, 0, none⟩) 1 1) (w' := wr.alloc (.cells (FA 2 (wdc ⟨0, -1⟩)) 118)) (by unfold execOp; simp only [List.map_toArray, List.map_cons, List.map_nil]; rw [show Act.eval _ (Operand.tmp 27) = Value.agg #[.int .i64 0, .int .i64 (-1)] from rfl]; simp only [Sem.run_bind, run_bsw, Result.andThen_ok, Sem.run_pure]) ?_)
      try simp only [Act.put, List.setIfInBounds_toArray, List.set_cons_zero, List.set_cons_succ]
      have HN3 : Hid (Fb (wr.alloc (.cells (FA 2 (wdc ⟨0, -1⟩)) 118)) wr.heap.size 2 (wdc ⟨0, -1⟩)) := hid (Fb.made rfl)
      have HF3 := hid (HF.out.alloc (.cells (FA 2 (wdc ⟨0, -1⟩)) 118))
      have HO3 := hid (HO.out.alloc (.cells (FA 2 (wdc ⟨0, -1⟩)) 118))
      have HB3 := hid (HB.out.1.alloc HB.out.1.size (.cells (FA 2 (wdc ⟨0, -1⟩)) 118))
      have HZ3 := hid (Nat.le_trans HB.out.2 ((Below.refl _ _).alloc (Nat.le_refl _) (.cells (FA 2 (wdc ⟨0, -1⟩)) 118)).size)
      clear HF HO HB c339
      generalize wr.alloc (.cells (FA 2 (wdc ⟨0, -1⟩)) 118) = w3 at *
      refine wp_app w3 rfl (.tmp 26) (.tmp 28) 114 rfl w2.heap.size 118 i0 (.agg #[.int .i64 0, .int .i64 0]) 2 16 Tryz.underlying114 hi hz0 hz1 hz2 rfl (by decide) (.slice A1 k c1) k f rfl HO3.out (some ⟨wr.heap.size, 0, none⟩) 1 1 (wdc ⟨0, -1⟩) rfl HN3.out.sl (fun j _ => wdc_one _ j) (by simp only [maxLen]; omega) (by omega) HZ3.out ?_
      intro A' c' w4 hO4 _ _ hB4 _ _
      try simp only [Act.put, List.setIfInBounds_toArray, List.set_cons_zero, List.set_cons_succ]
      have HF4 := hid (HF3.out.same (hB4.block b hbl.out))
      have HO4 := hid hO4
      have HB4 := hid (HB3.out.trans (hB4.mono S2.out.wsize))
      have HZ4 := hid (Nat.le_trans HZ3.out hB4.size)
      clear hO4 hB4 HF3 HO3 HB3 HZ3 HN3
      have c339 : w4.cell? ⟨b, 339, none⟩ = some (.slice A1 k c1) := HF4.out.2.1 339 (by omega)
      have z339 := HF4.out.2.2 339
      refine wl_val (v := ?_) rfl ?_ ?_; rotate_left; (focus ( go_simp; (try with_reducible rfl))); (try simp only [Act.put, List.setIfInBounds_toArray, List.set_cons_zero, List.set_cons_succ])
      refine wl_val (v := ?_) rfl ?_ ?_; rotate_left; (focus ( go_simp; (try with_reducible rfl))); (try simp only [Act.put, List.setIfInBounds_toArray, List.set_cons_zero, List.set_cons_succ])
      refine wl_ow rfl (ov_store rfl rfl rfl (w' := w4.setCell ⟨b, 339, none⟩ (.slice A' (k + 1) c')) (by go_simp) ?_)
      try simp only [Act.put, List.setIfInBounds_toArray, List.set_cons_zero, List.set_cons_succ]
      have HF5 := hid ((HF4.out.set1 339 (.slice A' (k + 1) c') (by omega)).as (rh_unit p (.slice none 0 0) zEn false (.slice A1 k c1) (.slice A' (k + 1) c')))
      have HO5 : Hid (Ow _ _ _ _ _ _ _) := hid (ownsRow_setCell_below HO4.out (a := ⟨b, 339, none⟩) hbl.out (.slice A' (k + 1) c'))
      have HB5 := hid (HB4.out.setCell (p := ⟨b, 339, none⟩) HBW.out (.slice A' (k + 1) c'))
      have HZ5 : Hid (w2.heap.size ≤ (w4.setCell ⟨b, 339, none⟩ (.slice A' (k + 1) c')).heap.size) := hid (Nat.le_trans HZ4.out ((Below.refl 0 w4).setCell (p := ⟨b, 339, none⟩) (Nat.zero_le _) (.slice A' (k + 1) c')).size)
      clear HF4 HO4 HB4 HZ4 c339 z339
      generalize w4.setCell ⟨b, 339, none⟩ (.slice A' (k + 1) c') = w5 at *
      go_wp2_with fail
      go_roundw
      case rel =>
        exact ⟨k + 1, .slice A' (k + 1) c', _, by omega, by go_num, HF5.out, HO5.out, HB5.out, HZ5.out⟩
      case measure =>
        simp [intOf]; omega
    · have hku : k = u := by omega
      go_wp2_with fail
      go_ret2
      exact ⟨b, v, rfl, HF.out, HBW.out, HB.out.1⟩
end Go.Proofs.YteefhiniamajkaaGreat
