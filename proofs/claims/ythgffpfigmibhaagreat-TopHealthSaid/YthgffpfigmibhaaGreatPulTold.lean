/- Told. -/
import Derived.Test.YthgffpfigmibhaaGreatGa
import Derived.Test.YthgffpfigmibhaaGreatPulOp
import Derived.Deep.Cut
import Derived.Maps.Range
namespace Go.Proofs.YthgffpfigmibhaaGreat
set_option linter.unusedVariables false
set_option linter.unusedSimpArgs false
open Go.RowKit Go.ChangeShapes Go.WideShapes Go.ChangeAt

theorem grown_setQ (w : World) (p : Addr) (v : Value) : w.grownBy (w.setCell p v) (some p.block) :=
  ⟨rfl, rfl, rfl, by simp, fun k hk hne => by
    have : p.block ≠ k := fun e => hne (by rw [e])
    simp [World.setCell, Array.getElem?_modify, this]⟩
/-- Blocks below L and the map's are as they were; L is new. -/
theorem grown_step {w a c : World} {b L : Nat} (h : w.grownBy a (some b)) (k : a.grownBy c (some L)) (hL : w.heap.size ≤ L) : w.grownBy c (some b) :=
  h.andThen k (fun j hj => by injection hj with hj; exact .inl (by omega))

theorem verd3 (r f : Int) (l : Life) : verd r f l = 0 ∨ verd r f l = 1 ∨ verd r f l = 2 := by
  unfold verd
  split
  · exact .inr (.inl rfl)
  · split
    · exact .inr (.inr rfl)
    · exact .inl rfl
def Toldd (w : World) (p b n : Nat) (r f e : Int) (M : Int → Option Life) (s now : Int) (ok : Bool) (x : Ending) (w' : World) : Prop :=
  x = .returned (.int .i64 (toldV r f (cur M s) now ok)) ∧ PulseAt w' p b (n + 1) r f e (upd M s (some (toldL r f (cur M s) now ok))) ∧ w.grownBy w' (some b)

theorem told_no {w : World} {p b n : Nat} {r f e : Int} {M : Int → Option Life} (h : PulseAt w p b n r f e M) (s now : Int) (ok : Bool) (hs : isSl s = false) :
    Calls Tryz.prog 22 #[.pointer (some ⟨p, 0, none⟩), .int .i64 s, .int .i64 now, .bool ok] w fun x w' => x = .returned (.int .i64 0) ∧ w = w' := by
  have IS := isslot_any s
  rw [hs] at IS
  have H := hid IS
  clear IS h
  go_enter Tryz.func22, Tryz.ntmps22
  go_wp2_with fail
  refine (H.out _).mono ?_
  rintro x w' ⟨rfl, rfl⟩
  go_wp2
  go_ret
  exact ⟨rfl, rfl⟩

set_option maxRecDepth 100000 in
set_option maxHeartbeats 4000000 in
theorem told_any {w : World} {p b n : Nat} {r f e : Int} {M : Int → Option Life} (h : PulseAt w p b n r f e M) (s now : Int) (ok : Bool) (hs : isSl s = true) (hl : 0 ≤ (cur M s).2.2.2 ∧ (cur M s).2.2.2 ≤ 1000000) (hn : n ≤ 1000000) :
    Calls Tryz.prog 22 #[.pointer (some ⟨p, 0, none⟩), .int .i64 s, .int .i64 now, .bool ok] w (Toldd w p b n r f e M s now ok) := by
  have hs64 : I64 s := by unfold isSl at hs; simp at hs; unfold I64; omega
  have IS := isslot_any s
  rw [hs] at IS
  have H := hid IS
  obtain ⟨hC, hM, hne⟩ := h
  have lk := hM.look Tryz.underlying119 (zero_life w) hs64
  have hcur : (M s).getD zLife = cur M s := rfl
  rw [hcur] at lk
  obtain ⟨l, hll⟩ : ∃ l : Life, l = cur M s := ⟨_, rfl⟩
  have HP := hid (show ∀ x w', Toldd w p b n r f e M s now ok x w' ↔ (x = .returned (.int .i64 (toldV r f l now ok)) ∧ PulseAt w' p b (n + 1) r f e (upd M s (some (toldL r f l now ok))) ∧ w.grownBy w' (some b)) from fun x w' => by rw [hll]; exact Iff.rfl)
  rw [← hll] at lk hl
  clear hll hcur IS
  obtain ⟨u, a, wh, lo⟩ := l
  simp only at hl
  have c3 := hC.2.1 3 _ rfl
  have hpw := hC.1
  have hbw := hM.lt
  have HC := hid hC
  have HM := hid hM
  unfold lifeV at lk
  simp only at lk
  have AN := and_any wh lo ok ⟨hl.1, by omega⟩
  have HAN := hid AN
  have HPO : Hid (∀ w' : World, World.grownBy w w' (some b) → w'.heap.size ≤ w'.heap.size) := hid (fun _ _ => Nat.le_refl _)
  clear hC hM AN HPO hs
  go_enter Tryz.func22, Tryz.ntmps22
  go_wp2_with fail
  refine (H.out _).mono ?_
  rintro x w' ⟨rfl, rfl⟩
  go_wp2_with fail
  refine (HAN.out _).mono ?_
  rintro x w2 ⟨rfl, hb2⟩
  have OB : Hid (Below w.heap.size w (w.alloc (.cells #[.bool u, .int .i64 now, .bool wh, .int .i64 lo] 126))) := hid ((Below.refl _ _).alloc (Nat.le_refl _) _)
  have B2 : Hid (Below w.heap.size w w2) := hid (OB.out.trans (hb2.mono OB.out.size))
  have L2 := (Ce.made (w := w) (l := [.bool u, .int .i64 now, .bool wh, .int .i64 lo]) (T := 126) (g := w.heap.size) rfl).below hb2
  have C2 := hid (HC.out.below B2.out)
  have M2 := hid (HM.out.kept (below_grown B2.out none) (by simp))
  have G2 := hid (below_grown B2.out (some b))
  have nep : w.heap.size ≠ p := Nat.ne_of_gt hpw
  have neb : w.heap.size ≠ b := Nat.ne_of_gt hbw
  generalize hL : w.heap.size = L at *
  have HL := hid hL
  have y0 := L2.2.1 0 _ rfl
  have y1 := L2.2.1 1 _ rfl
  have y2 := L2.2.1 2 _ rfl
  have y3 := L2.2.1 3 _ rfl
  have yf := L2.2.2
  have yl := L2.1
  have H2 := hid L2
  clear hb2 L2 OB lk c3 hL
  obtain ⟨rw_, hrw⟩ : ∃ z, z = rowUp wh lo ok := ⟨_, rfl⟩
  rw [← hrw]
  have HRW := hid hrw
  clear hrw
  go_wp2_with fail
  have L3 := hid (((H2.out.set 2 (.bool ok) (by simp)).set 3 (.int .i64 rw_) (by simp)))
  have G3 := hid (grown_step (grown_step G2.out (grown_setQ w2 ⟨L, 2, none⟩ (.bool ok)) (by rw [HL.out]; exact Nat.le_refl _)) (grown_setQ _ ⟨L, 3, none⟩ (.int .i64 rw_)) (by rw [HL.out]; exact Nat.le_refl _))
  have M3 := hid ((M2.out.kept (grown_setQ w2 ⟨L, 2, none⟩ (.bool ok)) (fun e => neb (by injection e with e; exact e.symm))).kept (grown_setQ _ ⟨L, 3, none⟩ (.int .i64 rw_)) (fun e => neb (by injection e with e; exact e.symm)))
  have C3 := hid ((C2.out.grown (grown_setQ w2 ⟨L, 2, none⟩ (.bool ok)) (fun e => nep (by injection e))).grown (grown_setQ _ ⟨L, 3, none⟩ (.int .i64 rw_)) (fun e => nep (by injection e)))
  generalize (w2.setCell ⟨L, 2, none⟩ (.bool ok)).setCell ⟨L, 3, none⟩ (.int .i64 rw_) = w3 at *
  clear y0 y1 y2 y3 yf yl H2 G2 M2 C2 B2
  have hv0 : toldV r f (u, a, wh, lo) now ok = verd r f (u, now, ok, rw_) := by unfold toldV lifeUp; rw [HRW.out]
  have hl0 : lifeUp (u, a, wh, lo) now ok = (u, now, ok, rw_) := by unfold lifeUp; rw [HRW.out]
  have hv3 := verd3 r f (u, now, ok, rw_)
  refine (judge_any (u, now, ok, rw_) C3.out).mono ?_
  rintro x w4 ⟨rfl, hb4⟩
  have L4 := hid (L3.out.below hb4)
  have C4 := hid (C3.out.below hb4)
  have M4 := hid (M3.out.kept (below_grown hb4 none) (by simp))
  have G4 := hid (G3.out.trans (below_grown hb4 (some b)))
  clear hb4 L3 C3 M3 G3 HRW
  generalize verd r f (u, now, ok, rw_) = v at *
  have HV0 := hid hv0
  have HL0 := hid hl0
  have HPL := hid hl0
  clear hv0 hl0 HC HM
  rcases hv3 with rfl | rfl | rfl
  · have y0 := L4.out.2.1 0 _ rfl
    have y1 := L4.out.2.1 1 _ rfl
    have y2 := L4.out.2.1 2 _ rfl
    have y3 := L4.out.2.1 3 _ rfl
    have yf := L4.out.2.2
    have yl := L4.out.1
    go_upto_region 9 with (fail)
    clear y0 y1 y2 y3 yf yl
    have L5 := L4
    have C5 := C4
    have M5 := M4
    have G5 := G4
    clear L4 C4 M4 G4
    obtain ⟨w5, rfl⟩ : ∃ w5 : World, w5 = w4 := ⟨_, rfl⟩
    refine wp_region_held_drew (S := fun w' => Ce w' p [.int .i64 r, .int .i64 f, .int .i64 e, .map (some b)] ∧ Ce w' L [.bool u, .int .i64 now, .bool ok, .int .i64 rw_]) (by kernel_rfl) ?_ (fun hHeld => ?_)
    · exact ⟨C5.out, L5.out⟩
    refine tkq 0 (by assumption) ?_ (hy := by intro w hSw; (try dsimp only at hSw); obtain ⟨hSC, hSL⟩ := hSw; have y0 := hSC.2.1 3 _ rfl; have z0 := hSL.2.1 0 _ rfl; have z1 := hSL.2.1 1 _ rfl; have z2 := hSL.2.1 2 _ rfl; have z3 := hSL.2.1 3 _ rfl; go_simp; (try with_reducible rfl))
    refine tkq 1 (by assumption) ?_ (hy := by intro w hSw; (try dsimp only at hSw); obtain ⟨hSC, hSL⟩ := hSw; have y0 := hSC.2.1 3 _ rfl; have z0 := hSL.2.1 0 _ rfl; have z1 := hSL.2.1 1 _ rfl; have z2 := hSL.2.1 2 _ rfl; have z3 := hSL.2.1 3 _ rfl; go_simp; (try with_reducible rfl))
    refine tkq 2 (by assumption) ?_ (hy := by intro w hSw; (try dsimp only at hSw); obtain ⟨hSC, hSL⟩ := hSw; have y0 := hSC.2.1 3 _ rfl; have z0 := hSL.2.1 0 _ rfl; have z1 := hSL.2.1 1 _ rfl; have z2 := hSL.2.1 2 _ rfl; have z3 := hSL.2.1 3 _ rfl; go_simp; (try with_reducible rfl))
    refine tkq 3 (by assumption) ?_ (hy := by intro w hSw; (try dsimp only at hSw); obtain ⟨hSC, hSL⟩ := hSw; have y0 := hSC.2.1 3 _ rfl; have z0 := hSL.2.1 0 _ rfl; have z1 := hSL.2.1 1 _ rfl; have z2 := hSL.2.1 2 _ rfl; have z3 := hSL.2.1 3 _ rfl; go_simp; (try with_reducible rfl))
    refine tkq 4 (by assumption) ?_ (hy := by intro w hSw; (try dsimp only at hSw); obtain ⟨hSC, hSL⟩ := hSw; have y0 := hSC.2.1 3 _ rfl; have z0 := hSL.2.1 0 _ rfl; have z1 := hSL.2.1 1 _ rfl; have z2 := hSL.2.1 2 _ rfl; have z3 := hSL.2.1 3 _ rfl; go_simp; (try with_reducible rfl))
    refine tkq 5 (by assumption) ?_ (hy := by intro w hSw; (try dsimp only at hSw); obtain ⟨hSC, hSL⟩ := hSw; have y0 := hSC.2.1 3 _ rfl; have z0 := hSL.2.1 0 _ rfl; have z1 := hSL.2.1 1 _ rfl; have z2 := hSL.2.1 2 _ rfl; have z3 := hSL.2.1 3 _ rfl; go_simp; (try with_reducible rfl))
    refine only 6 rfl (by kernel_rfl) rfl (fun K hK => ?_)
    obtain ⟨D, h1, h2, h3⟩ := M5.out
    obtain ⟨w6, hrun, ho, hg⟩ := World.ownsMap.update (w := w5.drew) h1 keyed Tryz.underlying119 (by simp only [maxLen]; omega) (key_of hs64) (lifeR_at (u, now, ok, rw_))
    have HO := hid ho
    have HG := hid hg
    have H2 := hid h2
    have H3 := hid h3
    clear h1 h2 h3 ho hg
    have hrun2 : (Instr.mapUpdate 119 (.map (some b)) (.int .i64 s) (.agg #[.bool u, .int .i64 now, .bool ok, .int .i64 rw_])).run Tryz.prog w5.drew = .ok () w6 := hrun
    clear hrun
    go_simp
    refine hK.out _ _ ?_ (fun hHeld2 => ?_)
    · exact ⟨hHeld.1.grown HG.out (fun e => hne (by injection e with e; exact e.symm)), hHeld.2.grown HG.out (fun e => neb (by injection e with e; exact e.symm))⟩
    clear hK hrun2
    try simp only [Act.put, List.setIfInBounds_toArray, List.set_cons_zero, List.set_cons_succ]
    refine wpAnyH_done (by kernel_rfl) ?_ _
    have GD : World.grownBy w w5.drew (some b) := ⟨G5.out.os, G5.out.tape, G5.out.output, G5.out.size, G5.out.block⟩
    have HGD := hid (GD.trans HG.out)
    clear GD
    go_wp2_with fail
    go_ret
    refine (HP.out _ _).2 ⟨by rw [HV0.out]; rfl, ⟨hHeld2.1, ?_, hne⟩, HGD.out⟩
    have hl' : toldL r f (u, a, wh, lo) now ok = (u, now, ok, rw_) := by unfold toldL; rw [HV0.out]; exact (if_pos rfl).trans HL0.out
    rw [hl']
    exact MapAt.put_ H2.out H3.out s _ HO.out
  · have y0 := L4.out.2.1 0 _ rfl
    have y1 := L4.out.2.1 1 _ rfl
    have y2 := L4.out.2.1 2 _ rfl
    have y3 := L4.out.2.1 3 _ rfl
    have yf := L4.out.2.2
    have yl := L4.out.1
    go_upto_region 9 with (fail)
    clear y0 y1 y2 y3 yf yl
    have L5 : Hid (Ce (((w4.setCell ⟨L, 0, none⟩ (.bool true)).setCell ⟨L, 2, none⟩ (.bool false)).setCell ⟨L, 3, none⟩ (.int .i64 0)) L [.bool true, .int .i64 now, .bool false, .int .i64 0]) := hid (((L4.out.set 0 (.bool true) (by simp)).set 2 (.bool false) (by simp)).set 3 (.int .i64 0) (by simp))
    have C5 := hid (((C4.out.grown (grown_setQ _ ⟨L, 0, none⟩ (.bool true)) (fun e => nep (by injection e))).grown (grown_setQ _ ⟨L, 2, none⟩ (.bool false)) (fun e => nep (by injection e))).grown (grown_setQ _ ⟨L, 3, none⟩ (.int .i64 0)) (fun e => nep (by injection e)))
    have M5 := hid (((M4.out.kept (grown_setQ _ ⟨L, 0, none⟩ (.bool true)) (fun e => neb (by injection e with e; exact e.symm))).kept (grown_setQ _ ⟨L, 2, none⟩ (.bool false)) (fun e => neb (by injection e with e; exact e.symm))).kept (grown_setQ _ ⟨L, 3, none⟩ (.int .i64 0)) (fun e => neb (by injection e with e; exact e.symm)))
    have G5 := hid (grown_step (grown_step (grown_step G4.out (grown_setQ _ ⟨L, 0, none⟩ (.bool true)) (by rw [HL.out]; exact Nat.le_refl _)) (grown_setQ _ ⟨L, 2, none⟩ (.bool false)) (by rw [HL.out]; exact Nat.le_refl _)) (grown_setQ _ ⟨L, 3, none⟩ (.int .i64 0)) (by rw [HL.out]; exact Nat.le_refl _))
    generalize ((w4.setCell ⟨L, 0, none⟩ (.bool true)).setCell ⟨L, 2, none⟩ (.bool false)).setCell ⟨L, 3, none⟩ (.int .i64 0) = w5 at *
    clear L4 C4 M4 G4
    refine wp_region_held_drew (S := fun w' => Ce w' p [.int .i64 r, .int .i64 f, .int .i64 e, .map (some b)] ∧ Ce w' L [.bool true, .int .i64 now, .bool false, .int .i64 0]) (by kernel_rfl) ?_ (fun hHeld => ?_)
    · exact ⟨C5.out, L5.out⟩
    refine tkq 0 (by assumption) ?_ (hy := by intro w hSw; (try dsimp only at hSw); obtain ⟨hSC, hSL⟩ := hSw; have y0 := hSC.2.1 3 _ rfl; have z0 := hSL.2.1 0 _ rfl; have z1 := hSL.2.1 1 _ rfl; have z2 := hSL.2.1 2 _ rfl; have z3 := hSL.2.1 3 _ rfl; go_simp; (try with_reducible rfl))
    refine tkq 1 (by assumption) ?_ (hy := by intro w hSw; (try dsimp only at hSw); obtain ⟨hSC, hSL⟩ := hSw; have y0 := hSC.2.1 3 _ rfl; have z0 := hSL.2.1 0 _ rfl; have z1 := hSL.2.1 1 _ rfl; have z2 := hSL.2.1 2 _ rfl; have z3 := hSL.2.1 3 _ rfl; go_simp; (try with_reducible rfl))
    refine tkq 2 (by assumption) ?_ (hy := by intro w hSw; (try dsimp only at hSw); obtain ⟨hSC, hSL⟩ := hSw; have y0 := hSC.2.1 3 _ rfl; have z0 := hSL.2.1 0 _ rfl; have z1 := hSL.2.1 1 _ rfl; have z2 := hSL.2.1 2 _ rfl; have z3 := hSL.2.1 3 _ rfl; go_simp; (try with_reducible rfl))
    refine tkq 3 (by assumption) ?_ (hy := by intro w hSw; (try dsimp only at hSw); obtain ⟨hSC, hSL⟩ := hSw; have y0 := hSC.2.1 3 _ rfl; have z0 := hSL.2.1 0 _ rfl; have z1 := hSL.2.1 1 _ rfl; have z2 := hSL.2.1 2 _ rfl; have z3 := hSL.2.1 3 _ rfl; go_simp; (try with_reducible rfl))
    refine tkq 4 (by assumption) ?_ (hy := by intro w hSw; (try dsimp only at hSw); obtain ⟨hSC, hSL⟩ := hSw; have y0 := hSC.2.1 3 _ rfl; have z0 := hSL.2.1 0 _ rfl; have z1 := hSL.2.1 1 _ rfl; have z2 := hSL.2.1 2 _ rfl; have z3 := hSL.2.1 3 _ rfl; go_simp; (try with_reducible rfl))
    refine tkq 5 (by assumption) ?_ (hy := by intro w hSw; (try dsimp only at hSw); obtain ⟨hSC, hSL⟩ := hSw; have y0 := hSC.2.1 3 _ rfl; have z0 := hSL.2.1 0 _ rfl; have z1 := hSL.2.1 1 _ rfl; have z2 := hSL.2.1 2 _ rfl; have z3 := hSL.2.1 3 _ rfl; go_simp; (try with_reducible rfl))
    refine only 6 rfl (by kernel_rfl) rfl (fun K hK => ?_)
    obtain ⟨D, h1, h2, h3⟩ := M5.out
    obtain ⟨w6, hrun, ho, hg⟩ := World.ownsMap.update (w := w5.drew) h1 keyed Tryz.underlying119 (by simp only [maxLen]; omega) (key_of hs64) (lifeR_at (true, now, false, 0))
    have HO := hid ho
    have HG := hid hg
    have H2 := hid h2
    have H3 := hid h3
    clear h1 h2 h3 ho hg
    have hrun2 : (Instr.mapUpdate 119 (.map (some b)) (.int .i64 s) (.agg #[.bool true, .int .i64 now, .bool false, .int .i64 0])).run Tryz.prog w5.drew = .ok () w6 := hrun
    clear hrun
    go_simp
    refine hK.out _ _ ?_ (fun hHeld2 => ?_)
    · exact ⟨hHeld.1.grown HG.out (fun e => hne (by injection e with e; exact e.symm)), hHeld.2.grown HG.out (fun e => neb (by injection e with e; exact e.symm))⟩
    clear hK hrun2
    try simp only [Act.put, List.setIfInBounds_toArray, List.set_cons_zero, List.set_cons_succ]
    refine wpAnyH_done (by kernel_rfl) ?_ _
    have GD : World.grownBy w w5.drew (some b) := ⟨G5.out.os, G5.out.tape, G5.out.output, G5.out.size, G5.out.block⟩
    have HGD := hid (GD.trans HG.out)
    clear GD
    go_wp2_with fail
    go_ret
    refine (HP.out _ _).2 ⟨by rw [HV0.out]; rfl, ⟨hHeld2.1, ?_, hne⟩, HGD.out⟩
    have hl' : toldL r f (u, a, wh, lo) now ok = (true, now, false, 0) := by unfold toldL; rw [HV0.out]; rfl
    rw [hl']
    exact MapAt.put_ H2.out H3.out s _ HO.out
  · have y0 := L4.out.2.1 0 _ rfl
    have y1 := L4.out.2.1 1 _ rfl
    have y2 := L4.out.2.1 2 _ rfl
    have y3 := L4.out.2.1 3 _ rfl
    have yf := L4.out.2.2
    have yl := L4.out.1
    go_upto_region 9 with (fail)
    clear y0 y1 y2 y3 yf yl
    have L5 : Hid (Ce (((w4.setCell ⟨L, 0, none⟩ (.bool false)).setCell ⟨L, 2, none⟩ (.bool false)).setCell ⟨L, 3, none⟩ (.int .i64 0)) L [.bool false, .int .i64 now, .bool false, .int .i64 0]) := hid (((L4.out.set 0 (.bool false) (by simp)).set 2 (.bool false) (by simp)).set 3 (.int .i64 0) (by simp))
    have C5 := hid (((C4.out.grown (grown_setQ _ ⟨L, 0, none⟩ (.bool false)) (fun e => nep (by injection e))).grown (grown_setQ _ ⟨L, 2, none⟩ (.bool false)) (fun e => nep (by injection e))).grown (grown_setQ _ ⟨L, 3, none⟩ (.int .i64 0)) (fun e => nep (by injection e)))
    have M5 := hid (((M4.out.kept (grown_setQ _ ⟨L, 0, none⟩ (.bool false)) (fun e => neb (by injection e with e; exact e.symm))).kept (grown_setQ _ ⟨L, 2, none⟩ (.bool false)) (fun e => neb (by injection e with e; exact e.symm))).kept (grown_setQ _ ⟨L, 3, none⟩ (.int .i64 0)) (fun e => neb (by injection e with e; exact e.symm)))
    have G5 := hid (grown_step (grown_step (grown_step G4.out (grown_setQ _ ⟨L, 0, none⟩ (.bool false)) (by rw [HL.out]; exact Nat.le_refl _)) (grown_setQ _ ⟨L, 2, none⟩ (.bool false)) (by rw [HL.out]; exact Nat.le_refl _)) (grown_setQ _ ⟨L, 3, none⟩ (.int .i64 0)) (by rw [HL.out]; exact Nat.le_refl _))
    generalize ((w4.setCell ⟨L, 0, none⟩ (.bool false)).setCell ⟨L, 2, none⟩ (.bool false)).setCell ⟨L, 3, none⟩ (.int .i64 0) = w5 at *
    clear L4 C4 M4 G4
    refine wp_region_held_drew (S := fun w' => Ce w' p [.int .i64 r, .int .i64 f, .int .i64 e, .map (some b)] ∧ Ce w' L [.bool false, .int .i64 now, .bool false, .int .i64 0]) (by kernel_rfl) ?_ (fun hHeld => ?_)
    · exact ⟨C5.out, L5.out⟩
    refine tkq 0 (by assumption) ?_ (hy := by intro w hSw; (try dsimp only at hSw); obtain ⟨hSC, hSL⟩ := hSw; have y0 := hSC.2.1 3 _ rfl; have z0 := hSL.2.1 0 _ rfl; have z1 := hSL.2.1 1 _ rfl; have z2 := hSL.2.1 2 _ rfl; have z3 := hSL.2.1 3 _ rfl; go_simp; (try with_reducible rfl))
    refine tkq 1 (by assumption) ?_ (hy := by intro w hSw; (try dsimp only at hSw); obtain ⟨hSC, hSL⟩ := hSw; have y0 := hSC.2.1 3 _ rfl; have z0 := hSL.2.1 0 _ rfl; have z1 := hSL.2.1 1 _ rfl; have z2 := hSL.2.1 2 _ rfl; have z3 := hSL.2.1 3 _ rfl; go_simp; (try with_reducible rfl))
    refine tkq 2 (by assumption) ?_ (hy := by intro w hSw; (try dsimp only at hSw); obtain ⟨hSC, hSL⟩ := hSw; have y0 := hSC.2.1 3 _ rfl; have z0 := hSL.2.1 0 _ rfl; have z1 := hSL.2.1 1 _ rfl; have z2 := hSL.2.1 2 _ rfl; have z3 := hSL.2.1 3 _ rfl; go_simp; (try with_reducible rfl))
    refine tkq 3 (by assumption) ?_ (hy := by intro w hSw; (try dsimp only at hSw); obtain ⟨hSC, hSL⟩ := hSw; have y0 := hSC.2.1 3 _ rfl; have z0 := hSL.2.1 0 _ rfl; have z1 := hSL.2.1 1 _ rfl; have z2 := hSL.2.1 2 _ rfl; have z3 := hSL.2.1 3 _ rfl; go_simp; (try with_reducible rfl))
    refine tkq 4 (by assumption) ?_ (hy := by intro w hSw; (try dsimp only at hSw); obtain ⟨hSC, hSL⟩ := hSw; have y0 := hSC.2.1 3 _ rfl; have z0 := hSL.2.1 0 _ rfl; have z1 := hSL.2.1 1 _ rfl; have z2 := hSL.2.1 2 _ rfl; have z3 := hSL.2.1 3 _ rfl; go_simp; (try with_reducible rfl))
    refine tkq 5 (by assumption) ?_ (hy := by intro w hSw; (try dsimp only at hSw); obtain ⟨hSC, hSL⟩ := hSw; have y0 := hSC.2.1 3 _ rfl; have z0 := hSL.2.1 0 _ rfl; have z1 := hSL.2.1 1 _ rfl; have z2 := hSL.2.1 2 _ rfl; have z3 := hSL.2.1 3 _ rfl; go_simp; (try with_reducible rfl))
    refine only 6 rfl (by kernel_rfl) rfl (fun K hK => ?_)
    obtain ⟨D, h1, h2, h3⟩ := M5.out
    obtain ⟨w6, hrun, ho, hg⟩ := World.ownsMap.update (w := w5.drew) h1 keyed Tryz.underlying119 (by simp only [maxLen]; omega) (key_of hs64) (lifeR_at (false, now, false, 0))
    have HO := hid ho
    have HG := hid hg
    have H2 := hid h2
    have H3 := hid h3
    clear h1 h2 h3 ho hg
    have hrun2 : (Instr.mapUpdate 119 (.map (some b)) (.int .i64 s) (.agg #[.bool false, .int .i64 now, .bool false, .int .i64 0])).run Tryz.prog w5.drew = .ok () w6 := hrun
    clear hrun
    go_simp
    refine hK.out _ _ ?_ (fun hHeld2 => ?_)
    · exact ⟨hHeld.1.grown HG.out (fun e => hne (by injection e with e; exact e.symm)), hHeld.2.grown HG.out (fun e => neb (by injection e with e; exact e.symm))⟩
    clear hK hrun2
    try simp only [Act.put, List.setIfInBounds_toArray, List.set_cons_zero, List.set_cons_succ]
    refine wpAnyH_done (by kernel_rfl) ?_ _
    have GD : World.grownBy w w5.drew (some b) := ⟨G5.out.os, G5.out.tape, G5.out.output, G5.out.size, G5.out.block⟩
    have HGD := hid (GD.trans HG.out)
    clear GD
    go_wp2_with fail
    go_ret
    refine (HP.out _ _).2 ⟨by rw [HV0.out]; rfl, ⟨hHeld2.1, ?_, hne⟩, HGD.out⟩
    have hl' : toldL r f (u, a, wh, lo) now ok = (false, now, false, 0) := by unfold toldL; rw [HV0.out]; rfl
    rw [hl']
    exact MapAt.put_ H2.out H3.out s _ HO.out
end Go.Proofs.YthgffpfigmibhaaGreat
