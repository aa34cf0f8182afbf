/- A yard is made. -/
import Derived.Test.YteefhiniamajkaaGreatYdb
import Derived.Test.YteefhiniamajkaaGreatYdTick
import Derived.Test.YteefhiniamajkaaGreatPln
import Derived.BigQuiet
import Derived.Deep.RegionHeld3
import Derived.Deep.Cut
import Derived.IntWalk
namespace Go.Proofs.YteefhiniamajkaaGreat
set_option linter.unusedVariables false
set_option linter.unusedSimpArgs false
open Go.RowKit Go.ChangeShapes Go.WideShapes Go.ChangeAt
set_option maxRecDepth 100000
theorem mk_chan1 (w : World) : (Instr.makeChan 65 (.int .i64 1)).run Tryz.prog w = .ok (.chan (some w.heap.size)) (w.alloc (.chan 1 #[] false 0 0 false)) := by
  have h : (Tryz.prog.info? 94).map (·.bytes) = some 2728 := by kernel_rfl
  obtain ⟨i, hi, hb⟩ := Option.map_eq_some_iff.1 h
  exact Go.Conc.run_makeChan (P := Tryz.prog) (w := w) Tryz.underlying65 hi .i64 1 (by omega) (by rw [hb]; omega)
theorem info_pu : (Tryz.prog.info? 72).map (fun i => (i.zero, i.size, i.bytes)) = some (some (.pointer none), 1, 8) := by kernel_rfl
theorem build_yard (hb ca cm : Nat) (w : World) : (Instr.build 71 #[(0, .pointer (some ⟨hb, 0, none⟩)), (3, .chan (some ca)), (4, .chan (some cm))]).run Tryz.prog w = .ok (.agg (FA 5 (yc hb (.slice none 0 0) (.slice none 0 0) ca cm))) w := run_build w _ _ _ (by kernel_rfl)
section
variable {S : List Nat} {W w : World} {L : List Th} {Q : Exit → Act → World → Prop} {o : Oper} {a : Act} {K : Act → World → Prop} {t1 t2 t3 : Th}
theorem ow_mkchan1 {x : Operand} (ho : o.op = .makeChan 65 x) (hx : a.eval x = .int .i64 1) (hS : HS S W w L)
    (h : ∀ c w', HS S W w' (thC1 c [] :: L) → W.heap.size ≤ c → K (a.put o.dst (.chan (some c))) w') : o.wp Tryz.prog a w K Q := by
  refine ow_val (v := .chan (some w.heap.size)) (w' := w.alloc (.chan 1 #[] false 0 0 false)) ?_ (h _ _ (hS.new (thC1 w.heap.size []) ((Below.refl _ _).alloc (Nat.le_refl _) _) ⟨0, 0, heap_alloc_new w _⟩ (by simp [thC1]) (fun b hb => by simp [thC1] at hb; omega)) hS.wsize)
  unfold execOp
  simp only [ho, hx, Sem.run_bind, mk_chan1, Result.andThen_ok, Sem.run_pure]
theorem HS.sw12 (h : HS S W w (t1 :: t2 :: t3 :: L)) : HS S W w (t1 :: t3 :: t2 :: L) := h.perm (List.Perm.cons t1 (List.Perm.swap t3 t2 L))
end
theorem perm6 {α : Type} (t1 t2 t3 t4 t5 t6 : α) (R : List α) : (t1 :: t2 :: t3 :: t4 :: t5 :: t6 :: R).Perm (t3 :: t1 :: t6 :: t5 :: t4 :: t2 :: R) := by
  classical
  rw [List.perm_iff_count]
  intro a
  simp only [List.count_cons]
  ac_rfl
/-- A yard of which k units are made. -/
def YM (D : Yl) (h : Hd) (uf : Nat → Uy) (R : List Th) (k : Nat) : List Th := thB D.Y 5 (yc D.hb D.U D.V D.ca D.cm) :: thL D.V D.ns :: thH D.hb D.hc D.hm D.hn h :: thC1 D.ca [] :: thC1 D.cm [] :: thW 0 72 1 D.U k (ubV D) :: ((List.range k).map (unT D uf) ++ (nths D.ns ++ R))
def addB (f : Nat → Nat × Nat × Nat) (k ub pb j : Nat) : Nat × Nat × Nat := if j = k then (ub, pb, 0) else f j
theorem ubv_add (D : Yl) (U' : Value) (f : Nat → Nat × Nat × Nat) (k ub pb j : Nat) (hj : j < (k + 1) * 1) : two (k * 1) (ubV { D with U := U', bf := f }) (fun _ => .pointer (some ⟨ub, 0, none⟩)) j = ubV { D with bf := addB f k ub pb } j := by
  unfold two ubV addB
  by_cases h : j < k * 1
  · rw [if_pos h]
    simp only [if_neg (show ¬ j = k by omega)]
  · rw [if_neg h]
    simp only [if_pos (show j = k by omega)]
section
variable {S : List Nat} {W w : World} {D : Yl} {h : Hd} {uf : Nat → Uy} {R : List Th} {k : Nat}
theorem YM.form (hS : HS S W w (YM D h uf R k)) : ∃ A c, D.U = .slice A k c ∧ k ≤ c := by
  have h1 : Ow w 0 72 1 D.U k (ubV D) := hS.nth 5 rfl
  obtain ⟨A, c, e, hc, _⟩ := Ow.form_ h1
  exact ⟨A, c, e, hc⟩
theorem YM.c1 (hS : HS S W w (YM D h uf R k)) : w.cell? ⟨D.Y, 1, none⟩ = some D.U := (hS.fb 0 rfl).2.1 1 (by omega)
theorem ym_start {Y hb hc hm u ca cm : Nat} (hS : HS S W w (thB Y 5 (yc hb (.slice none 0 0) (.slice none 0 0) ca cm) :: thC1 cm [] :: thC1 ca [] :: thH hb hc hm u h :: R)) : HS S W w (YM ⟨Y, hb, hc, hm, u, (.slice none 0 0), (.slice none 0 0), fun _ => (0, 0, 0), [], ca, cm⟩ h uf R 0) := by
  have h1 : HS S W w (thL (.slice none 0 0) [] :: thW 0 72 1 (.slice none 0 0) 0 (ubV ⟨Y, hb, hc, hm, u, (.slice none 0 0), (.slice none 0 0), fun _ => (0, 0, 0), [], ca, cm⟩) :: thB Y 5 (yc hb (.slice none 0 0) (.slice none 0 0) ca cm) :: thC1 cm [] :: thC1 ca [] :: thH hb hc hm u h :: R) := HS.nilW (HS.nilW hS)
  exact h1.perm (perm6 _ _ _ _ _ _ _)
end
attribute [local irreducible] FA FL
section
variable {S : List Nat} {W w : World} {D : Yl} {h : Hd} {R : List Th} {k E ub pb c c' : Nat} {A A' : Option Addr} {f : Nat → Nat × Nat × Nat} {uf : Nat → Uy}
theorem ym_step (hS : HS S W w ([thC E [.pointer (some ⟨ub, 0, none⟩)], thU k ub pb 0 ⟨0, zPl, false⟩, thB D.Y 5 (yc D.hb (.slice A k c) D.V D.ca D.cm), thL D.V D.ns, thH D.hb D.hc D.hm D.hn h, thC1 D.ca [], thC1 D.cm []] ++ thW 0 72 1 (.slice A' (k + 1) c') (k + 1) (ubV { D with bf := addB f k ub pb }) :: ((List.range k).map (unT { D with U := .slice A k c, bf := f } uf) ++ (nths D.ns ++ R)))) (hu : uf k = ⟨0, zPl, false⟩) :
    HS S W (w.setCell ⟨D.Y, 1, none⟩ (.slice A' (k + 1) c')) (YM { D with U := .slice A' (k + 1) c', bf := addB f k ub pb } h uf R (k + 1)) := by
  have h1 := HS.set1 (A := [thC E [.pointer (some ⟨ub, 0, none⟩)], thU k ub pb 0 ⟨0, zPl, false⟩]) hS 1 (.slice A' (k + 1) c') (by omega) (yc D.hb (.slice A' (k + 1) c') D.V D.ca D.cm) (fun j _ => yc_units _ _ _ _ _ _ _)
  have h2 := h1.tail.perm (put_end (thU k ub pb 0 ⟨0, zPl, false⟩) (thB D.Y 5 (yc D.hb (.slice A' (k + 1) c') D.V D.ca D.cm) :: thL D.V D.ns :: thH D.hb D.hc D.hm D.hn h :: thC1 D.ca [] :: thC1 D.cm [] :: [thW 0 72 1 (.slice A' (k + 1) c') (k + 1) (ubV { D with bf := addB f k ub pb })]) ((List.range k).map (unT { D with U := .slice A k c, bf := f } uf)) (nths D.ns ++ R))
  have e : (List.range k).map (unT { D with U := .slice A k c, bf := f } uf) ++ [thU k ub pb 0 ⟨0, zPl, false⟩] = (List.range (k + 1)).map (unT { D with U := .slice A' (k + 1) c', bf := addB f k ub pb } uf) := by
    rw [List.range_succ, List.map_append, List.map_singleton]
    congr 1
    · refine List.map_congr_left fun j hj => ?_
      have hj' : j < k := by simpa using hj
      unfold unT addB
      simp only [if_neg (show ¬ j = k by omega)]
    · unfold unT addB
      simp only [if_pos rfl, hu]
      rfl
  rw [e] at h2
  exact h2
set_option maxHeartbeats 32000000 in
theorem yd_new (hS : HS S W w R) (p : Pl) (u : Nat) (hu : 1 ≤ u ∧ u ≤ 16) : Calls Tryz.prog 7 #[.agg (FA 330 (pc p)), .int .i64 (u : Int)] w fun x w' => ∃ D : Yl, x = .returned (.tuple #[.pointer (some ⟨D.Y, 0, none⟩), .int .i64 0]) ∧ D.ns = [] ∧ D.hn ≤ 16 ∧ HS S W w' (YL D (newH p u) (fun _ => ⟨0, zPl, false⟩) R) := by
  have S0 := hid hS
  clear hS
  obtain ⟨H, hH⟩ : ∃ H, H = newH p u := ⟨_, rfl⟩
  have HHH := hid hH
  have HN := hid (fun w' => hnew_fa p u hu w')
  unfold NewOk at HN
  rw [← hH] at HN ⊢
  have hun : H.un = u := by rw [hH]; rfl
  clear hH
  have HUN := hid hun
  clear hun
  have hu0 := hu.2
  go_enter Tryz.func7, Tryz.ntmps7
  go_upto_region 0 with (fail)
  apply wp_region_lit
  refine wl_ow rfl (ow_box rfl rfl (by omega) S0.out (fun P w1 hZ _ => ?_))
  have S1 := hid hZ
  clear hZ S0
  try simp only [Act.put, List.setIfInBounds_toArray, List.set_cons_zero, List.set_cons_succ]
  refine wl_val (v := ?_) rfl ?_ ?_; rotate_left; (focus ( go_simp; (try with_reducible rfl))); (try simp only [Act.put, List.setIfInBounds_toArray, List.set_cons_zero, List.set_cons_succ])
  refine wl_val (v := ?_) rfl ?_ ?_; rotate_left; (focus ( go_simp; (try with_reducible rfl))); (try simp only [Act.put, List.setIfInBounds_toArray, List.set_cons_zero, List.set_cons_succ])
  go_wp2_with ((with_reducible refine wl_id ?_); refine wl_ow rfl (ow_load 0 rfl 0 330 (pc p) rfl rfl S1.out (by omega) (fun j hj => by rw [Nat.zero_add]) Tryz.underlying33 rfl info_pl ?_))
  refine (HN.out _).mono ?_
  rintro x w2 ⟨hb, hc, hm, rfl, hH, g1, g2, g3, hB⟩
  have S2 := hid (S1.out.addH hH g1 g2 g3 hB)
  clear hH g1 g2 g3 hB S1 HN
  go_simp
  go_upto_region 4 with (fail)
  go_cut [8] from 19 to 23 (fun y wx => ∃ Y ca cm : Nat, y = .pointer (some ⟨Y, 0, none⟩) ∧ HS S W wx (thB Y 5 (yc hb (.slice none 0 0) (.slice none 0 0) ca cm) :: thC1 cm [] :: thC1 ca [] :: thH hb hc hm u H :: thB P 330 (pc p) :: R))
  case first =>
    refine wp_region_held_drew (S := fun (w' : World) => True) (by kernel_rfl) ?_ (fun hHeld => ?_)
    · exact trivial
    have F0 := S2.out.drew
    refine tkq 0 hHeld ?_
    refine twoUp 1 2 rfl rfl (by kernel_rfl) rfl rfl (fun K hK => ?_) (fun K hK => ?_)
    · refine ow_mkchan1 rfl rfl F0 (fun c1 w3 hZ _ => ?_)
      have F1 := hZ
      clear hZ
      refine hK.out _ _ (trivial) (fun h2 => ?_)
      clear hK
      try simp only [Act.put, List.setIfInBounds_toArray, List.set_cons_zero, List.set_cons_succ]
      refine only 2 rfl (by kernel_rfl) rfl (fun K hK => ?_)
      refine ow_mkchan1 rfl rfl F1 (fun c2 w4 hZ _ => ?_)
      have F2 := hZ
      clear hZ
      refine hK.out _ _ (trivial) (fun h3 => ?_)
      clear hK
      try simp only [Act.put, List.setIfInBounds_toArray, List.set_cons_zero, List.set_cons_succ]
      refine tk 3 (v := .agg (FA 5 (yc hb (.slice none 0 0) (.slice none 0 0) c1 c2))) rfl (by kernel_rfl) (by kernel_rfl) (by kernel_rfl) (fun _ _ _ h => h) rfl (fun w hSw => ex_build3 rfl rfl rfl rfl (build_yard _ _ _ _)) trivial ?_; (try simp only [Act.put, List.setIfInBounds_toArray, List.set_cons_zero, List.set_cons_succ])
      refine only 4 rfl (by kernel_rfl) rfl (fun K hK => ?_)
      refine ow_box rfl rfl (by omega) F2 (fun Y w5 hZ _ => ?_)
      have F3 := hZ
      clear hZ
      refine hK.out _ _ (trivial) (fun h4 => ?_)
      clear hK
      try simp only [Act.put, List.setIfInBounds_toArray, List.set_cons_zero, List.set_cons_succ]
      refine tkq 5 h4 ?_
      refine wpAnyH_done (by kernel_rfl) ?_ _
      go_wp2_with fail
      go_meet
      exact ⟨Y, c1, c2, rfl, F3⟩
    · refine ow_mkchan1 rfl rfl F0 (fun c1 w3 hZ _ => ?_)
      have F1 := hZ
      clear hZ
      refine hK.out _ _ (trivial) (fun h2 => ?_)
      clear hK
      try simp only [Act.put, List.setIfInBounds_toArray, List.set_cons_zero, List.set_cons_succ]
      refine only 1 rfl (by kernel_rfl) rfl (fun K hK => ?_)
      refine ow_mkchan1 rfl rfl F1 (fun c2 w4 hZ _ => ?_)
      have F2 := hZ
      clear hZ
      refine hK.out _ _ (trivial) (fun h3 => ?_)
      clear hK
      try simp only [Act.put, List.setIfInBounds_toArray, List.set_cons_zero, List.set_cons_succ]
      refine tk 3 (v := .agg (FA 5 (yc hb (.slice none 0 0) (.slice none 0 0) c2 c1))) rfl (by kernel_rfl) (by kernel_rfl) (by kernel_rfl) (fun _ _ _ h => h) rfl (fun w hSw => ex_build3 rfl rfl rfl rfl (build_yard _ _ _ _)) trivial ?_; (try simp only [Act.put, List.setIfInBounds_toArray, List.set_cons_zero, List.set_cons_succ])
      refine only 4 rfl (by kernel_rfl) rfl (fun K hK => ?_)
      refine ow_box rfl rfl (by omega) F2 (fun Y w5 hZ _ => ?_)
      have F3 := hZ
      clear hZ
      refine hK.out _ _ (trivial) (fun h4 => ?_)
      clear hK
      try simp only [Act.put, List.setIfInBounds_toArray, List.set_cons_zero, List.set_cons_succ]
      refine tkq 5 h4 ?_
      refine wpAnyH_done (by kernel_rfl) ?_ _
      go_wp2_with fail
      go_meet
      exact ⟨Y, c2, c1, rfl, HS.sw12 F3⟩
  case rest =>
    obtain ⟨Y, ca, cm, rfl, hS3⟩ := hcut
    have S3 := hid hS3
    clear hS3 S2
    obtain ⟨D0, hD0⟩ : ∃ D0 : Yl, D0 = ⟨Y, hb, hc, hm, u, (.slice none 0 0), (.slice none 0 0), fun _ => (0, 0, 0), [], ca, cm⟩ := ⟨_, rfl⟩
    have S4 := hid (ym_start (uf := (fun _ => ⟨0, zPl, false⟩)) S3.out)
    rw [← hD0] at S4
    have HY : D0.Y = Y := by rw [hD0]
    have HNS := hid (show D0.ns = [] ∧ D0.hn = u from by rw [hD0]; exact ⟨rfl, rfl⟩)
    subst HY
    clear hD0 S3
    have hu16 : u ≤ 16 := hu0
    go_wp2_with fail
    go_loopw [25] (fun i wr => ∃ (k : Nat) (U : Value) (bf : Nat → Nat × Nat × Nat), k ≤ u ∧ i = .int .i64 (k : Int) ∧ HS S W wr (YM { D0 with U := U, bf := bf } H (fun _ => ⟨0, zPl, false⟩) (thB P 330 (pc p) :: R) k)) (fun i _ => u - (intOf i).toNat)
    case atStart => exact ⟨0, D0.U, D0.bf, Nat.zero_le _, rfl, S4.out⟩
    case round =>
      obtain ⟨k, U, bf, hk, rfl, hS⟩ := hrel
      have S5 := hid hS
      clear hS S4
      by_cases hlt : (k : Int) < u
      · obtain ⟨A, c, rfl, hc'⟩ := YM.form S5.out
        go_upto_region 8 with (fail)
        refine wp_region_held_drew (S := fun (w' : World) => True) (by kernel_rfl) ?_ (fun hHeld => ?_)
        · exact trivial
        have F0 := S5.out.drew
        clear S5
        refine tkq 0 hHeld ?_
        refine tkq 1 hHeld ?_
        refine tkq 2 hHeld ?_
        refine tkq 3 hHeld ?_
        refine tkq 5 hHeld ?_
        refine twoUp 4 6 rfl rfl (by kernel_rfl) rfl rfl (fun K hK => ?_) (fun K hK => ?_)
        · have c1 := YM.c1 F0
          refine ov_val (v := .slice A k c) (by go_simp) ?_
          refine hK.out _ _ (trivial) (fun h2 => ?_)
          clear hK
          try simp only [Act.put, List.setIfInBounds_toArray, List.set_cons_zero, List.set_cons_succ]
          clear c1
          refine only 6 rfl (by kernel_rfl) rfl (fun K hK => ?_)
          go_simp
          refine (unit_new F0 k).mono ?_
          rintro e' w6 ⟨ub, pb, rfl, hZ⟩
          try go_wp2_with fail
          have F1 := hZ
          clear hZ
          refine hK.out _ _ (trivial) (fun h3 => ?_)
          clear hK
          try simp only [Act.put, List.setIfInBounds_toArray, List.set_cons_zero, List.set_cons_succ]
          refine only 7 rfl (by kernel_rfl) rfl (fun K hK => ?_)
          have F2 := F1.cells (T := 72) [.pointer (some ⟨ub, 0, none⟩)]
          refine ow_val (v := .slice (some ⟨w6.heap.size, 0, none⟩) 1 1) (w' := w6.alloc (.cells #[.pointer (some ⟨ub, 0, none⟩)] 72)) (by go_simp) ?_
          generalize w6.alloc (.cells #[.pointer (some ⟨ub, 0, none⟩)] 72) = w7 at *
          obtain ⟨E, hE⟩ : ∃ E, E = w6.heap.size := ⟨_, rfl⟩
          rw [← hE] at F2 ⊢
          clear hE F1
          refine hK.out _ _ (trivial) (fun h5 => ?_)
          clear hK
          try simp only [Act.put, List.setIfInBounds_toArray, List.set_cons_zero, List.set_cons_succ]
          refine only 8 rfl (by kernel_rfl) rfl (fun K hK => ?_)
          obtain ⟨i0, hi, hz0, hz1, hz2⟩ := info_parts info_pu
          have ES : Sl w7 (some ⟨E, 0, none⟩) (1 * 1) (fun _ => .pointer (some ⟨ub, 0, none⟩)) := Sl.mk (F2.ce 0 rfl).1 (fun j hj => by rw [show j = 0 from by omega]; exact (F2.ce 0 rfl).2.1 0 _ rfl)
          refine ow_appW (A := [thC E [.pointer (some ⟨ub, 0, none⟩)], thU k ub pb 0 ⟨0, zPl, false⟩, thB D0.Y 5 (yc D0.hb (.slice A k c) D0.V D0.ca D0.cm), thL D0.V D0.ns, thH D0.hb D0.hc D0.hm D0.hn H, thC1 D0.ca [], thC1 D0.cm []]) (L := (List.range k).map (unT { D0 with U := .slice A k c, bf := bf } (fun _ => ⟨0, zPl, false⟩)) ++ (nths D0.ns ++ (thB P 330 (pc p) :: R))) (B := 0) (e := 72) (size := 1) (n := k) (f := ubV { D0 with U := .slice A k c, bf := bf }) (.tmp 32) (.tmp 35) rfl (z := .pointer none) (bytes := 8) Tryz.underlying66 hi hz0 hz1 hz2 rfl (by decide) rfl (X := some ⟨E, 0, none⟩) (m := 1) (c := 1) (f2 := fun _ => .pointer (some ⟨ub, 0, none⟩)) rfl F2 ES (fun j _ => rfl) (by simp only [maxLen]; omega) (by omega) (Nat.zero_le _) (ubV { D0 with bf := addB bf k ub pb }) (fun j hj => ubv_add _ _ _ _ _ _ j hj) (fun A' c' w8 hZ hcc _ => ?_)
          have F3 := hZ
          clear hZ F2 ES hi hz0 hz1 hz2
          refine hK.out _ _ (trivial) (fun h6 => ?_)
          clear hK
          try simp only [Act.put, List.setIfInBounds_toArray, List.set_cons_zero, List.set_cons_succ]
          refine tkq 9 trivial ?_
          refine tkq 10 trivial ?_
          refine only 11 rfl (by kernel_rfl) rfl (fun K hK => ?_)
          have hF : Fb w8 D0.Y 5 (yc D0.hb (.slice A k c) D0.V D0.ca D0.cm) := F3.nth 2 rfl
          have c1 : w8.cell? ⟨D0.Y, 1, none⟩ = some (.slice A k c) := hF.2.1 1 (by omega)
          have z1 := hF.2.2 1
          clear hF
          refine ov_store rfl rfl rfl (w' := w8.setCell ⟨D0.Y, 1, none⟩ (.slice A' (k + 1) c')) (by go_simp) ?_
          have F4 := ym_step (f := bf) F3 (by rfl)
          refine hK.out _ _ (trivial) (fun h7 => ?_)
          clear hK
          try simp only [Act.put, List.setIfInBounds_toArray, List.set_cons_zero, List.set_cons_succ]
          have S6 := hid F4
          clear F4 F3 c1 z1
          generalize w8.setCell ⟨D0.Y, 1, none⟩ (.slice A' (k + 1) c') = w9 at *
          refine wpAnyH_done (by kernel_rfl) ?_ _
          go_wp2_with fail
          go_roundw
          case rel => exact ⟨k + 1, _, addB bf k ub pb, by omega, by go_num, S6.out⟩
          case measure => simp [intOf]; omega
        · go_simp
          refine (unit_new F0 k).mono ?_
          rintro e' w6 ⟨ub, pb, rfl, hZ⟩
          try go_wp2_with fail
          have F1 := hZ
          clear hZ
          refine hK.out _ _ (trivial) (fun h3 => ?_)
          clear hK
          try simp only [Act.put, List.setIfInBounds_toArray, List.set_cons_zero, List.set_cons_succ]
          refine twoUp 4 7 rfl rfl (by kernel_rfl) rfl rfl (fun K hK => ?_) (fun K hK => ?_)
          · have c1 := YM.c1 F1.tail
            refine ov_val (v := .slice A k c) (by go_simp) ?_
            refine hK.out _ _ (trivial) (fun h2 => ?_)
            clear hK
            try simp only [Act.put, List.setIfInBounds_toArray, List.set_cons_zero, List.set_cons_succ]
            clear c1
            refine only 7 rfl (by kernel_rfl) rfl (fun K hK => ?_)
            have F2 := F1.cells (T := 72) [.pointer (some ⟨ub, 0, none⟩)]
            refine ow_val (v := .slice (some ⟨w6.heap.size, 0, none⟩) 1 1) (w' := w6.alloc (.cells #[.pointer (some ⟨ub, 0, none⟩)] 72)) (by go_simp) ?_
            generalize w6.alloc (.cells #[.pointer (some ⟨ub, 0, none⟩)] 72) = w7 at *
            obtain ⟨E, hE⟩ : ∃ E, E = w6.heap.size := ⟨_, rfl⟩
            rw [← hE] at F2 ⊢
            clear hE F1
            refine hK.out _ _ (trivial) (fun h5 => ?_)
            clear hK
            try simp only [Act.put, List.setIfInBounds_toArray, List.set_cons_zero, List.set_cons_succ]
            refine only 8 rfl (by kernel_rfl) rfl (fun K hK => ?_)
            obtain ⟨i0, hi, hz0, hz1, hz2⟩ := info_parts info_pu
            have ES : Sl w7 (some ⟨E, 0, none⟩) (1 * 1) (fun _ => .pointer (some ⟨ub, 0, none⟩)) := Sl.mk (F2.ce 0 rfl).1 (fun j hj => by rw [show j = 0 from by omega]; exact (F2.ce 0 rfl).2.1 0 _ rfl)
            refine ow_appW (A := [thC E [.pointer (some ⟨ub, 0, none⟩)], thU k ub pb 0 ⟨0, zPl, false⟩, thB D0.Y 5 (yc D0.hb (.slice A k c) D0.V D0.ca D0.cm), thL D0.V D0.ns, thH D0.hb D0.hc D0.hm D0.hn H, thC1 D0.ca [], thC1 D0.cm []]) (L := (List.range k).map (unT { D0 with U := .slice A k c, bf := bf } (fun _ => ⟨0, zPl, false⟩)) ++ (nths D0.ns ++ (thB P 330 (pc p) :: R))) (B := 0) (e := 72) (size := 1) (n := k) (f := ubV { D0 with U := .slice A k c, bf := bf }) (.tmp 32) (.tmp 35) rfl (z := .pointer none) (bytes := 8) Tryz.underlying66 hi hz0 hz1 hz2 rfl (by decide) rfl (X := some ⟨E, 0, none⟩) (m := 1) (c := 1) (f2 := fun _ => .pointer (some ⟨ub, 0, none⟩)) rfl F2 ES (fun j _ => rfl) (by simp only [maxLen]; omega) (by omega) (Nat.zero_le _) (ubV { D0 with bf := addB bf k ub pb }) (fun j hj => ubv_add _ _ _ _ _ _ j hj) (fun A' c' w8 hZ hcc _ => ?_)
            have F3 := hZ
            clear hZ F2 ES hi hz0 hz1 hz2
            refine hK.out _ _ (trivial) (fun h6 => ?_)
            clear hK
            try simp only [Act.put, List.setIfInBounds_toArray, List.set_cons_zero, List.set_cons_succ]
            refine tkq 9 trivial ?_
            refine tkq 10 trivial ?_
            refine only 11 rfl (by kernel_rfl) rfl (fun K hK => ?_)
            have hF : Fb w8 D0.Y 5 (yc D0.hb (.slice A k c) D0.V D0.ca D0.cm) := F3.nth 2 rfl
            have c1 : w8.cell? ⟨D0.Y, 1, none⟩ = some (.slice A k c) := hF.2.1 1 (by omega)
            have z1 := hF.2.2 1
            clear hF
            refine ov_store rfl rfl rfl (w' := w8.setCell ⟨D0.Y, 1, none⟩ (.slice A' (k + 1) c')) (by go_simp) ?_
            have F4 := ym_step (f := bf) F3 (by rfl)
            refine hK.out _ _ (trivial) (fun h7 => ?_)
            clear hK
            try simp only [Act.put, List.setIfInBounds_toArray, List.set_cons_zero, List.set_cons_succ]
            have S6 := hid F4
            clear F4 F3 c1 z1
            generalize w8.setCell ⟨D0.Y, 1, none⟩ (.slice A' (k + 1) c') = w9 at *
            refine wpAnyH_done (by kernel_rfl) ?_ _
            go_wp2_with fail
            go_roundw
            case rel => exact ⟨k + 1, _, addB bf k ub pb, by omega, by go_num, S6.out⟩
            case measure => simp [intOf]; omega
          · have F2 := F1.cells (T := 72) [.pointer (some ⟨ub, 0, none⟩)]
            refine ow_val (v := .slice (some ⟨w6.heap.size, 0, none⟩) 1 1) (w' := w6.alloc (.cells #[.pointer (some ⟨ub, 0, none⟩)] 72)) (by go_simp) ?_
            generalize w6.alloc (.cells #[.pointer (some ⟨ub, 0, none⟩)] 72) = w7 at *
            obtain ⟨E, hE⟩ : ∃ E, E = w6.heap.size := ⟨_, rfl⟩
            rw [← hE] at F2 ⊢
            clear hE F1
            refine hK.out _ _ (trivial) (fun h5 => ?_)
            clear hK
            try simp only [Act.put, List.setIfInBounds_toArray, List.set_cons_zero, List.set_cons_succ]
            refine only 4 rfl (by kernel_rfl) rfl (fun K hK => ?_)
            have c1 := YM.c1 F2.tail.tail
            refine ov_val (v := .slice A k c) (by go_simp) ?_
            refine hK.out _ _ (trivial) (fun h2 => ?_)
            clear hK
            try simp only [Act.put, List.setIfInBounds_toArray, List.set_cons_zero, List.set_cons_succ]
            clear c1
            refine only 8 rfl (by kernel_rfl) rfl (fun K hK => ?_)
            obtain ⟨i0, hi, hz0, hz1, hz2⟩ := info_parts info_pu
            have ES : Sl w7 (some ⟨E, 0, none⟩) (1 * 1) (fun _ => .pointer (some ⟨ub, 0, none⟩)) := Sl.mk (F2.ce 0 rfl).1 (fun j hj => by rw [show j = 0 from by omega]; exact (F2.ce 0 rfl).2.1 0 _ rfl)
            refine ow_appW (A := [thC E [.pointer (some ⟨ub, 0, none⟩)], thU k ub pb 0 ⟨0, zPl, false⟩, thB D0.Y 5 (yc D0.hb (.slice A k c) D0.V D0.ca D0.cm), thL D0.V D0.ns, thH D0.hb D0.hc D0.hm D0.hn H, thC1 D0.ca [], thC1 D0.cm []]) (L := (List.range k).map (unT { D0 with U := .slice A k c, bf := bf } (fun _ => ⟨0, zPl, false⟩)) ++ (nths D0.ns ++ (thB P 330 (pc p) :: R))) (B := 0) (e := 72) (size := 1) (n := k) (f := ubV { D0 with U := .slice A k c, bf := bf }) (.tmp 32) (.tmp 35) rfl (z := .pointer none) (bytes := 8) Tryz.underlying66 hi hz0 hz1 hz2 rfl (by decide) rfl (X := some ⟨E, 0, none⟩) (m := 1) (c := 1) (f2 := fun _ => .pointer (some ⟨ub, 0, none⟩)) rfl F2 ES (fun j _ => rfl) (by simp only [maxLen]; omega) (by omega) (Nat.zero_le _) (ubV { D0 with bf := addB bf k ub pb }) (fun j hj => ubv_add _ _ _ _ _ _ j hj) (fun A' c' w8 hZ hcc _ => ?_)
            have F3 := hZ
            clear hZ F2 ES hi hz0 hz1 hz2
            refine hK.out _ _ (trivial) (fun h6 => ?_)
            clear hK
            try simp only [Act.put, List.setIfInBounds_toArray, List.set_cons_zero, List.set_cons_succ]
            refine tkq 9 trivial ?_
            refine tkq 10 trivial ?_
            refine only 11 rfl (by kernel_rfl) rfl (fun K hK => ?_)
            have hF : Fb w8 D0.Y 5 (yc D0.hb (.slice A k c) D0.V D0.ca D0.cm) := F3.nth 2 rfl
            have c1 : w8.cell? ⟨D0.Y, 1, none⟩ = some (.slice A k c) := hF.2.1 1 (by omega)
            have z1 := hF.2.2 1
            clear hF
            refine ov_store rfl rfl rfl (w' := w8.setCell ⟨D0.Y, 1, none⟩ (.slice A' (k + 1) c')) (by go_simp) ?_
            have F4 := ym_step (f := bf) F3 (by rfl)
            refine hK.out _ _ (trivial) (fun h7 => ?_)
            clear hK
            try simp only [Act.put, List.setIfInBounds_toArray, List.set_cons_zero, List.set_cons_succ]
            have S6 := hid F4
            clear F4 F3 c1 z1
            generalize w8.setCell ⟨D0.Y, 1, none⟩ (.slice A' (k + 1) c') = w9 at *
            refine wpAnyH_done (by kernel_rfl) ?_ _
            go_wp2_with fail
            go_roundw
            case rel => exact ⟨k + 1, _, addB bf k ub pb, by omega, by go_num, S6.out⟩
            case measure => simp [intOf]; omega
      · have hku : k = u := by omega
        subst hku
        go_wp2_with fail
        go_ret2
        refine ⟨{ D0 with U := U, bf := bf }, rfl, HNS.out.1, by rw [HNS.out.2]; exact hu16, ?_⟩
        have h9 := S5.out
        rw [← HUN.out] at h9
        exact h9.sub (YL.lessR { D0 with U := U, bf := bf } H _ [thB P 330 (pc p)] R)
end
end Go.Proofs.YteefhiniamajkaaGreat
