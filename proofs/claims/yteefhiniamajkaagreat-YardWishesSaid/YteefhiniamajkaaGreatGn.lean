/- Notes. Notes in a row of the call's own. -/
import Derived.Test.YteefhiniamajkaaGreatGi
import Derived.BigQuiet
import Derived.Deep.RegionHeld3
import Derived.Deep.Cut
import Derived.IntWalk
import Derived.Great.BuildSlice
namespace Go.Proofs.YteefhiniamajkaaGreat
set_option linter.unusedVariables false
set_option linter.unusedSimpArgs false
open Go.RowKit Go.ChangeShapes Go.WideShapes Go.ChangeAt

theorem hd_look {w : World} {b c m n : Nat} {h : Hd} (hH : HeadAt w b c m n h) (i : Nat) (hi : i < h.un) (hu : h.un ≤ 1000) : (Instr.lookup 108 (.map (some m)) (.int .i64 (i : Int)) false).run Tryz.prog w = .ok (.agg #[.int .i64 (h.wd i).b, .int .i64 (h.wd i).v]) w := hH.look i hi hu
theorem fld_wd (x y : Int) (w : World) : (Instr.field 112 (.agg #[.int .i64 x, .int .i64 y]) 1).run Tryz.prog w = .ok (.int .i64 y) w := by
  simp [Instr.field, run_underlying Tryz.underlying112, asAgg, go_sem]
theorem all_step (h : Hd) (k : Nat) (hk : (List.range k).all (fun i => (h.wd i).v == h.pl.v) = true) (he : (h.wd k).v = h.pl.v) : (List.range (k + 1)).all (fun i => (h.wd i).v == h.pl.v) = true := by
  rw [List.range_succ, List.all_append, hk]
  simp [he]
theorem all_no (h : Hd) (k u : Nat) (hk : k < u) (he : ¬ (h.wd k).v = h.pl.v) : (List.range u).all (fun i => (h.wd i).v == h.pl.v) = false := by
  rw [List.all_eq_false]
  exact ⟨k, by simpa using hk, by simpa using he⟩
theorem results_cell1 {w : World} {fn : Func} {r : Tmp} {T : TypeId} {d : TypeDesc} {b n : Nat} {f : Nat → Value} (h : fn.results = #[.cell r T]) (tmps : Array Value) (hp : tmps.getD r undef = .pointer (some ⟨b, 0, none⟩)) (hF : Fb w b n f) (hu : Tryz.prog.underlying T = some d) (hd : d.isRow = true) (hi : (Tryz.prog.info? T).map (·.size) = some n) :
    (results fn tmps).run Tryz.prog w = .ok (.agg (FA n f)) w := by
  have hp' : tmps[r]?.getD undef = .pointer (some ⟨b, 0, none⟩) := by simpa using hp
  simp [results, h, hp', asAddr, hF.loadV (T := T) 0 n f (by omega) (fun j hj => by rw [Nat.zero_add]) hu hd hi]
theorem below_drew (w : World) : Below w.heap.size w w.drew := ⟨rfl, rfl, rfl, Nat.le_refl _, fun _ _ => rfl⟩
theorem HeadAt.bel {w w' : World} {b c m n D : Nat} {h : Hd} (hH : HeadAt w b c m n h) (hb : Below D w w') (h1 : b < D) (h2 : c < D) (h3 : m < D) : HeadAt w' b c m n h := hH.same (hb.block b h1) (hb.block c h2) (hb.block m h3)


theorem nt_whole (n : Nt) (j : Nat) (hj : j < 342) : patch (ntc n) 3 1 (fun _ => .bool true) j = ntc { n with wh := true } j := by
  unfold patch ntc
  by_cases h : 3 ≤ j ∧ j < 3 + 1
  · have : j = 3 := by omega
    subst this
    rfl
  · rw [if_neg h]
    by_cases h2 : j < 12
    · rw [if_pos h2, if_pos h2]
      rcases j with _ | _ | _ | _ | j
      · rfl
      · rfl
      · rfl
      · omega
      · rcases j with _ | j
        · rfl
        · rfl
    · rw [if_neg h2, if_neg h2]
theorem nt_pool (n : Nt) (p : Pl) (j : Nat) (hj : j < 342) : patch (ntc n) 12 330 (pc p) j = ntc { n with p := p } j := by
  unfold patch ntc
  by_cases h2 : j < 12
  · rw [if_neg (by omega), if_pos h2, if_pos h2]
  · rw [if_pos (by omega), if_neg h2]
theorem nt_ent (n : Nt) (e : En) (j : Nat) (hj : j < 342) : patch (ntc n) 5 7 (enc e) j = ntc { n with e := e } j := by
  unfold patch ntc
  by_cases h : 5 ≤ j ∧ j < 5 + 7
  · rw [if_pos h, if_pos (by omega)]
    obtain ⟨k, rfl⟩ : ∃ k, j = k + 5 := ⟨j - 5, by omega⟩
    rw [show k + 5 - 5 = k by omega]
    rfl
  · rw [if_neg h]
    by_cases h2 : j < 12
    · rw [if_pos h2, if_pos h2]
      rcases j with _ | _ | _ | _ | _ | j
      · rfl
      · rfl
      · rfl
      · rfl
      · rfl
      · omega
    · rw [if_neg h2, if_neg h2]
theorem build_nt3F (u b v : Int) (w : World) : (Instr.build 94 #[(0, .int .i64 u), (1, .int .i64 b), (2, .int .i64 v)]).run Tryz.prog w = .ok (.agg (FA 342 (ntc ⟨u, b, v, false, false, zEn, zPl⟩))) w := build_nt3 u b v w
section
variable {S : List Nat} {W w : World} {L A B : List Th} {Q : Exit → Act → World → Prop} {o : Oper} {a : Act} {K : Act → World → Prop}
theorem ow_store1 {T : TypeId} {x y : Operand} {b n : Nat} {f : Nat → Value} (off : Nat) (v : Value) (f' : Nat → Value) (ho : o.op = .store T x y) (hx : a.eval x = .pointer (some ⟨b, off, none⟩)) (hy : a.eval y = v) (hT : (Instr.storeAt T (.pointer (some ⟨b, off, none⟩)) v) = (Instr.storeAt 4 (.pointer (some ⟨b, off, none⟩)) v)) (hS : HS S W w (A ++ thB b n f :: B)) (hok : off + 1 ≤ n) (hf : ∀ j, j < n → patch f off 1 (fun _ => v) j = f' j)
    (h : ∀ w', HS S W w' (A ++ thB b n f' :: B) → K (a.put o.dst undef) w') (hv : ∃ x, v = .bool x := by exact ⟨_, rfl⟩) : o.wp Tryz.prog a w K Q := by
  have hF : Fb w b n f := hS.1 (thB b n f) (by simp)
  obtain ⟨x, rfl⟩ := hv
  refine ov_store ho hx hy (w' := w.setCell ⟨b, off, none⟩ (.bool x)) ?_ (h _ (hS.set off 1 (fun _ => .bool x) hok f' hf))
  rw [hT]
  have c := hF.2.1 off (by omega)
  have z := hF.2.2 off
  go_simp
theorem ow_storeE {x y : Operand} {b n : Nat} {f : Nat → Value} (off : Nat) (e : En) (f' : Nat → Value) (ho : o.op = .store 44 x y) (hx : a.eval x = .pointer (some ⟨b, off, none⟩)) (hy : a.eval y = .agg #[.int .i64 e.k, .int .i64 e.s, .int .i64 e.a, .int .i64 e.p, .int .i64 e.w, .int .u64 e.y.a, .int .u64 e.y.b]) (hS : HS S W w (A ++ thB b n f :: B)) (hok : off + 7 ≤ n) (hf : ∀ j, j < n → patch f off 7 (enc e) j = f' j)
    (h : ∀ w', HS S W w' (A ++ thB b n f' :: B) → K (a.put o.dst undef) w') : o.wp Tryz.prog a w K Q :=
  ow_store off 7 (enc e) f' ho hx hy hS hok hf info_en (enc_one e) h
end
section
variable {w : World} {b c m n : Nat} {h : Hd}
attribute [local irreducible] FA FL
set_option maxRecDepth 100000 in
set_option maxHeartbeats 8000000 in
theorem allHold_any (hH : HeadAt w b c m n h) (hu : h.un ≤ 1000) : Calls Tryz.prog 62 #[.pointer (some ⟨b, 0, none⟩)] w fun x w' => x = .returned (.bool (allB h)) ∧ Below w.heap.size w w' := by
  obtain ⟨u, hun⟩ : ∃ u, u = h.un := ⟨_, rfl⟩
  have HU := hid hun
  have HH := hid hH
  have c668 := hH.c668
  rw [← hun] at hu c668
  clear hun hH
  go_enter Tryz.func62, Tryz.ntmps62
  go_wp2_with fail
  go_loopw [8] (fun i wx => ∃ k : Nat, k ≤ u ∧ i = .int .i64 (k : Int) ∧ Below w.heap.size w wx ∧ (List.range k).all (fun i => (h.wd i).v == h.pl.v) = true) (fun i _ => u - (intOf i).toNat)
  case atStart => exact ⟨0, Nat.zero_le _, rfl, Below.refl _ _, rfl⟩
  case round =>
    obtain ⟨k, hk, rfl, hB, hA⟩ := hrel
    have HA := hid hA
    have HB := hid hB
    clear hA hB
    have HD := hid (HH.out.below HB.out)
    clear c668
    by_cases hlt : (k : Int) < u
    · have LK := hid (fun (w : World) (hh : HeadAt w b c m n h) => hd_look hh k (by rw [← HU.out]; omega) (by rw [← HU.out]; omega))
      by_cases hv : (h.wd k).v = h.pl.v
      · have ST := hid (all_step h k HA.out hv)
        have HV := hid hv
        have VA := hid (fun w (hh : HeadAt w b c m n h) => version_any hh)
        have hb : ((h.wd k).v != h.pl.v) = false := by simp [HV.out]
        generalize (h.wd k).v = v1 at *
        generalize (h.wd k).b = v0 at *
        generalize h.pl.v = v2 at *
        clear hv
        go_upto_region 4 with (fail)
        refine wp_region_held_drew (S := fun (w' : World) => HeadAt w' b c m n h ∧ Below w.heap.size w w') (by kernel_rfl) ?_ (fun hHeld => ?_)
        · exact ⟨HD.out.drew, HB.out.trans ((below_drew _).mono HB.out.size)⟩
        refine tkq 0 hHeld ?_
        refine tkq 1 hHeld ?_
        refine tkq 2 hHeld ?_
        refine tkq 3 hHeld ?_ (hy := by intro w hSw; (try dsimp only at hSw); have x0 := hSw.1.c669; go_simp; (try with_reducible rfl))
        refine tkq 4 hHeld ?_
        refine tkq 5 hHeld ?_ (hy := by intro w hSw; (try dsimp only at hSw); have x1 := LK.out _ hSw.1; go_simp; (try with_reducible rfl))
        refine tkq 6 hHeld ?_ (hy := by intro w hSw; (try dsimp only at hSw); have x2 := fld_wd v0 v1; go_simp; (try with_reducible rfl))
        refine tkq 7 hHeld ?_
        refine only 8 rfl (by kernel_rfl) rfl (fun K hK => ?_)
        go_simp
        refine (VA.out _ hHeld.1).mono ?_
        rintro e' w' ⟨rfl, rfl⟩
        try go_wp2_with fail
        refine hK.out _ _ (hHeld) (fun h2 => ?_)
        clear hK
        try simp only [Act.put, List.setIfInBounds_toArray, List.set_cons_zero, List.set_cons_succ]
        refine tkq 9 h2 ?_
        have HB2 := hid h2.2
        clear h2 hHeld
        refine wpAnyH_done (by kernel_rfl) ?_ _
        go_wp2_with fail
        go_roundw
        case rel => exact ⟨k + 1, by omega, by go_num, HB2.out, ST.out⟩
        case measure => simp [intOf]; omega
      · have ST := hid (show allB h = false from by unfold allB; rw [← HU.out]; exact all_no h k u (by omega) hv)
        have HV := hid hv
        have VA := hid (fun w (hh : HeadAt w b c m n h) => version_any hh)
        have hb : ((h.wd k).v != h.pl.v) = true := by simp [HV.out]
        generalize (h.wd k).v = v1 at *
        generalize (h.wd k).b = v0 at *
        generalize h.pl.v = v2 at *
        clear hv
        go_upto_region 4 with (fail)
        refine wp_region_held_drew (S := fun (w' : World) => HeadAt w' b c m n h ∧ Below w.heap.size w w') (by kernel_rfl) ?_ (fun hHeld => ?_)
        · exact ⟨HD.out.drew, HB.out.trans ((below_drew _).mono HB.out.size)⟩
        refine tkq 0 hHeld ?_
        refine tkq 1 hHeld ?_
        refine tkq 2 hHeld ?_
        refine tkq 3 hHeld ?_ (hy := by intro w hSw; (try dsimp only at hSw); have x0 := hSw.1.c669; go_simp; (try with_reducible rfl))
        refine tkq 4 hHeld ?_
        refine tkq 5 hHeld ?_ (hy := by intro w hSw; (try dsimp only at hSw); have x1 := LK.out _ hSw.1; go_simp; (try with_reducible rfl))
        refine tkq 6 hHeld ?_ (hy := by intro w hSw; (try dsimp only at hSw); have x2 := fld_wd v0 v1; go_simp; (try with_reducible rfl))
        refine tkq 7 hHeld ?_
        refine only 8 rfl (by kernel_rfl) rfl (fun K hK => ?_)
        go_simp
        refine (VA.out _ hHeld.1).mono ?_
        rintro e' w' ⟨rfl, rfl⟩
        try go_wp2_with fail
        refine hK.out _ _ (hHeld) (fun h2 => ?_)
        clear hK
        try simp only [Act.put, List.setIfInBounds_toArray, List.set_cons_zero, List.set_cons_succ]
        refine tkq 9 h2 ?_
        have HB2 := hid h2.2
        clear h2 hHeld
        refine wpAnyH_done (by kernel_rfl) ?_ _
        go_wp2_with fail
        go_ret
        refine ⟨?_, HB2.out⟩
        rw [ST.out]
        rfl
    · have hku : k = u := by omega
      have ST := hid (show allB h = true from by unfold allB; rw [← HU.out, ← hku]; exact HA.out)
      go_wp2_with fail
      go_ret
      refine ⟨?_, HB.out⟩
      rw [ST.out]
      rfl
set_option maxRecDepth 100000 in
set_option maxHeartbeats 8000000 in
theorem note_any (hH : HeadAt w b c m n h) (hu : h.un ≤ 1000) (i : Nat) (hi : i < h.un) (hv : 0 ≤ h.pl.v ∧ h.pl.v ≤ 1000000000) : Calls Tryz.prog 65 #[.pointer (some ⟨b, 0, none⟩), .int .i64 (i : Int)] w fun x w' => x = .returned (.agg (FA 342 (ntc (noteH h i)))) ∧ Below w.heap.size w w' := by
  have HH := hid hH
  have S0 := hid (HS.start (S := []) (W := w))
  clear hH
  go_enter Tryz.func65, Tryz.ntmps65
  go_upto_region 1 with ((with_reducible refine wl_id ?_); refine wl_ow rfl (ow_alloc rfl (znt_fa _) (by omega) S0.out ?_); intro R w1 hS hR; have S1 := hid hS; have HR := hid hR; clear hS hR)
  have hH1 := HH.out.below S1.out.bl
  have c669 := hH1.c669
  have LK := hd_look hH1 i hi hu
  obtain ⟨v0, hv0⟩ : ∃ x, x = (h.wd i).b := ⟨_, rfl⟩
  obtain ⟨v1, hv1⟩ : ∃ x, x = (h.wd i).v := ⟨_, rfl⟩
  have HV0 := hid hv0
  have HV1 := hid hv1
  rw [← hv0, ← hv1] at LK
  clear hv0 hv1 hH1
  go_upto_region 2 with (fail)
  clear c669 LK
  have S2 := hid (S1.out.cells (T := 112) [.int .i64 v0, .int .i64 v1])
  generalize w1.alloc (.cells #[.int .i64 v0, .int .i64 v1] 112) = w2 at *
  generalize w1.heap.size = X at *
  have VA := hid (fun w (hh : HeadAt w b c m n h) => version_any hh)
  obtain ⟨pv, hpv⟩ : ∃ x, x = h.pl.v := ⟨_, rfl⟩
  rw [← hpv] at VA hv
  have HPV := hid hpv
  clear hpv
  go_cut [6] from 13 to 19 (fun x wx => ∃ Z : Nat, x = .pointer (some ⟨Z, 0, none⟩) ∧ HS [] w wx (thB Z 342 (ntc ⟨(i : Int), v0, pv, false, false, zEn, zPl⟩) :: [thC X [.int .i64 v0, .int .i64 v1], thB R 342 (ntc zNt)]))
  case first =>
    refine wp_region_held_drew (S := fun (w' : World) => HS [] w w' [thC X [.int .i64 v0, .int .i64 v1], thB R 342 (ntc zNt)]) (by kernel_rfl) ?_ (fun hHeld => ?_)
    · exact S2.out.drew
    refine tkq 0 hHeld ?_
    refine tkq 1 hHeld ?_
    refine tkq 2 hHeld ?_ (hy := by intro w hSw; (try dsimp only at hSw); have x0 := (hSw.ce 0 rfl).2.1 0 _ rfl; go_simp; (try with_reducible rfl))
    refine tkq 3 hHeld ?_
    refine twoUp 4 6 rfl rfl (by kernel_rfl) rfl rfl (fun K hK => ?_) (fun K hK => ?_)
    · go_simp
      refine (VA.out _ (HH.out.below (HS.bl hHeld))).mono ?_
      rintro e' w' ⟨rfl, rfl⟩
      try go_wp2_with fail
      refine hK.out _ _ (hHeld) (fun hz0 => ?_)
      clear hK
      try simp only [Act.put, List.setIfInBounds_toArray, List.set_cons_zero, List.set_cons_succ]
      refine tk 5 (v := .agg (FA 342 (ntc ⟨(i : Int), v0, pv, false, false, zEn, zPl⟩))) rfl (by kernel_rfl) (by kernel_rfl) (by kernel_rfl) (fun _ _ _ h => h) rfl (fun w hSw => ex_build3 rfl rfl rfl rfl (build_nt3F i v0 pv w)) hz0 ?_; (try simp only [Act.put, List.setIfInBounds_toArray, List.set_cons_zero, List.set_cons_succ])
      refine only 6 rfl (by kernel_rfl) rfl (fun K hK => ?_)
      refine ow_alloc rfl (znt_fa _) (by omega) hz0 (fun Z w' hN _ => ?_)
      refine hK.out _ _ (hN.tail) (fun hz1 => ?_)
      clear hK
      try simp only [Act.put, List.setIfInBounds_toArray, List.set_cons_zero, List.set_cons_succ]
      refine only 7 rfl (by kernel_rfl) rfl (fun K hK => ?_)
      refine ow_store (A := []) 0 342 (ntc ⟨(i : Int), v0, pv, false, false, zEn, zPl⟩) (ntc ⟨(i : Int), v0, pv, false, false, zEn, zPl⟩) rfl rfl rfl hN (by omega) (fun j hj => patch_all _ _ _ j hj) info_nt (ntc_one _) (fun w' hN2 => ?_)
      refine hK.out _ _ (hN2.tail) (fun hE => ?_)
      clear hK
      try simp only [Act.put, List.setIfInBounds_toArray, List.set_cons_zero, List.set_cons_succ]
      refine wpAnyH_done (by kernel_rfl) ?_ _
      go_wp2_with fail
      go_meet
      exact ⟨Z, rfl, hN2⟩
    · refine ow_alloc rfl (znt_fa _) (by omega) hHeld (fun Z w' hN _ => ?_)
      refine hK.out _ _ (hN.tail) (fun hz0 => ?_)
      clear hK
      try simp only [Act.put, List.setIfInBounds_toArray, List.set_cons_zero, List.set_cons_succ]
      refine only 4 rfl (by kernel_rfl) rfl (fun K hK => ?_)
      go_simp
      refine (VA.out _ (HH.out.below (HS.bl hz0))).mono ?_
      rintro e' w' ⟨rfl, rfl⟩
      try go_wp2_with fail
      refine hK.out _ _ (hz0) (fun hz1 => ?_)
      clear hK
      try simp only [Act.put, List.setIfInBounds_toArray, List.set_cons_zero, List.set_cons_succ]
      refine tk 5 (v := .agg (FA 342 (ntc ⟨(i : Int), v0, pv, false, false, zEn, zPl⟩))) rfl (by kernel_rfl) (by kernel_rfl) (by kernel_rfl) (fun _ _ _ h => h) rfl (fun w hSw => ex_build3 rfl rfl rfl rfl (build_nt3F i v0 pv w)) hz1 ?_; (try simp only [Act.put, List.setIfInBounds_toArray, List.set_cons_zero, List.set_cons_succ])
      refine only 7 rfl (by kernel_rfl) rfl (fun K hK => ?_)
      refine ow_store (A := []) 0 342 (ntc ⟨(i : Int), v0, pv, false, false, zEn, zPl⟩) (ntc ⟨(i : Int), v0, pv, false, false, zEn, zPl⟩) rfl rfl rfl hN (by omega) (fun j hj => patch_all _ _ _ j hj) info_nt (ntc_one _) (fun w' hN2 => ?_)
      refine hK.out _ _ (hN2.tail) (fun hE => ?_)
      clear hK
      try simp only [Act.put, List.setIfInBounds_toArray, List.set_cons_zero, List.set_cons_succ]
      refine wpAnyH_done (by kernel_rfl) ?_ _
      go_wp2_with fail
      go_meet
      exact ⟨Z, rfl, hN2⟩
  case rest =>
    obtain ⟨Z, rfl, hS3⟩ := hcut
    have S3 := hid hS3
    clear hS3 S2 S1
    have NB0 := hid (show noteH h i = if oneB h i = true then ⟨(i : Int), (h.wd i).b, h.pl.v, false, false, h.la, zPl⟩ else ⟨(i : Int), (h.wd i).b, h.pl.v, true, false, zEn, h.pl⟩ from rfl)
    obtain ⟨lk, hlk⟩ : ∃ x, x = h.la.k := ⟨_, rfl⟩
    have HLK := hid hlk
    clear hlk
    have c661 := hid (fun (w : World) (hh : HeadAt w b c m n h) => (show w.cell? ⟨b, 661, none⟩ = some (.int .i64 lk) from by rw [HLK.out]; exact hh.c661))
    by_cases hl : lk = 0
    · have NB := hid (show noteH h i = ⟨(i : Int), v0, pv, true, false, zEn, h.pl⟩ from NB0.out.trans (by rw [if_neg (by unfold oneB; rw [← HLK.out, hl]; simp), ← HV0.out, ← HPV.out]))
      have hb : (lk != 0) = false := by simp [hl]
      clear hl NB0
      go_upto_region 3 with (fail)
      refine wp_region_held_drew (S := fun (w' : World) => HS [] w w' [thB Z 342 (ntc ⟨(i : Int), v0, pv, false, false, zEn, zPl⟩), thC X [.int .i64 v0, .int .i64 v1], thB R 342 (ntc zNt)]) (by kernel_rfl) ?_ (fun hHeld => ?_)
      · exact S3.out.drew
      refine tkq 0 hHeld ?_
      refine tkq 1 hHeld ?_
      refine tkq 2 hHeld ?_
      refine tkq 3 hHeld ?_
      refine tkq 4 hHeld ?_ (hy := by intro w hSw; (try dsimp only at hSw); have x0 := c661.out _ (HH.out.below hSw.bl); go_simp; (try with_reducible rfl))
      refine tkq 5 hHeld ?_
      refine tkq 6 hHeld ?_
      refine tuq 7 hHeld ?_
      refine tuq 8 hHeld ?_
      refine tuq 9 hHeld ?_
      refine tuq 10 hHeld ?_
      refine tuq 11 hHeld ?_
      refine tuq 12 hHeld ?_
      refine tkq 13 hHeld ?_
      have S4 := hid hHeld
      clear S3 hHeld
      refine wpAnyH_done (by kernel_rfl) ?_ _
      go_upto_region 6 with (fail)
      refine wp_region_held_drew (S := fun (w' : World) => HS [] w w' [thC X [.int .i64 v0, .int .i64 v1], thB R 342 (ntc zNt)]) (by kernel_rfl) ?_ (fun hHeld => ?_)
      · exact S4.out.drew.tail
      have S5 := hid S4.out.drew
      refine tkq 0 hHeld ?_
      refine tkq 1 hHeld ?_
      refine tkq 2 hHeld ?_
      refine tk 3 (v := .agg (FA 330 (pc h.pl))) rfl (by kernel_rfl) (by kernel_rfl) (by kernel_rfl) (fun _ _ _ h => h) rfl (fun w hSw => ex_load rfl rfl (HeadAt.loadF (HH.out.below hSw.bl))) hHeld ?_; (try simp only [Act.put, List.setIfInBounds_toArray, List.set_cons_zero, List.set_cons_succ])
      refine tkq 4 hHeld ?_
      refine only 5 rfl (by kernel_rfl) rfl (fun K hK => ?_)
      refine ow_store1 (A := []) 3 (.bool true) (ntc ⟨(i : Int), v0, pv, true, false, zEn, zPl⟩) rfl rfl rfl rfl S5.out (by omega) (fun j hj => nt_whole _ j hj) (fun w' hN2 => ?_)
      refine hK.out _ _ (hN2.tail) (fun hE => ?_)
      clear hK
      try simp only [Act.put, List.setIfInBounds_toArray, List.set_cons_zero, List.set_cons_succ]
      refine tkq 6 hE ?_
      refine only 7 rfl (by kernel_rfl) rfl (fun K hK => ?_)
      refine ow_store (A := []) 12 330 (pc h.pl) (ntc ⟨(i : Int), v0, pv, true, false, zEn, h.pl⟩) rfl rfl rfl hN2 (by omega) (fun j hj => nt_pool _ _ j hj) info_pl (pc_one _) (fun w' hN3 => ?_)
      refine hK.out _ _ (hN3.tail) (fun hZ => ?_)
      clear hK
      try simp only [Act.put, List.setIfInBounds_toArray, List.set_cons_zero, List.set_cons_succ]
      have S6 := hid hN3
      clear hN2 hN3 hE hZ hHeld S5 S4
      refine wpAnyH_done (by kernel_rfl) ?_ _
      go_wp2_with (first | ((with_reducible refine wl_id ?_); refine wl_ow rfl (ow_load 0 rfl 0 342 (ntc ⟨(i : Int), v0, pv, true, false, zEn, h.pl⟩) rfl rfl S6.out (by omega) (fun j hj => by rw [Nat.zero_add]) Tryz.underlying94 rfl info_nt ?_)) | ((with_reducible refine wl_id ?_); refine wl_ow rfl (ow_store (A := [thB Z 342 (ntc ⟨(i : Int), v0, pv, true, false, zEn, h.pl⟩), thC X [.int .i64 v0, .int .i64 v1]]) 0 342 (ntc ⟨(i : Int), v0, pv, true, false, zEn, h.pl⟩) (ntc ⟨(i : Int), v0, pv, true, false, zEn, h.pl⟩) rfl rfl rfl S6.out (by omega) (fun j hj => patch_all _ _ _ j hj) info_nt (ntc_one _) ?_); intro w9 hZ; have S9 := hid hZ; clear hZ; refine end_then ?_; apply_assumption; refine wp_ret ?_; (repeat refine ret_then ?_); (show bodyPost _ _ _ _ _ _); refine bodyPost_ret (v := .agg (FA 342 (ntc ⟨(i : Int), v0, pv, true, false, zEn, h.pl⟩))) (results_cell1 Tryz.results65 _ rfl (S9.out.fb 2 rfl) Tryz.underlying94 rfl info_nt) rfl ⟨by rw [NB.out], S9.out.bl⟩))
    · have hb : (lk != 0) = true := by simp [hl]
      by_cases hv2 : v1 = pv - 1
      · have NB := hid (show noteH h i = ⟨(i : Int), v0, pv, false, false, h.la, zPl⟩ from NB0.out.trans (by rw [if_pos (by unfold oneB; rw [← HLK.out, ← HV1.out, ← HPV.out, hb, hv2]; simp), ← HV0.out, ← HPV.out]))
        have hb2 : (v1 == pv - 1) = true := by simp [hv2]
        clear hl hv2 NB0
        go_upto_region 3 with (fail)
        refine wp_region_held_drew (S := fun (w' : World) => HS [] w w' [thB Z 342 (ntc ⟨(i : Int), v0, pv, false, false, zEn, zPl⟩), thC X [.int .i64 v0, .int .i64 v1], thB R 342 (ntc zNt)]) (by kernel_rfl) ?_ (fun hHeld => ?_)
        · exact S3.out.drew
        refine tkq 0 hHeld ?_
        refine tkq 1 hHeld ?_
        refine tkq 2 hHeld ?_
        refine tkq 3 hHeld ?_
        refine tkq 4 hHeld ?_ (hy := by intro w hSw; (try dsimp only at hSw); have x0 := c661.out _ (HH.out.below hSw.bl); go_simp; (try with_reducible rfl))
        refine tkq 5 hHeld ?_
        refine tkq 6 hHeld ?_
        refine tkq 7 hHeld ?_
        refine tkq 8 hHeld ?_ (hy := by intro w hSw; (try dsimp only at hSw); have x0 := (hSw.ce 1 rfl).2.1 1 _ rfl; go_simp; (try with_reducible rfl))
        refine tkq 9 hHeld ?_
        refine only 10 rfl (by kernel_rfl) rfl (fun K hK => ?_)
        go_simp
        refine (VA.out _ (HH.out.below hHeld.bl)).mono ?_
        rintro e' w' ⟨rfl, rfl⟩
        try go_wp2_with fail
        refine hK.out _ _ (hHeld) (fun h2 => ?_)
        clear hK
        try simp only [Act.put, List.setIfInBounds_toArray, List.set_cons_zero, List.set_cons_succ]
        refine tkq 11 h2 ?_ (hy := by intro w hSw; (try dsimp only at hSw); have x9 : IntKind.i64.wrap (pv - 1) = pv - 1 := IntWalk.i64_in _ (by omega); go_simp; (try with_reducible rfl))
        refine tkq 12 h2 ?_
        refine tkq 13 h2 ?_
        have S4 := hid h2
        clear S3 hHeld h2
        refine wpAnyH_done (by kernel_rfl) ?_ _
        have LL := hid (HeadAt.loadL (HH.out.below S4.out.bl))
        unfold enV at LL
        go_upto_region 5 with (first | ((with_reducible refine wl_id ?_); refine wl_load rfl rfl rfl LL.out ?_) | ((with_reducible refine wl_id ?_); refine wl_ow rfl (ow_storeE (A := []) 5 h.la (ntc ⟨(i : Int), v0, pv, false, false, h.la, zPl⟩) rfl rfl rfl S4.out (by omega) (fun j hj => nt_ent _ _ j hj) ?_); intro w8 hZ; have S6 := hid hZ; clear hZ))
        go_wp2_with (first | ((with_reducible refine wl_id ?_); refine wl_ow rfl (ow_load 0 rfl 0 342 (ntc ⟨(i : Int), v0, pv, false, false, h.la, zPl⟩) rfl rfl S6.out (by omega) (fun j hj => by rw [Nat.zero_add]) Tryz.underlying94 rfl info_nt ?_)) | ((with_reducible refine wl_id ?_); refine wl_ow rfl (ow_store (A := [thB Z 342 (ntc ⟨(i : Int), v0, pv, false, false, h.la, zPl⟩), thC X [.int .i64 v0, .int .i64 v1]]) 0 342 (ntc ⟨(i : Int), v0, pv, false, false, h.la, zPl⟩) (ntc ⟨(i : Int), v0, pv, false, false, h.la, zPl⟩) rfl rfl rfl S6.out (by omega) (fun j hj => patch_all _ _ _ j hj) info_nt (ntc_one _) ?_); intro w9 hZ; have S9 := hid hZ; clear hZ; refine end_then ?_; apply_assumption; refine wp_ret ?_; (repeat refine ret_then ?_); (show bodyPost _ _ _ _ _ _); refine bodyPost_ret (v := .agg (FA 342 (ntc ⟨(i : Int), v0, pv, false, false, h.la, zPl⟩))) (results_cell1 Tryz.results65 _ rfl (S9.out.fb 2 rfl) Tryz.underlying94 rfl info_nt) rfl ⟨by rw [NB.out], S9.out.bl⟩))
      · have NB := hid (show noteH h i = ⟨(i : Int), v0, pv, true, false, zEn, h.pl⟩ from NB0.out.trans (by rw [if_neg (by unfold oneB; rw [← HV1.out, ← HPV.out]; simp [hv2]), ← HV0.out, ← HPV.out]))
        have hb2 : (v1 == pv - 1) = false := by simp [hv2]
        clear hl hv2 NB0
        go_upto_region 3 with (fail)
        refine wp_region_held_drew (S := fun (w' : World) => HS [] w w' [thB Z 342 (ntc ⟨(i : Int), v0, pv, false, false, zEn, zPl⟩), thC X [.int .i64 v0, .int .i64 v1], thB R 342 (ntc zNt)]) (by kernel_rfl) ?_ (fun hHeld => ?_)
        · exact S3.out.drew
        refine tkq 0 hHeld ?_
        refine tkq 1 hHeld ?_
        refine tkq 2 hHeld ?_
        refine tkq 3 hHeld ?_
        refine tkq 4 hHeld ?_ (hy := by intro w hSw; (try dsimp only at hSw); have x0 := c661.out _ (HH.out.below hSw.bl); go_simp; (try with_reducible rfl))
        refine tkq 5 hHeld ?_
        refine tkq 6 hHeld ?_
        refine tkq 7 hHeld ?_
        refine tkq 8 hHeld ?_ (hy := by intro w hSw; (try dsimp only at hSw); have x0 := (hSw.ce 1 rfl).2.1 1 _ rfl; go_simp; (try with_reducible rfl))
        refine tkq 9 hHeld ?_
        refine only 10 rfl (by kernel_rfl) rfl (fun K hK => ?_)
        go_simp
        refine (VA.out _ (HH.out.below hHeld.bl)).mono ?_
        rintro e' w' ⟨rfl, rfl⟩
        try go_wp2_with fail
        refine hK.out _ _ (hHeld) (fun h2 => ?_)
        clear hK
        try simp only [Act.put, List.setIfInBounds_toArray, List.set_cons_zero, List.set_cons_succ]
        refine tkq 11 h2 ?_ (hy := by intro w hSw; (try dsimp only at hSw); have x9 : IntKind.i64.wrap (pv - 1) = pv - 1 := IntWalk.i64_in _ (by omega); go_simp; (try with_reducible rfl))
        refine tkq 12 h2 ?_
        refine tkq 13 h2 ?_
        have S4 := hid h2
        clear S3 hHeld h2
        refine wpAnyH_done (by kernel_rfl) ?_ _
        go_upto_region 6 with (fail)
        refine wp_region_held_drew (S := fun (w' : World) => HS [] w w' [thC X [.int .i64 v0, .int .i64 v1], thB R 342 (ntc zNt)]) (by kernel_rfl) ?_ (fun hHeld => ?_)
        · exact S4.out.drew.tail
        have S5 := hid S4.out.drew
        refine tkq 0 hHeld ?_
        refine tkq 1 hHeld ?_
        refine tkq 2 hHeld ?_
        refine tk 3 (v := .agg (FA 330 (pc h.pl))) rfl (by kernel_rfl) (by kernel_rfl) (by kernel_rfl) (fun _ _ _ h => h) rfl (fun w hSw => ex_load rfl rfl (HeadAt.loadF (HH.out.below hSw.bl))) hHeld ?_; (try simp only [Act.put, List.setIfInBounds_toArray, List.set_cons_zero, List.set_cons_succ])
        refine tkq 4 hHeld ?_
        refine only 5 rfl (by kernel_rfl) rfl (fun K hK => ?_)
        refine ow_store1 (A := []) 3 (.bool true) (ntc ⟨(i : Int), v0, pv, true, false, zEn, zPl⟩) rfl rfl rfl rfl S5.out (by omega) (fun j hj => nt_whole _ j hj) (fun w' hN2 => ?_)
        refine hK.out _ _ (hN2.tail) (fun hE => ?_)
        clear hK
        try simp only [Act.put, List.setIfInBounds_toArray, List.set_cons_zero, List.set_cons_succ]
        refine tkq 6 hE ?_
        refine only 7 rfl (by kernel_rfl) rfl (fun K hK => ?_)
        refine ow_store (A := []) 12 330 (pc h.pl) (ntc ⟨(i : Int), v0, pv, true, false, zEn, h.pl⟩) rfl rfl rfl hN2 (by omega) (fun j hj => nt_pool _ _ j hj) info_pl (pc_one _) (fun w' hN3 => ?_)
        refine hK.out _ _ (hN3.tail) (fun hZ => ?_)
        clear hK
        try simp only [Act.put, List.setIfInBounds_toArray, List.set_cons_zero, List.set_cons_succ]
        have S6 := hid hN3
        clear hN2 hN3 hE hZ hHeld S5 S4
        refine wpAnyH_done (by kernel_rfl) ?_ _
        go_wp2_with (first | ((with_reducible refine wl_id ?_); refine wl_ow rfl (ow_load 0 rfl 0 342 (ntc ⟨(i : Int), v0, pv, true, false, zEn, h.pl⟩) rfl rfl S6.out (by omega) (fun j hj => by rw [Nat.zero_add]) Tryz.underlying94 rfl info_nt ?_)) | ((with_reducible refine wl_id ?_); refine wl_ow rfl (ow_store (A := [thB Z 342 (ntc ⟨(i : Int), v0, pv, true, false, zEn, h.pl⟩), thC X [.int .i64 v0, .int .i64 v1]]) 0 342 (ntc ⟨(i : Int), v0, pv, true, false, zEn, h.pl⟩) (ntc ⟨(i : Int), v0, pv, true, false, zEn, h.pl⟩) rfl rfl rfl S6.out (by omega) (fun j hj => patch_all _ _ _ j hj) info_nt (ntc_one _) ?_); intro w9 hZ; have S9 := hid hZ; clear hZ; refine end_then ?_; apply_assumption; refine wp_ret ?_; (repeat refine ret_then ?_); (show bodyPost _ _ _ _ _ _); refine bodyPost_ret (v := .agg (FA 342 (ntc ⟨(i : Int), v0, pv, true, false, zEn, h.pl⟩))) (results_cell1 Tryz.results65 _ rfl (S9.out.fb 2 rfl) Tryz.underlying94 rfl info_nt) rfl ⟨by rw [NB.out], S9.out.bl⟩))
end
end Go.Proofs.YteefhiniamajkaaGreat
namespace Go.Proofs.YteefhiniamajkaaGreat
set_option linter.unusedVariables false
set_option linter.unusedSimpArgs false
open Go.RowKit Go.ChangeShapes Go.WideShapes Go.ChangeAt

theorem pub_un (h : Hd) : (pubH h).un = h.un := by
  unfold pubH
  split
  · rfl
  · split <;> rfl
theorem send_un (h : Hd) : (sendH h).un = h.un := by
  unfold sendH
  split
  · exact pub_un h
  · rfl
/-- What Send tells, and leaves. -/
def SentOk (w : World) (b c m n : Nat) (h : Hd) (x : Ending) (w' : World) : Prop :=
  ∃ (A : Option Addr) (cc : Nat), x = .returned (.slice A (notesK (sendH h) h.un).length cc) ∧ (notesK (sendH h) h.un).length ≤ cc ∧ HeadAt w' b c m n (sendH h) ∧ Ch [b, c, m] w w' ∧
    (0 < (notesK (sendH h) h.un).length → ∃ g : Nat, A = some ⟨g, 0, none⟩ ∧ w.heap.size ≤ g ∧ Fb w' g ((notesK (sendH h) h.un).length * 342) (ntf (notesK (sendH h) h.un)))
theorem ntf_app (l : List Nt) (x : Nt) (j : Nat) (hj : j < (l.length + 1) * 342) : two (l.length * 342) (ntf l) (ntc x) j = ntf (l ++ [x]) j := by
  unfold two ntf
  by_cases h : j < l.length * 342
  · rw [if_pos h]
    have : j / 342 < l.length := by omega
    simp [List.getD, List.getElem?_append_left this]
  · rw [if_neg h]
    have e1 : j / 342 = l.length := by omega
    have e2 : j - l.length * 342 = j % 342 := by omega
    rw [e1, e2]
    simp [List.getD]
theorem info_nf : (Tryz.prog.info? 94).map (fun i => (i.zero, i.size, i.bytes)) = some (some (.agg (NA zNt)), 342, 2728) := by kernel_rfl
theorem run_bs (x : Nt) (w : World) : (Instr.buildSlice 95 1 #[(0, .agg (FA 342 (ntc x)))]).run Tryz.prog w = .ok (.slice (some ⟨w.heap.size, 0, none⟩) 1 1) (w.alloc (.cells (FA 342 (ntc x)) 94)) := by
  obtain ⟨i0, hi, hz0, hz1, hz2⟩ := info_parts info_nf
  refine run_buildSlice (P := Tryz.prog) w _ _ 1 _ (FA 342 (ntc x)) i0 (.agg (NA zNt)) Tryz.underlying95 hi hz0 (by rw [hz1]; omega) (by rw [hz1]; omega) ?_
  rw [hz1]
  kernel_rfl
section
variable {S : List Nat} {W w : World} {L A B : List Th} {ops : Array Oper} {rest : List Oper} {Q : Exit → Act → World → Prop} {o : Oper} {a : Act} {K : Act → World → Prop}
theorem ow_bs {x : Operand} {nt : Nt} (ho : o.op = .buildSlice 95 1 #[(0, x)]) (hx : a.eval x = .agg (FA 342 (ntc nt))) (hS : HS S W w L)
    (h : ∀ U w', HS S W w' (thB U 342 (ntc nt) :: L) → K (a.put o.dst (.slice (some ⟨U, 0, none⟩) 1 1)) w') : o.wp Tryz.prog a w K Q := by
  refine ow_val (v := .slice (some ⟨w.heap.size, 0, none⟩) 1 1) (w' := w.alloc (.cells (FA 342 (ntc nt)) 94)) ?_ (h _ _ (hS.boxed (n := 342) (ntc nt)))
  unfold execOp
  simp only [ho, List.map_toArray, List.map_cons, List.map_nil, hx, Sem.run_bind, run_bs, Result.andThen_ok, Sem.run_pure]
/-- append of a note onto a row of the call's own. -/
theorem wp_app_n (hgd : o.guard = none) (s x : Operand) (ho : o.op = .call { callee := .builtin .append, args := #[s, x], argTypes := #[95, 95] })
    (base : Nat) (v : Value) (l : List Nt) (nt : Nt) (hs : a.eval s = v) (hown : OwN w base v l)
    (g c : Nat) (hx : a.eval x = .slice (some ⟨g, 0, none⟩) 1 c) (hr : Fb w g 342 (ntc nt)) (hsz : l.length ≤ 1000) (hbase : base ≤ w.heap.size)
    (h : ∀ A' c' w', OwN w' base (.slice A' (l.length + 1) c') (l ++ [nt]) → Below base w w' → wpList Tryz.prog ops Q rest (a.put o.dst (.slice A' (l.length + 1) c')) w') : wpList Tryz.prog ops Q (o :: rest) a w := by
  obtain ⟨i0, hi, hz0, hz1, hz2⟩ := info_parts info_nf
  refine wp_app w hgd s x 95 ho base 94 i0 (.agg (NA zNt)) 342 2728 Tryz.underlying95 hi hz0 hz1 hz2 (na_size _) (by decide) v l.length _ hs hown (some ⟨g, 0, none⟩) 1 c (ntc nt) hx hr.sl (fun j _ => ntc_one _ _) (by simp only [maxLen]; omega) (by omega) hbase ?_
  intro A' c' w' h1 h2 h3 h4 h5 h6
  refine h A' c' w' ?_ h4
  unfold OwN
  rw [List.length_append, List.length_singleton]
  exact h1.as_ fun j hj => ntf_app l nt j hj
end
theorem OwN.keep {w w' : World} {B : Nat} {v : Value} {l : List Nt} (h : OwN w B v l) {D : Nat} (hb : Below D w w') (hD : w.heap.size ≤ D) : OwN w' B v l := Ow.keep h hb hD
end Go.Proofs.YteefhiniamajkaaGreat
