/- A yard's Deliver. A yard's Deliver. A yard's Deliver. A yard's Deliver. A yard: a note that is none. -/
import Derived.Test.YteefhiniamajkaaGreatYdServe
import Derived.Test.YteefhiniamajkaaGreatYdSel2
import Derived.BigQuiet
import Derived.Deep.RegionHeld3
import Derived.Deep.Cut
import Derived.IntWalk
namespace Go.Proofs.YteefhiniamajkaaGreat
set_option linter.unusedVariables false
set_option linter.unusedSimpArgs false
open Go.RowKit Go.ChangeShapes Go.WideShapes Go.ChangeAt
set_option maxRecDepth 100000
section
variable {P : Program} {Q : Exit → Act → World → Prop} {a : Act} {w : World}
theorem wpN_cond {c : Operand} {x y : Code} {t : Bool} (h : a.eval c = .bool t) (h2 : wpN P (if t then x else y) Q a w) : wpN P (.cond c x y) Q a w := fun b k cs hb => by
  obtain ⟨e, a', w', q, r⟩ := h2 b k cs hb
  exact ⟨e, a', w', q, .of_steps (.one (step_cond h)) r⟩
end
attribute [local irreducible] FA FL
section
variable {S : List Nat} {W w : World} {D : Yl} {h : Hd} {uf : Nat → Uy} {R : List Th} {la lm : List Nt} {t : Th}
set_option maxHeartbeats 32000000 in
theorem del_ackK {x : Nat × Nt} {i : Nat} (hS : HS S W w (YL D h uf R)) (hx : D.ns[i]? = some x) (hak : x.2.ak = true) (hun : h.un ≤ 16) (hhn : D.hn ≤ 1000000) : Calls Tryz.prog 21 #[.pointer (some ⟨D.Y, 0, none⟩), .int .i64 (i : Int), .bool true] w fun e w' => e = .returned (.bool true) ∧ HS S W w' (YL { D with hn := D.hn + 1 } (heardH h x.2) uf R) := by
  have S0 := hid hS
  have HX := hid hx
  have HAK := hid hak
  have hil := (List.getElem?_eq_some_iff.1 hx).1
  have AT := hid (yd_at hS i x hx)
  clear hS hx hak
  obtain ⟨n, hn⟩ : ∃ n, n = x.2 := ⟨_, rfl⟩
  rw [← hn] at AT HAK ⊢
  have HN := hid hn
  clear hn
  refine calls_of_wpN Tryz.func21 rfl ?_
  simp only [Tryz.ntmps21, List.size_toArray, List.length_cons, List.length_nil, Nat.reduceAdd, Nat.reduceSub, Array.replicate_succ, Array.replicate_zero, List.push_toArray, List.append_toArray, List.nil_append, List.cons_append]
  refine wpN_seq_k (fun K hK => wpN_of ?_)
  go_wp2_with fail
  refine wpN_seq_k (fun K hK => wpN_of ?_)
  go_wp2_with fail
  refine AT.out.mono ?_
  rintro e w1 ⟨rfl, hb⟩
  have S1 := hid (S0.out.below hb)
  clear hb AT S0
  go_simp
  go_wp2_with (first | ((with_reducible refine wl_id ?_); refine wl_ow rfl (ow_alloc rfl (znt_fa _) (by omega) S1.out ?_); intro X w_ hZ _; have S2 := hid hZ; clear hZ) | ((with_reducible refine wl_id ?_); refine wl_ow rfl (ow_store (A := []) 0 342 (ntc n) (ntc n) rfl rfl rfl S2.out (by omega) (fun j hj => patch_all _ _ _ j hj) info_nt (ntc_one _) ?_); intro w3 hZ; have S3 : Hid (HS S W w3 (YL D h uf ([thB X 342 (ntc n)] ++ R))) := hid (HS.perm (hZ : HS S W w3 (thB X 342 (ntc n) :: YL D h uf R)) (put_mid _ (thB D.Y 5 (yc D.hb D.U D.V D.ca D.cm) :: thL D.V D.ns :: thH D.hb D.hc D.hm D.hn h :: thC1 D.ca [] :: thC1 D.cm [] :: thW 0 72 1 D.U h.un (ubV D) :: (List.range h.un).map (unT D uf)) (nths D.ns) R)); clear hZ S2))
  clear S1
  refine wpN_seq_k (fun K hK => wpN_of ?_)
  go_wp2_with fail
  refine wpN_seq_k (fun K hK => wpN_of ?_)
  go_wp2_with fail
  have S4 := S3
  obtain ⟨w4, hw4⟩ : ∃ w4, w4 = w3 := ⟨_, rfl⟩
  rw [← hw4] at S4 ⊢
  clear hw4
  have x4 : w4.cell? ⟨X, 4, none⟩ = some (.bool true) := (by have := Fb.nt4 (YL.memR S4.out (t := thB X 342 (ntc n)) (by simp) : Fb w4 X 342 (ntc n)); rwa [HAK.out] at this)
  clear S3
  refine wpN_seq_k (fun K hK => ?_)
  refine wpN_seq_k (fun K2 hK2 => wpN_of ?_)
  go_wp2_with fail
  clear x4
  refine wpN_cond (t := true) rfl ?_
  obtain ⟨wd, hwd⟩ : ∃ wd, wd = w4.drew := ⟨_, rfl⟩
  refine wpN_draw (by kernel_rfl) ?_
  rw [← hwd]
  have S5 : Hid (HS S W wd (YL D h uf ([thB X 342 (ntc n)] ++ R))) := hid (by rw [hwd]; exact S4.out.drew)
  clear S4 hwd
  have FX := hid (YL.memR S5.out (t := thB X 342 (ntc n)) (by simp) : Fb wd X 342 (ntc n))
  have C3 := hid (show wd.cell? ⟨D.Y, 3, none⟩ = some (.chan (some D.ca)) from YL.c3 (D := D) S5.out)
  have C4 := hid (show wd.cell? ⟨D.Y, 4, none⟩ = some (.chan (some D.cm)) from YL.c4 (D := D) S5.out)
  obtain ⟨s1, r1, h1⟩ := YLq.ca (D := D) (la := []) (lm := []) S5.out
  have HC := hid h1
  clear h1
  have S6 : Hid (HS S W (wd.setChan D.ca 1 #[Value.agg (FA 342 (ntc n))] false (s1 + 1) r1 false) (YLq D h uf ([thB X 342 (ntc n)] ++ R) [n] [])) := hid (YLq.setA (D := D) (la := []) (lm := []) S5.out [n] (s1 + 1) r1)
  show wpAnyN _ _ _ 6 (Array.replicate 6 false) _ _
  have FIN : Hid (∀ a : Act, a.tmps = #[.pointer (some ⟨D.Y, 0, none⟩)] → True) := hid (fun _ _ => trivial)
  clear FIN
  have LEAF : ∀ a : Act, a.tmps.getD 0 undef = .pointer (some ⟨D.Y, 0, none⟩) → a.tmps.size = 40 → True := fun _ _ _ => trivial
  clear LEAF
  refine anyN_two 0 4 (by kernel_rfl) ?_ ?_
  · refine stepN_val (v := ?_) (w' := wd) rfl rfl ?_ ?_; rotate_left; (focus ( go_simp; (try with_reducible rfl))); (try simp only [Act.put, List.setIfInBounds_toArray, List.set_cons_zero, List.set_cons_succ])
    refine anyN_two 1 4 (by kernel_rfl) ?_ ?_
    · refine stepN_val (v := ?_) (w' := wd) rfl rfl ?_ ?_; rotate_left; (focus ( go_simp; (try with_reducible rfl))); (try simp only [Act.put, List.setIfInBounds_toArray, List.set_cons_zero, List.set_cons_succ])
      refine anyN_two 2 4 (by kernel_rfl) ?_ ?_
      · refine stepN_val (v := ?_) (w' := wd) rfl rfl ?_ ?_; rotate_left; (focus ( go_simp; (try with_reducible rfl))); (try simp only [Act.put, List.setIfInBounds_toArray, List.set_cons_zero, List.set_cons_succ])
        refine anyN_two 3 4 (by kernel_rfl) ?_ ?_
        · refine stepN_val (v := ?_) (w' := wd) rfl rfl ?_ ?_; rotate_left; (focus (have x0 := C3.out; go_simp; (try with_reducible rfl))); (try simp only [Act.put, List.setIfInBounds_toArray, List.set_cons_zero, List.set_cons_succ])
          refine anyN_only 4 (by kernel_rfl) ?_
          refine stepN_val (v := .agg (FA 342 (ntc n))) (w' := wd) rfl rfl (ex_load rfl rfl (FX.out.load 0 342 (ntc n) (by omega) (fun j hj => by rw [Nat.zero_add]) Tryz.underlying94 rfl info_nt)) ?_
          try simp only [Act.put, List.setIfInBounds_toArray, List.set_cons_zero, List.set_cons_succ]
          refine anyN_only 5 (by kernel_rfl) ?_
          refine stepN_send (c := D.ca) (cap := 1) (l := []) (u := .agg (FA 342 (ntc n))) (z := .tuple #[]) rfl rfl (by simp [go_sem, execOp, Go.Conc.scase, Act.eval]) HC.out (by decide) ?_
          try simp only [Act.put, List.setIfInBounds_toArray, List.set_cons_zero, List.set_cons_succ]
          refine ⟨by kernel_rfl, ?_⟩
          refine hK _ (wd.setChan D.ca 1 #[Value.agg (FA 342 (ntc n))] false (s1 + 1) r1 false) ?_
          generalize wd.setChan D.ca 1 #[Value.agg (FA 342 (ntc n))] false (s1 + 1) r1 false = w6 at *
          refine wpN_of ?_
          go_wp2_with fail
          refine (serve_ack S6.out hun hhn).mono ?_
          rintro e w7 ⟨rfl, hZ⟩
          have S7 := hid (hZ.sub (YL.lessR _ _ _ [thB X 342 (ntc n)] R))
          clear hZ S6
          go_simp
          go_wp2_with fail
          go_ret
          exact ⟨rfl, S7.out⟩
        · refine stepN_val (v := .agg (FA 342 (ntc n))) (w' := wd) rfl rfl (ex_load rfl rfl (FX.out.load 0 342 (ntc n) (by omega) (fun j hj => by rw [Nat.zero_add]) Tryz.underlying94 rfl info_nt)) ?_
          try simp only [Act.put, List.setIfInBounds_toArray, List.set_cons_zero, List.set_cons_succ]
          refine anyN_only 3 (by kernel_rfl) ?_
          refine stepN_val (v := ?_) (w' := wd) rfl rfl ?_ ?_; rotate_left; (focus (have x0 := C3.out; go_simp; (try with_reducible rfl))); (try simp only [Act.put, List.setIfInBounds_toArray, List.set_cons_zero, List.set_cons_succ])
          refine anyN_only 5 (by kernel_rfl) ?_
          refine stepN_send (c := D.ca) (cap := 1) (l := []) (u := .agg (FA 342 (ntc n))) (z := .tuple #[]) rfl rfl (by simp [go_sem, execOp, Go.Conc.scase, Act.eval]) HC.out (by decide) ?_
          try simp only [Act.put, List.setIfInBounds_toArray, List.set_cons_zero, List.set_cons_succ]
          refine ⟨by kernel_rfl, ?_⟩
          refine hK _ (wd.setChan D.ca 1 #[Value.agg (FA 342 (ntc n))] false (s1 + 1) r1 false) ?_
          generalize wd.setChan D.ca 1 #[Value.agg (FA 342 (ntc n))] false (s1 + 1) r1 false = w6 at *
          refine wpN_of ?_
          go_wp2_with fail
          refine (serve_ack S6.out hun hhn).mono ?_
          rintro e w7 ⟨rfl, hZ⟩
          have S7 := hid (hZ.sub (YL.lessR _ _ _ [thB X 342 (ntc n)] R))
          clear hZ S6
          go_simp
          go_wp2_with fail
          go_ret
          exact ⟨rfl, S7.out⟩
      · refine stepN_val (v := .agg (FA 342 (ntc n))) (w' := wd) rfl rfl (ex_load rfl rfl (FX.out.load 0 342 (ntc n) (by omega) (fun j hj => by rw [Nat.zero_add]) Tryz.underlying94 rfl info_nt)) ?_
        try simp only [Act.put, List.setIfInBounds_toArray, List.set_cons_zero, List.set_cons_succ]
        refine anyN_only 2 (by kernel_rfl) ?_
        refine stepN_val (v := ?_) (w' := wd) rfl rfl ?_ ?_; rotate_left; (focus ( go_simp; (try with_reducible rfl))); (try simp only [Act.put, List.setIfInBounds_toArray, List.set_cons_zero, List.set_cons_succ])
        refine anyN_only 3 (by kernel_rfl) ?_
        refine stepN_val (v := ?_) (w' := wd) rfl rfl ?_ ?_; rotate_left; (focus (have x0 := C3.out; go_simp; (try with_reducible rfl))); (try simp only [Act.put, List.setIfInBounds_toArray, List.set_cons_zero, List.set_cons_succ])
        refine anyN_only 5 (by kernel_rfl) ?_
        refine stepN_send (c := D.ca) (cap := 1) (l := []) (u := .agg (FA 342 (ntc n))) (z := .tuple #[]) rfl rfl (by simp [go_sem, execOp, Go.Conc.scase, Act.eval]) HC.out (by decide) ?_
        try simp only [Act.put, List.setIfInBounds_toArray, List.set_cons_zero, List.set_cons_succ]
        refine ⟨by kernel_rfl, ?_⟩
        refine hK _ (wd.setChan D.ca 1 #[Value.agg (FA 342 (ntc n))] false (s1 + 1) r1 false) ?_
        generalize wd.setChan D.ca 1 #[Value.agg (FA 342 (ntc n))] false (s1 + 1) r1 false = w6 at *
        refine wpN_of ?_
        go_wp2_with fail
        refine (serve_ack S6.out hun hhn).mono ?_
        rintro e w7 ⟨rfl, hZ⟩
        have S7 := hid (hZ.sub (YL.lessR _ _ _ [thB X 342 (ntc n)] R))
        clear hZ S6
        go_simp
        go_wp2_with fail
        go_ret
        exact ⟨rfl, S7.out⟩
    · refine stepN_val (v := .agg (FA 342 (ntc n))) (w' := wd) rfl rfl (ex_load rfl rfl (FX.out.load 0 342 (ntc n) (by omega) (fun j hj => by rw [Nat.zero_add]) Tryz.underlying94 rfl info_nt)) ?_
      try simp only [Act.put, List.setIfInBounds_toArray, List.set_cons_zero, List.set_cons_succ]
      refine anyN_only 1 (by kernel_rfl) ?_
      refine stepN_val (v := ?_) (w' := wd) rfl rfl ?_ ?_; rotate_left; (focus ( go_simp; (try with_reducible rfl))); (try simp only [Act.put, List.setIfInBounds_toArray, List.set_cons_zero, List.set_cons_succ])
      refine anyN_only 2 (by kernel_rfl) ?_
      refine stepN_val (v := ?_) (w' := wd) rfl rfl ?_ ?_; rotate_left; (focus ( go_simp; (try with_reducible rfl))); (try simp only [Act.put, List.setIfInBounds_toArray, List.set_cons_zero, List.set_cons_succ])
      refine anyN_only 3 (by kernel_rfl) ?_
      refine stepN_val (v := ?_) (w' := wd) rfl rfl ?_ ?_; rotate_left; (focus (have x0 := C3.out; go_simp; (try with_reducible rfl))); (try simp only [Act.put, List.setIfInBounds_toArray, List.set_cons_zero, List.set_cons_succ])
      refine anyN_only 5 (by kernel_rfl) ?_
      refine stepN_send (c := D.ca) (cap := 1) (l := []) (u := .agg (FA 342 (ntc n))) (z := .tuple #[]) rfl rfl (by simp [go_sem, execOp, Go.Conc.scase, Act.eval]) HC.out (by decide) ?_
      try simp only [Act.put, List.setIfInBounds_toArray, List.set_cons_zero, List.set_cons_succ]
      refine ⟨by kernel_rfl, ?_⟩
      refine hK _ (wd.setChan D.ca 1 #[Value.agg (FA 342 (ntc n))] false (s1 + 1) r1 false) ?_
      generalize wd.setChan D.ca 1 #[Value.agg (FA 342 (ntc n))] false (s1 + 1) r1 false = w6 at *
      refine wpN_of ?_
      go_wp2_with fail
      refine (serve_ack S6.out hun hhn).mono ?_
      rintro e w7 ⟨rfl, hZ⟩
      have S7 := hid (hZ.sub (YL.lessR _ _ _ [thB X 342 (ntc n)] R))
      clear hZ S6
      go_simp
      go_wp2_with fail
      go_ret
      exact ⟨rfl, S7.out⟩
  · refine stepN_val (v := .agg (FA 342 (ntc n))) (w' := wd) rfl rfl (ex_load rfl rfl (FX.out.load 0 342 (ntc n) (by omega) (fun j hj => by rw [Nat.zero_add]) Tryz.underlying94 rfl info_nt)) ?_
    try simp only [Act.put, List.setIfInBounds_toArray, List.set_cons_zero, List.set_cons_succ]
    refine anyN_only 0 (by kernel_rfl) ?_
    refine stepN_val (v := ?_) (w' := wd) rfl rfl ?_ ?_; rotate_left; (focus ( go_simp; (try with_reducible rfl))); (try simp only [Act.put, List.setIfInBounds_toArray, List.set_cons_zero, List.set_cons_succ])
    refine anyN_only 1 (by kernel_rfl) ?_
    refine stepN_val (v := ?_) (w' := wd) rfl rfl ?_ ?_; rotate_left; (focus ( go_simp; (try with_reducible rfl))); (try simp only [Act.put, List.setIfInBounds_toArray, List.set_cons_zero, List.set_cons_succ])
    refine anyN_only 2 (by kernel_rfl) ?_
    refine stepN_val (v := ?_) (w' := wd) rfl rfl ?_ ?_; rotate_left; (focus ( go_simp; (try with_reducible rfl))); (try simp only [Act.put, List.setIfInBounds_toArray, List.set_cons_zero, List.set_cons_succ])
    refine anyN_only 3 (by kernel_rfl) ?_
    refine stepN_val (v := ?_) (w' := wd) rfl rfl ?_ ?_; rotate_left; (focus (have x0 := C3.out; go_simp; (try with_reducible rfl))); (try simp only [Act.put, List.setIfInBounds_toArray, List.set_cons_zero, List.set_cons_succ])
    refine anyN_only 5 (by kernel_rfl) ?_
    refine stepN_send (c := D.ca) (cap := 1) (l := []) (u := .agg (FA 342 (ntc n))) (z := .tuple #[]) rfl rfl (by simp [go_sem, execOp, Go.Conc.scase, Act.eval]) HC.out (by decide) ?_
    try simp only [Act.put, List.setIfInBounds_toArray, List.set_cons_zero, List.set_cons_succ]
    refine ⟨by kernel_rfl, ?_⟩
    refine hK _ (wd.setChan D.ca 1 #[Value.agg (FA 342 (ntc n))] false (s1 + 1) r1 false) ?_
    generalize wd.setChan D.ca 1 #[Value.agg (FA 342 (ntc n))] false (s1 + 1) r1 false = w6 at *
    refine wpN_of ?_
    go_wp2_with fail
    refine (serve_ack S6.out hun hhn).mono ?_
    rintro e w7 ⟨rfl, hZ⟩
    have S7 := hid (hZ.sub (YL.lessR _ _ _ [thB X 342 (ntc n)] R))
    clear hZ S6
    go_simp
    go_wp2_with fail
    go_ret
    exact ⟨rfl, S7.out⟩
end
end Go.Proofs.YteefhiniamajkaaGreat
namespace Go.Proofs.YteefhiniamajkaaGreat
set_option linter.unusedVariables false
set_option linter.unusedSimpArgs false
open Go.RowKit Go.ChangeShapes Go.WideShapes Go.ChangeAt
set_option maxRecDepth 100000
attribute [local irreducible] FA FL
section
variable {S : List Nat} {W w : World} {D : Yl} {h : Hd} {uf : Nat → Uy} {R : List Th} {la lm : List Nt} {t : Th}
set_option maxHeartbeats 32000000 in
theorem del_ackD {x : Nat × Nt} {i : Nat} (hS : HS S W w (YL D h uf R)) (hx : D.ns[i]? = some x) (hak : x.2.ak = true) (hun : h.un ≤ 16) (hhn : D.hn ≤ 1000000) : Calls Tryz.prog 21 #[.pointer (some ⟨D.Y, 0, none⟩), .int .i64 (i : Int), .bool false] w fun e w' => e = .returned (.bool true) ∧ ∃ V', HS S W w' (YL { D with hn := D.hn + 1, V := V', ns := D.ns.eraseIdx i } (heardH h x.2) uf R) := by
  have S0 := hid hS
  have HX := hid hx
  have HAK := hid hak
  have hil := (List.getElem?_eq_some_iff.1 hx).1
  have AT := hid (yd_at hS i x hx)
  clear hS hx hak
  obtain ⟨n, hn⟩ : ∃ n, n = x.2 := ⟨_, rfl⟩
  rw [← hn] at AT HAK ⊢
  have HN := hid hn
  clear hn
  refine calls_of_wpN Tryz.func21 rfl ?_
  simp only [Tryz.ntmps21, List.size_toArray, List.length_cons, List.length_nil, Nat.reduceAdd, Nat.reduceSub, Array.replicate_succ, Array.replicate_zero, List.push_toArray, List.append_toArray, List.nil_append, List.cons_append]
  refine wpN_seq_k (fun K hK => wpN_of ?_)
  go_wp2_with fail
  refine wpN_seq_k (fun K hK => wpN_of ?_)
  go_wp2_with fail
  refine AT.out.mono ?_
  rintro e w1 ⟨rfl, hb⟩
  have S1 := hid (S0.out.below hb)
  clear hb AT S0
  go_simp
  go_wp2_with (first | ((with_reducible refine wl_id ?_); refine wl_ow rfl (ow_alloc rfl (znt_fa _) (by omega) S1.out ?_); intro X w_ hZ _; have S2 := hid hZ; clear hZ) | ((with_reducible refine wl_id ?_); refine wl_ow rfl (ow_store (A := []) 0 342 (ntc n) (ntc n) rfl rfl rfl S2.out (by omega) (fun j hj => patch_all _ _ _ j hj) info_nt (ntc_one _) ?_); intro w3 hZ; have S3 : Hid (HS S W w3 (YL D h uf ([thB X 342 (ntc n)] ++ R))) := hid (HS.perm (hZ : HS S W w3 (thB X 342 (ntc n) :: YL D h uf R)) (put_mid _ (thB D.Y 5 (yc D.hb D.U D.V D.ca D.cm) :: thL D.V D.ns :: thH D.hb D.hc D.hm D.hn h :: thC1 D.ca [] :: thC1 D.cm [] :: thW 0 72 1 D.U h.un (ubV D) :: (List.range h.un).map (unT D uf)) (nths D.ns) R)); clear hZ S2))
  clear S1
  refine wpN_seq_k (fun K hK => wpN_of ?_)
  go_wp2_with fail
  refine wpN_seq_k (fun K hK => wpN_of ?_)
  go_wp2_with fail
  refine (lane_drop (M := thH D.hb D.hc D.hm D.hn h :: thC1 D.ca [] :: thC1 D.cm [] :: thW 0 72 1 D.U h.un (ubV D) :: (List.range h.un).map (unT D uf)) (R := [thB X 342 (ntc n)] ++ R) S3.out i hil).mono ?_
  rintro e w4 ⟨rfl, V', hZ⟩
  have S4 : Hid (HS S W w4 (YL { D with V := V', ns := D.ns.eraseIdx i } h uf ([thB X 342 (ntc n)] ++ R))) := hid hZ
  clear hZ
  go_simp
  go_wp2_with fail
  have x4 : w4.cell? ⟨X, 4, none⟩ = some (.bool true) := (by have := Fb.nt4 (YL.memR S4.out (t := thB X 342 (ntc n)) (by simp) : Fb w4 X 342 (ntc n)); rwa [HAK.out] at this)
  clear S3
  refine wpN_seq_k (fun K hK => ?_)
  refine wpN_seq_k (fun K2 hK2 => wpN_of ?_)
  go_wp2_with fail
  clear x4
  refine wpN_cond (t := true) rfl ?_
  obtain ⟨wd, hwd⟩ : ∃ wd, wd = w4.drew := ⟨_, rfl⟩
  refine wpN_draw (by kernel_rfl) ?_
  rw [← hwd]
  have S5 : Hid (HS S W wd (YL { D with V := V', ns := D.ns.eraseIdx i } h uf ([thB X 342 (ntc n)] ++ R))) := hid (by rw [hwd]; exact S4.out.drew)
  clear S4 hwd
  have FX := hid (YL.memR S5.out (t := thB X 342 (ntc n)) (by simp) : Fb wd X 342 (ntc n))
  have C3 := hid (show wd.cell? ⟨D.Y, 3, none⟩ = some (.chan (some D.ca)) from YL.c3 (D := { D with V := V', ns := D.ns.eraseIdx i }) S5.out)
  have C4 := hid (show wd.cell? ⟨D.Y, 4, none⟩ = some (.chan (some D.cm)) from YL.c4 (D := { D with V := V', ns := D.ns.eraseIdx i }) S5.out)
  obtain ⟨s1, r1, h1⟩ := YLq.ca (D := { D with V := V', ns := D.ns.eraseIdx i }) (la := []) (lm := []) S5.out
  have HC := hid h1
  clear h1
  have S6 : Hid (HS S W (wd.setChan D.ca 1 #[Value.agg (FA 342 (ntc n))] false (s1 + 1) r1 false) (YLq { D with V := V', ns := D.ns.eraseIdx i } h uf ([thB X 342 (ntc n)] ++ R) [n] [])) := hid (YLq.setA (D := { D with V := V', ns := D.ns.eraseIdx i }) (la := []) (lm := []) S5.out [n] (s1 + 1) r1)
  show wpAnyN _ _ _ 6 (Array.replicate 6 false) _ _
  have FIN : Hid (∀ a : Act, a.tmps = #[.pointer (some ⟨D.Y, 0, none⟩)] → True) := hid (fun _ _ => trivial)
  clear FIN
  have LEAF : ∀ a : Act, a.tmps.getD 0 undef = .pointer (some ⟨D.Y, 0, none⟩) → a.tmps.size = 40 → True := fun _ _ _ => trivial
  clear LEAF
  refine anyN_two 0 4 (by kernel_rfl) ?_ ?_
  · refine stepN_val (v := ?_) (w' := wd) rfl rfl ?_ ?_; rotate_left; (focus ( go_simp; (try with_reducible rfl))); (try simp only [Act.put, List.setIfInBounds_toArray, List.set_cons_zero, List.set_cons_succ])
    refine anyN_two 1 4 (by kernel_rfl) ?_ ?_
    · refine stepN_val (v := ?_) (w' := wd) rfl rfl ?_ ?_; rotate_left; (focus ( go_simp; (try with_reducible rfl))); (try simp only [Act.put, List.setIfInBounds_toArray, List.set_cons_zero, List.set_cons_succ])
      refine anyN_two 2 4 (by kernel_rfl) ?_ ?_
      · refine stepN_val (v := ?_) (w' := wd) rfl rfl ?_ ?_; rotate_left; (focus ( go_simp; (try with_reducible rfl))); (try simp only [Act.put, List.setIfInBounds_toArray, List.set_cons_zero, List.set_cons_succ])
        refine anyN_two 3 4 (by kernel_rfl) ?_ ?_
        · refine stepN_val (v := ?_) (w' := wd) rfl rfl ?_ ?_; rotate_left; (focus (have x0 := C3.out; go_simp; (try with_reducible rfl))); (try simp only [Act.put, List.setIfInBounds_toArray, List.set_cons_zero, List.set_cons_succ])
          refine anyN_only 4 (by kernel_rfl) ?_
          refine stepN_val (v := .agg (FA 342 (ntc n))) (w' := wd) rfl rfl (ex_load rfl rfl (FX.out.load 0 342 (ntc n) (by omega) (fun j hj => by rw [Nat.zero_add]) Tryz.underlying94 rfl info_nt)) ?_
          try simp only [Act.put, List.setIfInBounds_toArray, List.set_cons_zero, List.set_cons_succ]
          refine anyN_only 5 (by kernel_rfl) ?_
          refine stepN_send (c := D.ca) (cap := 1) (l := []) (u := .agg (FA 342 (ntc n))) (z := .tuple #[]) rfl rfl (by simp [go_sem, execOp, Go.Conc.scase, Act.eval]) HC.out (by decide) ?_
          try simp only [Act.put, List.setIfInBounds_toArray, List.set_cons_zero, List.set_cons_succ]
          refine ⟨by kernel_rfl, ?_⟩
          refine hK _ (wd.setChan D.ca 1 #[Value.agg (FA 342 (ntc n))] false (s1 + 1) r1 false) ?_
          generalize wd.setChan D.ca 1 #[Value.agg (FA 342 (ntc n))] false (s1 + 1) r1 false = w6 at *
          refine wpN_of ?_
          go_wp2_with fail
          refine (serve_ack S6.out hun hhn).mono ?_
          rintro e w7 ⟨rfl, hZ⟩
          have S7 := hid (hZ.sub (YL.lessR _ _ _ [thB X 342 (ntc n)] R))
          clear hZ S6
          go_simp
          go_wp2_with fail
          go_ret
          exact ⟨rfl, _, S7.out⟩
        · refine stepN_val (v := .agg (FA 342 (ntc n))) (w' := wd) rfl rfl (ex_load rfl rfl (FX.out.load 0 342 (ntc n) (by omega) (fun j hj => by rw [Nat.zero_add]) Tryz.underlying94 rfl info_nt)) ?_
          try simp only [Act.put, List.setIfInBounds_toArray, List.set_cons_zero, List.set_cons_succ]
          refine anyN_only 3 (by kernel_rfl) ?_
          refine stepN_val (v := ?_) (w' := wd) rfl rfl ?_ ?_; rotate_left; (focus (have x0 := C3.out; go_simp; (try with_reducible rfl))); (try simp only [Act.put, List.setIfInBounds_toArray, List.set_cons_zero, List.set_cons_succ])
          refine anyN_only 5 (by kernel_rfl) ?_
          refine stepN_send (c := D.ca) (cap := 1) (l := []) (u := .agg (FA 342 (ntc n))) (z := .tuple #[]) rfl rfl (by simp [go_sem, execOp, Go.Conc.scase, Act.eval]) HC.out (by decide) ?_
          try simp only [Act.put, List.setIfInBounds_toArray, List.set_cons_zero, List.set_cons_succ]
          refine ⟨by kernel_rfl, ?_⟩
          refine hK _ (wd.setChan D.ca 1 #[Value.agg (FA 342 (ntc n))] false (s1 + 1) r1 false) ?_
          generalize wd.setChan D.ca 1 #[Value.agg (FA 342 (ntc n))] false (s1 + 1) r1 false = w6 at *
          refine wpN_of ?_
          go_wp2_with fail
          refine (serve_ack S6.out hun hhn).mono ?_
          rintro e w7 ⟨rfl, hZ⟩
          have S7 := hid (hZ.sub (YL.lessR _ _ _ [thB X 342 (ntc n)] R))
          clear hZ S6
          go_simp
          go_wp2_with fail
          go_ret
          exact ⟨rfl, _, S7.out⟩
      · refine stepN_val (v := .agg (FA 342 (ntc n))) (w' := wd) rfl rfl (ex_load rfl rfl (FX.out.load 0 342 (ntc n) (by omega) (fun j hj => by rw [Nat.zero_add]) Tryz.underlying94 rfl info_nt)) ?_
        try simp only [Act.put, List.setIfInBounds_toArray, List.set_cons_zero, List.set_cons_succ]
        refine anyN_only 2 (by kernel_rfl) ?_
        refine stepN_val (v := ?_) (w' := wd) rfl rfl ?_ ?_; rotate_left; (focus ( go_simp; (try with_reducible rfl))); (try simp only [Act.put, List.setIfInBounds_toArray, List.set_cons_zero, List.set_cons_succ])
        refine anyN_only 3 (by kernel_rfl) ?_
        refine stepN_val (v := ?_) (w' := wd) rfl rfl ?_ ?_; rotate_left; (focus (have x0 := C3.out; go_simp; (try with_reducible rfl))); (try simp only [Act.put, List.setIfInBounds_toArray, List.set_cons_zero, List.set_cons_succ])
        refine anyN_only 5 (by kernel_rfl) ?_
        refine stepN_send (c := D.ca) (cap := 1) (l := []) (u := .agg (FA 342 (ntc n))) (z := .tuple #[]) rfl rfl (by simp [go_sem, execOp, Go.Conc.scase, Act.eval]) HC.out (by decide) ?_
        try simp only [Act.put, List.setIfInBounds_toArray, List.set_cons_zero, List.set_cons_succ]
        refine ⟨by kernel_rfl, ?_⟩
        refine hK _ (wd.setChan D.ca 1 #[Value.agg (FA 342 (ntc n))] false (s1 + 1) r1 false) ?_
        generalize wd.setChan D.ca 1 #[Value.agg (FA 342 (ntc n))] false (s1 + 1) r1 false = w6 at *
        refine wpN_of ?_
        go_wp2_with fail
        refine (serve_ack S6.out hun hhn).mono ?_
        rintro e w7 ⟨rfl, hZ⟩
        have S7 := hid (hZ.sub (YL.lessR _ _ _ [thB X 342 (ntc n)] R))
        clear hZ S6
        go_simp
        go_wp2_with fail
        go_ret
        exact ⟨rfl, _, S7.out⟩
    · refine stepN_val (v := .agg (FA 342 (ntc n))) (w' := wd) rfl rfl (ex_load rfl rfl (FX.out.load 0 342 (ntc n) (by omega) (fun j hj => by rw [Nat.zero_add]) Tryz.underlying94 rfl info_nt)) ?_
      try simp only [Act.put, List.setIfInBounds_toArray, List.set_cons_zero, List.set_cons_succ]
      refine anyN_only 1 (by kernel_rfl) ?_
      refine stepN_val (v := ?_) (w' := wd) rfl rfl ?_ ?_; rotate_left; (focus ( go_simp; (try with_reducible rfl))); (try simp only [Act.put, List.setIfInBounds_toArray, List.set_cons_zero, List.set_cons_succ])
      refine anyN_only 2 (by kernel_rfl) ?_
      refine stepN_val (v := ?_) (w' := wd) rfl rfl ?_ ?_; rotate_left; (focus ( go_simp; (try with_reducible rfl))); (try simp only [Act.put, List.setIfInBounds_toArray, List.set_cons_zero, List.set_cons_succ])
      refine anyN_only 3 (by kernel_rfl) ?_
      refine stepN_val (v := ?_) (w' := wd) rfl rfl ?_ ?_; rotate_left; (focus (have x0 := C3.out; go_simp; (try with_reducible rfl))); (try simp only [Act.put, List.setIfInBounds_toArray, List.set_cons_zero, List.set_cons_succ])
      refine anyN_only 5 (by kernel_rfl) ?_
      refine stepN_send (c := D.ca) (cap := 1) (l := []) (u := .agg (FA 342 (ntc n))) (z := .tuple #[]) rfl rfl (by simp [go_sem, execOp, Go.Conc.scase, Act.eval]) HC.out (by decide) ?_
      try simp only [Act.put, List.setIfInBounds_toArray, List.set_cons_zero, List.set_cons_succ]
      refine ⟨by kernel_rfl, ?_⟩
      refine hK _ (wd.setChan D.ca 1 #[Value.agg (FA 342 (ntc n))] false (s1 + 1) r1 false) ?_
      generalize wd.setChan D.ca 1 #[Value.agg (FA 342 (ntc n))] false (s1 + 1) r1 false = w6 at *
      refine wpN_of ?_
      go_wp2_with fail
      refine (serve_ack S6.out hun hhn).mono ?_
      rintro e w7 ⟨rfl, hZ⟩
      have S7 := hid (hZ.sub (YL.lessR _ _ _ [thB X 342 (ntc n)] R))
      clear hZ S6
      go_simp
      go_wp2_with fail
      go_ret
      exact ⟨rfl, _, S7.out⟩
  · refine stepN_val (v := .agg (FA 342 (ntc n))) (w' := wd) rfl rfl (ex_load rfl rfl (FX.out.load 0 342 (ntc n) (by omega) (fun j hj => by rw [Nat.zero_add]) Tryz.underlying94 rfl info_nt)) ?_
    try simp only [Act.put, List.setIfInBounds_toArray, List.set_cons_zero, List.set_cons_succ]
    refine anyN_only 0 (by kernel_rfl) ?_
    refine stepN_val (v := ?_) (w' := wd) rfl rfl ?_ ?_; rotate_left; (focus ( go_simp; (try with_reducible rfl))); (try simp only [Act.put, List.setIfInBounds_toArray, List.set_cons_zero, List.set_cons_succ])
    refine anyN_only 1 (by kernel_rfl) ?_
    refine stepN_val (v := ?_) (w' := wd) rfl rfl ?_ ?_; rotate_left; (focus ( go_simp; (try with_reducible rfl))); (try simp only [Act.put, List.setIfInBounds_toArray, List.set_cons_zero, List.set_cons_succ])
    refine anyN_only 2 (by kernel_rfl) ?_
    refine stepN_val (v := ?_) (w' := wd) rfl rfl ?_ ?_; rotate_left; (focus ( go_simp; (try with_reducible rfl))); (try simp only [Act.put, List.setIfInBounds_toArray, List.set_cons_zero, List.set_cons_succ])
    refine anyN_only 3 (by kernel_rfl) ?_
    refine stepN_val (v := ?_) (w' := wd) rfl rfl ?_ ?_; rotate_left; (focus (have x0 := C3.out; go_simp; (try with_reducible rfl))); (try simp only [Act.put, List.setIfInBounds_toArray, List.set_cons_zero, List.set_cons_succ])
    refine anyN_only 5 (by kernel_rfl) ?_
    refine stepN_send (c := D.ca) (cap := 1) (l := []) (u := .agg (FA 342 (ntc n))) (z := .tuple #[]) rfl rfl (by simp [go_sem, execOp, Go.Conc.scase, Act.eval]) HC.out (by decide) ?_
    try simp only [Act.put, List.setIfInBounds_toArray, List.set_cons_zero, List.set_cons_succ]
    refine ⟨by kernel_rfl, ?_⟩
    refine hK _ (wd.setChan D.ca 1 #[Value.agg (FA 342 (ntc n))] false (s1 + 1) r1 false) ?_
    generalize wd.setChan D.ca 1 #[Value.agg (FA 342 (ntc n))] false (s1 + 1) r1 false = w6 at *
    refine wpN_of ?_
    go_wp2_with fail
    refine (serve_ack S6.out hun hhn).mono ?_
    rintro e w7 ⟨rfl, hZ⟩
    have S7 := hid (hZ.sub (YL.lessR _ _ _ [thB X 342 (ntc n)] R))
    clear hZ S6
    go_simp
    go_wp2_with fail
    go_ret
    exact ⟨rfl, _, S7.out⟩
end
end Go.Proofs.YteefhiniamajkaaGreat
namespace Go.Proofs.YteefhiniamajkaaGreat
set_option linter.unusedVariables false
set_option linter.unusedSimpArgs false
open Go.RowKit Go.ChangeShapes Go.WideShapes Go.ChangeAt
set_option maxRecDepth 100000
attribute [local irreducible] FA FL
section
variable {S : List Nat} {W w : World} {D : Yl} {h : Hd} {uf : Nat → Uy} {R : List Th} {la lm : List Nt} {t : Th}
set_option maxHeartbeats 32000000 in
theorem del_mailK {x : Nat × Nt} {i k : Nat} (hS : HS S W w (YL D h uf R)) (hx : D.ns[i]? = some x) (hak : x.2.ak = false) (hnu : x.2.u = (k : Int)) (hi : k < h.un) (hp : PB (uf k).p) (hw : (readU x.2 (uf k)).up = true → Pw (readU x.2 (uf k)).p) (hl : D.ns.length ≤ 1000000) : Calls Tryz.prog 21 #[.pointer (some ⟨D.Y, 0, none⟩), .int .i64 (i : Int), .bool true] w fun e w' => e = .returned (.bool true) ∧ ∃ nb V' s, HS S W w' (YL { D with bf := setB D.bf k s, V := V', ns := D.ns ++ [(nb, ackU k (readU x.2 (uf k)))] } h (setU uf k (readU x.2 (uf k))) R) := by
  have S0 := hid hS
  have HX := hid hx
  have HAK := hid hak
  have hil := (List.getElem?_eq_some_iff.1 hx).1
  have AT := hid (yd_at hS i x hx)
  clear hS hx hak
  obtain ⟨n, hn⟩ : ∃ n, n = x.2 := ⟨_, rfl⟩
  rw [← hn] at AT HAK hnu hw ⊢
  have HN := hid hn
  clear hn
  refine calls_of_wpN Tryz.func21 rfl ?_
  simp only [Tryz.ntmps21, List.size_toArray, List.length_cons, List.length_nil, Nat.reduceAdd, Nat.reduceSub, Array.replicate_succ, Array.replicate_zero, List.push_toArray, List.append_toArray, List.nil_append, List.cons_append]
  refine wpN_seq_k (fun K hK => wpN_of ?_)
  go_wp2_with fail
  refine wpN_seq_k (fun K hK => wpN_of ?_)
  go_wp2_with fail
  refine AT.out.mono ?_
  rintro e w1 ⟨rfl, hb⟩
  have S1 := hid (S0.out.below hb)
  clear hb AT S0
  go_simp
  go_wp2_with (first | ((with_reducible refine wl_id ?_); refine wl_ow rfl (ow_alloc rfl (znt_fa _) (by omega) S1.out ?_); intro X w_ hZ _; have S2 := hid hZ; clear hZ) | ((with_reducible refine wl_id ?_); refine wl_ow rfl (ow_store (A := []) 0 342 (ntc n) (ntc n) rfl rfl rfl S2.out (by omega) (fun j hj => patch_all _ _ _ j hj) info_nt (ntc_one _) ?_); intro w3 hZ; have S3 : Hid (HS S W w3 (YL D h uf ([thB X 342 (ntc n)] ++ R))) := hid (HS.perm (hZ : HS S W w3 (thB X 342 (ntc n) :: YL D h uf R)) (put_mid _ (thB D.Y 5 (yc D.hb D.U D.V D.ca D.cm) :: thL D.V D.ns :: thH D.hb D.hc D.hm D.hn h :: thC1 D.ca [] :: thC1 D.cm [] :: thW 0 72 1 D.U h.un (ubV D) :: (List.range h.un).map (unT D uf)) (nths D.ns) R)); clear hZ S2))
  clear S1
  refine wpN_seq_k (fun K hK => wpN_of ?_)
  go_wp2_with fail
  refine wpN_seq_k (fun K hK => wpN_of ?_)
  go_wp2_with fail
  have S4 := S3
  obtain ⟨w4, hw4⟩ : ∃ w4, w4 = w3 := ⟨_, rfl⟩
  rw [← hw4] at S4 ⊢
  clear hw4
  have x4 : w4.cell? ⟨X, 4, none⟩ = some (.bool false) := (by have := Fb.nt4 (YL.memR S4.out (t := thB X 342 (ntc n)) (by simp) : Fb w4 X 342 (ntc n)); rwa [HAK.out] at this)
  clear S3
  refine wpN_seq_k (fun K hK => ?_)
  refine wpN_seq_k (fun K2 hK2 => wpN_of ?_)
  go_wp2_with fail
  clear x4
  refine wpN_cond (t := false) rfl ?_
  obtain ⟨wd, hwd⟩ : ∃ wd, wd = w4.drew := ⟨_, rfl⟩
  refine wpN_draw (by kernel_rfl) ?_
  rw [← hwd]
  have S5 : Hid (HS S W wd (YL D h uf ([thB X 342 (ntc n)] ++ R))) := hid (by rw [hwd]; exact S4.out.drew)
  clear S4 hwd
  have FX := hid (YL.memR S5.out (t := thB X 342 (ntc n)) (by simp) : Fb wd X 342 (ntc n))
  have C3 := hid (show wd.cell? ⟨D.Y, 3, none⟩ = some (.chan (some D.ca)) from YL.c3 (D := D) S5.out)
  have C4 := hid (show wd.cell? ⟨D.Y, 4, none⟩ = some (.chan (some D.cm)) from YL.c4 (D := D) S5.out)
  obtain ⟨s1, r1, h1⟩ := YLq.cm (D := D) (la := []) (lm := []) S5.out
  have HC := hid h1
  clear h1
  have S6 : Hid (HS S W (wd.setChan D.cm 1 #[Value.agg (FA 342 (ntc n))] false (s1 + 1) r1 false) (YLq D h uf ([thB X 342 (ntc n)] ++ R) [] [n])) := hid (YLq.setM (D := D) (la := []) (lm := []) S5.out [n] (s1 + 1) r1)
  show wpAnyN _ _ _ 6 (Array.replicate 6 false) _ _
  have FIN : Hid (∀ a : Act, a.tmps = #[.pointer (some ⟨D.Y, 0, none⟩)] → True) := hid (fun _ _ => trivial)
  clear FIN
  have LEAF : ∀ a : Act, a.tmps.getD 0 undef = .pointer (some ⟨D.Y, 0, none⟩) → a.tmps.size = 40 → True := fun _ _ _ => trivial
  clear LEAF
  refine anyN_two 0 4 (by kernel_rfl) ?_ ?_
  · refine stepN_val (v := ?_) (w' := wd) rfl rfl ?_ ?_; rotate_left; (focus ( go_simp; (try with_reducible rfl))); (try simp only [Act.put, List.setIfInBounds_toArray, List.set_cons_zero, List.set_cons_succ])
    refine anyN_two 1 4 (by kernel_rfl) ?_ ?_
    · refine stepN_val (v := ?_) (w' := wd) rfl rfl ?_ ?_; rotate_left; (focus ( go_simp; (try with_reducible rfl))); (try simp only [Act.put, List.setIfInBounds_toArray, List.set_cons_zero, List.set_cons_succ])
      refine anyN_two 2 4 (by kernel_rfl) ?_ ?_
      · refine stepN_val (v := ?_) (w' := wd) rfl rfl ?_ ?_; rotate_left; (focus ( go_simp; (try with_reducible rfl))); (try simp only [Act.put, List.setIfInBounds_toArray, List.set_cons_zero, List.set_cons_succ])
        refine anyN_two 3 4 (by kernel_rfl) ?_ ?_
        · refine stepN_val (v := ?_) (w' := wd) rfl rfl ?_ ?_; rotate_left; (focus (have x0 := C4.out; go_simp; (try with_reducible rfl))); (try simp only [Act.put, List.setIfInBounds_toArray, List.set_cons_zero, List.set_cons_succ])
          refine anyN_only 4 (by kernel_rfl) ?_
          refine stepN_val (v := .agg (FA 342 (ntc n))) (w' := wd) rfl rfl (ex_load rfl rfl (FX.out.load 0 342 (ntc n) (by omega) (fun j hj => by rw [Nat.zero_add]) Tryz.underlying94 rfl info_nt)) ?_
          try simp only [Act.put, List.setIfInBounds_toArray, List.set_cons_zero, List.set_cons_succ]
          refine anyN_only 5 (by kernel_rfl) ?_
          refine stepN_send (c := D.cm) (cap := 1) (l := []) (u := .agg (FA 342 (ntc n))) (z := .tuple #[]) rfl rfl (by simp [go_sem, execOp, Go.Conc.scase, Act.eval]) HC.out (by decide) ?_
          try simp only [Act.put, List.setIfInBounds_toArray, List.set_cons_zero, List.set_cons_succ]
          refine ⟨by kernel_rfl, ?_⟩
          refine hK _ (wd.setChan D.cm 1 #[Value.agg (FA 342 (ntc n))] false (s1 + 1) r1 false) ?_
          generalize wd.setChan D.cm 1 #[Value.agg (FA 342 (ntc n))] false (s1 + 1) r1 false = w6 at *
          refine wpN_of ?_
          go_wp2_with fail
          refine (serve_mail S6.out hnu hi hp hw (by exact hl)).mono ?_
          rintro e w7 ⟨rfl, nb, V2, s, hZ⟩
          have S7 := hid (hZ.sub (YL.lessR _ _ _ [thB X 342 (ntc n)] R))
          clear hZ S6
          go_simp
          go_wp2_with fail
          go_ret
          exact ⟨rfl, nb, V2, s, S7.out⟩
        · refine stepN_val (v := .agg (FA 342 (ntc n))) (w' := wd) rfl rfl (ex_load rfl rfl (FX.out.load 0 342 (ntc n) (by omega) (fun j hj => by rw [Nat.zero_add]) Tryz.underlying94 rfl info_nt)) ?_
          try simp only [Act.put, List.setIfInBounds_toArray, List.set_cons_zero, List.set_cons_succ]
          refine anyN_only 3 (by kernel_rfl) ?_
          refine stepN_val (v := ?_) (w' := wd) rfl rfl ?_ ?_; rotate_left; (focus (have x0 := C4.out; go_simp; (try with_reducible rfl))); (try simp only [Act.put, List.setIfInBounds_toArray, List.set_cons_zero, List.set_cons_succ])
          refine anyN_only 5 (by kernel_rfl) ?_
          refine stepN_send (c := D.cm) (cap := 1) (l := []) (u := .agg (FA 342 (ntc n))) (z := .tuple #[]) rfl rfl (by simp [go_sem, execOp, Go.Conc.scase, Act.eval]) HC.out (by decide) ?_
          try simp only [Act.put, List.setIfInBounds_toArray, List.set_cons_zero, List.set_cons_succ]
          refine ⟨by kernel_rfl, ?_⟩
          refine hK _ (wd.setChan D.cm 1 #[Value.agg (FA 342 (ntc n))] false (s1 + 1) r1 false) ?_
          generalize wd.setChan D.cm 1 #[Value.agg (FA 342 (ntc n))] false (s1 + 1) r1 false = w6 at *
          refine wpN_of ?_
          go_wp2_with fail
          refine (serve_mail S6.out hnu hi hp hw (by exact hl)).mono ?_
          rintro e w7 ⟨rfl, nb, V2, s, hZ⟩
          have S7 := hid (hZ.sub (YL.lessR _ _ _ [thB X 342 (ntc n)] R))
          clear hZ S6
          go_simp
          go_wp2_with fail
          go_ret
          exact ⟨rfl, nb, V2, s, S7.out⟩
      · refine stepN_val (v := .agg (FA 342 (ntc n))) (w' := wd) rfl rfl (ex_load rfl rfl (FX.out.load 0 342 (ntc n) (by omega) (fun j hj => by rw [Nat.zero_add]) Tryz.underlying94 rfl info_nt)) ?_
        try simp only [Act.put, List.setIfInBounds_toArray, List.set_cons_zero, List.set_cons_succ]
        refine anyN_only 2 (by kernel_rfl) ?_
        refine stepN_val (v := ?_) (w' := wd) rfl rfl ?_ ?_; rotate_left; (focus ( go_simp; (try with_reducible rfl))); (try simp only [Act.put, List.setIfInBounds_toArray, List.set_cons_zero, List.set_cons_succ])
        refine anyN_only 3 (by kernel_rfl) ?_
        refine stepN_val (v := ?_) (w' := wd) rfl rfl ?_ ?_; rotate_left; (focus (have x0 := C4.out; go_simp; (try with_reducible rfl))); (try simp only [Act.put, List.setIfInBounds_toArray, List.set_cons_zero, List.set_cons_succ])
        refine anyN_only 5 (by kernel_rfl) ?_
        refine stepN_send (c := D.cm) (cap := 1) (l := []) (u := .agg (FA 342 (ntc n))) (z := .tuple #[]) rfl rfl (by simp [go_sem, execOp, Go.Conc.scase, Act.eval]) HC.out (by decide) ?_
        try simp only [Act.put, List.setIfInBounds_toArray, List.set_cons_zero, List.set_cons_succ]
        refine ⟨by kernel_rfl, ?_⟩
        refine hK _ (wd.setChan D.cm 1 #[Value.agg (FA 342 (ntc n))] false (s1 + 1) r1 false) ?_
        generalize wd.setChan D.cm 1 #[Value.agg (FA 342 (ntc n))] false (s1 + 1) r1 false = w6 at *
        refine wpN_of ?_
        go_wp2_with fail
        refine (serve_mail S6.out hnu hi hp hw (by exact hl)).mono ?_
        rintro e w7 ⟨rfl, nb, V2, s, hZ⟩
        have S7 := hid (hZ.sub (YL.lessR _ _ _ [thB X 342 (ntc n)] R))
        clear hZ S6
        go_simp
        go_wp2_with fail
        go_ret
        exact ⟨rfl, nb, V2, s, S7.out⟩
    · refine stepN_val (v := .agg (FA 342 (ntc n))) (w' := wd) rfl rfl (ex_load rfl rfl (FX.out.load 0 342 (ntc n) (by omega) (fun j hj => by rw [Nat.zero_add]) Tryz.underlying94 rfl info_nt)) ?_
      try simp only [Act.put, List.setIfInBounds_toArray, List.set_cons_zero, List.set_cons_succ]
      refine anyN_only 1 (by kernel_rfl) ?_
      refine stepN_val (v := ?_) (w' := wd) rfl rfl ?_ ?_; rotate_left; (focus ( go_simp; (try with_reducible rfl))); (try simp only [Act.put, List.setIfInBounds_toArray, List.set_cons_zero, List.set_cons_succ])
      refine anyN_only 2 (by kernel_rfl) ?_
      refine stepN_val (v := ?_) (w' := wd) rfl rfl ?_ ?_; rotate_left; (focus ( go_simp; (try with_reducible rfl))); (try simp only [Act.put, List.setIfInBounds_toArray, List.set_cons_zero, List.set_cons_succ])
      refine anyN_only 3 (by kernel_rfl) ?_
      refine stepN_val (v := ?_) (w' := wd) rfl rfl ?_ ?_; rotate_left; (focus (have x0 := C4.out; go_simp; (try with_reducible rfl))); (try simp only [Act.put, List.setIfInBounds_toArray, List.set_cons_zero, List.set_cons_succ])
      refine anyN_only 5 (by kernel_rfl) ?_
      refine stepN_send (c := D.cm) (cap := 1) (l := []) (u := .agg (FA 342 (ntc n))) (z := .tuple #[]) rfl rfl (by simp [go_sem, execOp, Go.Conc.scase, Act.eval]) HC.out (by decide) ?_
      try simp only [Act.put, List.setIfInBounds_toArray, List.set_cons_zero, List.set_cons_succ]
      refine ⟨by kernel_rfl, ?_⟩
      refine hK _ (wd.setChan D.cm 1 #[Value.agg (FA 342 (ntc n))] false (s1 + 1) r1 false) ?_
      generalize wd.setChan D.cm 1 #[Value.agg (FA 342 (ntc n))] false (s1 + 1) r1 false = w6 at *
      refine wpN_of ?_
      go_wp2_with fail
      refine (serve_mail S6.out hnu hi hp hw (by exact hl)).mono ?_
      rintro e w7 ⟨rfl, nb, V2, s, hZ⟩
      have S7 := hid (hZ.sub (YL.lessR _ _ _ [thB X 342 (ntc n)] R))
      clear hZ S6
      go_simp
      go_wp2_with fail
      go_ret
      exact ⟨rfl, nb, V2, s, S7.out⟩
  · refine stepN_val (v := .agg (FA 342 (ntc n))) (w' := wd) rfl rfl (ex_load rfl rfl (FX.out.load 0 342 (ntc n) (by omega) (fun j hj => by rw [Nat.zero_add]) Tryz.underlying94 rfl info_nt)) ?_
    try simp only [Act.put, List.setIfInBounds_toArray, List.set_cons_zero, List.set_cons_succ]
    refine anyN_only 0 (by kernel_rfl) ?_
    refine stepN_val (v := ?_) (w' := wd) rfl rfl ?_ ?_; rotate_left; (focus ( go_simp; (try with_reducible rfl))); (try simp only [Act.put, List.setIfInBounds_toArray, List.set_cons_zero, List.set_cons_succ])
    refine anyN_only 1 (by kernel_rfl) ?_
    refine stepN_val (v := ?_) (w' := wd) rfl rfl ?_ ?_; rotate_left; (focus ( go_simp; (try with_reducible rfl))); (try simp only [Act.put, List.setIfInBounds_toArray, List.set_cons_zero, List.set_cons_succ])
    refine anyN_only 2 (by kernel_rfl) ?_
    refine stepN_val (v := ?_) (w' := wd) rfl rfl ?_ ?_; rotate_left; (focus ( go_simp; (try with_reducible rfl))); (try simp only [Act.put, List.setIfInBounds_toArray, List.set_cons_zero, List.set_cons_succ])
    refine anyN_only 3 (by kernel_rfl) ?_
    refine stepN_val (v := ?_) (w' := wd) rfl rfl ?_ ?_; rotate_left; (focus (have x0 := C4.out; go_simp; (try with_reducible rfl))); (try simp only [Act.put, List.setIfInBounds_toArray, List.set_cons_zero, List.set_cons_succ])
    refine anyN_only 5 (by kernel_rfl) ?_
    refine stepN_send (c := D.cm) (cap := 1) (l := []) (u := .agg (FA 342 (ntc n))) (z := .tuple #[]) rfl rfl (by simp [go_sem, execOp, Go.Conc.scase, Act.eval]) HC.out (by decide) ?_
    try simp only [Act.put, List.setIfInBounds_toArray, List.set_cons_zero, List.set_cons_succ]
    refine ⟨by kernel_rfl, ?_⟩
    refine hK _ (wd.setChan D.cm 1 #[Value.agg (FA 342 (ntc n))] false (s1 + 1) r1 false) ?_
    generalize wd.setChan D.cm 1 #[Value.agg (FA 342 (ntc n))] false (s1 + 1) r1 false = w6 at *
    refine wpN_of ?_
    go_wp2_with fail
    refine (serve_mail S6.out hnu hi hp hw (by exact hl)).mono ?_
    rintro e w7 ⟨rfl, nb, V2, s, hZ⟩
    have S7 := hid (hZ.sub (YL.lessR _ _ _ [thB X 342 (ntc n)] R))
    clear hZ S6
    go_simp
    go_wp2_with fail
    go_ret
    exact ⟨rfl, nb, V2, s, S7.out⟩
end
end Go.Proofs.YteefhiniamajkaaGreat
namespace Go.Proofs.YteefhiniamajkaaGreat
set_option linter.unusedVariables false
set_option linter.unusedSimpArgs false
open Go.RowKit Go.ChangeShapes Go.WideShapes Go.ChangeAt
set_option maxRecDepth 100000
attribute [local irreducible] FA FL
section
variable {S : List Nat} {W w : World} {D : Yl} {h : Hd} {uf : Nat → Uy} {R : List Th} {la lm : List Nt} {t : Th}
set_option maxHeartbeats 32000000 in
theorem del_mailD {x : Nat × Nt} {i k : Nat} (hS : HS S W w (YL D h uf R)) (hx : D.ns[i]? = some x) (hak : x.2.ak = false) (hnu : x.2.u = (k : Int)) (hi : k < h.un) (hp : PB (uf k).p) (hw : (readU x.2 (uf k)).up = true → Pw (readU x.2 (uf k)).p) (hl : D.ns.length ≤ 1000000) : Calls Tryz.prog 21 #[.pointer (some ⟨D.Y, 0, none⟩), .int .i64 (i : Int), .bool false] w fun e w' => e = .returned (.bool true) ∧ ∃ nb V' s, HS S W w' (YL { D with bf := setB D.bf k s, V := V', ns := D.ns.eraseIdx i ++ [(nb, ackU k (readU x.2 (uf k)))] } h (setU uf k (readU x.2 (uf k))) R) := by
  have S0 := hid hS
  have HX := hid hx
  have HAK := hid hak
  have hil := (List.getElem?_eq_some_iff.1 hx).1
  have AT := hid (yd_at hS i x hx)
  clear hS hx hak
  obtain ⟨n, hn⟩ : ∃ n, n = x.2 := ⟨_, rfl⟩
  rw [← hn] at AT HAK hnu hw ⊢
  have HN := hid hn
  clear hn
  refine calls_of_wpN Tryz.func21 rfl ?_
  simp only [Tryz.ntmps21, List.size_toArray, List.length_cons, List.length_nil, Nat.reduceAdd, Nat.reduceSub, Array.replicate_succ, Array.replicate_zero, List.push_toArray, List.append_toArray, List.nil_append, List.cons_append]
  refine wpN_seq_k (fun K hK => wpN_of ?_)
  go_wp2_with fail
  refine wpN_seq_k (fun K hK => wpN_of ?_)
  go_wp2_with fail
  refine AT.out.mono ?_
  rintro e w1 ⟨rfl, hb⟩
  have S1 := hid (S0.out.below hb)
  clear hb AT S0
  go_simp
  go_wp2_with (first | ((with_reducible refine wl_id ?_); refine wl_ow rfl (ow_alloc rfl (znt_fa _) (by omega) S1.out ?_); intro X w_ hZ _; have S2 := hid hZ; clear hZ) | ((with_reducible refine wl_id ?_); refine wl_ow rfl (ow_store (A := []) 0 342 (ntc n) (ntc n) rfl rfl rfl S2.out (by omega) (fun j hj => patch_all _ _ _ j hj) info_nt (ntc_one _) ?_); intro w3 hZ; have S3 : Hid (HS S W w3 (YL D h uf ([thB X 342 (ntc n)] ++ R))) := hid (HS.perm (hZ : HS S W w3 (thB X 342 (ntc n) :: YL D h uf R)) (put_mid _ (thB D.Y 5 (yc D.hb D.U D.V D.ca D.cm) :: thL D.V D.ns :: thH D.hb D.hc D.hm D.hn h :: thC1 D.ca [] :: thC1 D.cm [] :: thW 0 72 1 D.U h.un (ubV D) :: (List.range h.un).map (unT D uf)) (nths D.ns) R)); clear hZ S2))
  clear S1
  refine wpN_seq_k (fun K hK => wpN_of ?_)
  go_wp2_with fail
  refine wpN_seq_k (fun K hK => wpN_of ?_)
  go_wp2_with fail
  refine (lane_drop (M := thH D.hb D.hc D.hm D.hn h :: thC1 D.ca [] :: thC1 D.cm [] :: thW 0 72 1 D.U h.un (ubV D) :: (List.range h.un).map (unT D uf)) (R := [thB X 342 (ntc n)] ++ R) S3.out i hil).mono ?_
  rintro e w4 ⟨rfl, V', hZ⟩
  have S4 : Hid (HS S W w4 (YL { D with V := V', ns := D.ns.eraseIdx i } h uf ([thB X 342 (ntc n)] ++ R))) := hid hZ
  clear hZ
  go_simp
  go_wp2_with fail
  have x4 : w4.cell? ⟨X, 4, none⟩ = some (.bool false) := (by have := Fb.nt4 (YL.memR S4.out (t := thB X 342 (ntc n)) (by simp) : Fb w4 X 342 (ntc n)); rwa [HAK.out] at this)
  clear S3
  refine wpN_seq_k (fun K hK => ?_)
  refine wpN_seq_k (fun K2 hK2 => wpN_of ?_)
  go_wp2_with fail
  clear x4
  refine wpN_cond (t := false) rfl ?_
  obtain ⟨wd, hwd⟩ : ∃ wd, wd = w4.drew := ⟨_, rfl⟩
  refine wpN_draw (by kernel_rfl) ?_
  rw [← hwd]
  have S5 : Hid (HS S W wd (YL { D with V := V', ns := D.ns.eraseIdx i } h uf ([thB X 342 (ntc n)] ++ R))) := hid (by rw [hwd]; exact S4.out.drew)
  clear S4 hwd
  have FX := hid (YL.memR S5.out (t := thB X 342 (ntc n)) (by simp) : Fb wd X 342 (ntc n))
  have C3 := hid (show wd.cell? ⟨D.Y, 3, none⟩ = some (.chan (some D.ca)) from YL.c3 (D := { D with V := V', ns := D.ns.eraseIdx i }) S5.out)
  have C4 := hid (show wd.cell? ⟨D.Y, 4, none⟩ = some (.chan (some D.cm)) from YL.c4 (D := { D with V := V', ns := D.ns.eraseIdx i }) S5.out)
  obtain ⟨s1, r1, h1⟩ := YLq.cm (D := { D with V := V', ns := D.ns.eraseIdx i }) (la := []) (lm := []) S5.out
  have HC := hid h1
  clear h1
  have S6 : Hid (HS S W (wd.setChan D.cm 1 #[Value.agg (FA 342 (ntc n))] false (s1 + 1) r1 false) (YLq { D with V := V', ns := D.ns.eraseIdx i } h uf ([thB X 342 (ntc n)] ++ R) [] [n])) := hid (YLq.setM (D := { D with V := V', ns := D.ns.eraseIdx i }) (la := []) (lm := []) S5.out [n] (s1 + 1) r1)
  show wpAnyN _ _ _ 6 (Array.replicate 6 false) _ _
  have FIN : Hid (∀ a : Act, a.tmps = #[.pointer (some ⟨D.Y, 0, none⟩)] → True) := hid (fun _ _ => trivial)
  clear FIN
  have LEAF : ∀ a : Act, a.tmps.getD 0 undef = .pointer (some ⟨D.Y, 0, none⟩) → a.tmps.size = 40 → True := fun _ _ _ => trivial
  clear LEAF
  refine anyN_two 0 4 (by kernel_rfl) ?_ ?_
  · refine stepN_val (v := ?_) (w' := wd) rfl rfl ?_ ?_; rotate_left; (focus ( go_simp; (try with_reducible rfl))); (try simp only [Act.put, List.setIfInBounds_toArray, List.set_cons_zero, List.set_cons_succ])
    refine anyN_two 1 4 (by kernel_rfl) ?_ ?_
    · refine stepN_val (v := ?_) (w' := wd) rfl rfl ?_ ?_; rotate_left; (focus ( go_simp; (try with_reducible rfl))); (try simp only [Act.put, List.setIfInBounds_toArray, List.set_cons_zero, List.set_cons_succ])
      refine anyN_two 2 4 (by kernel_rfl) ?_ ?_
      · refine stepN_val (v := ?_) (w' := wd) rfl rfl ?_ ?_; rotate_left; (focus ( go_simp; (try with_reducible rfl))); (try simp only [Act.put, List.setIfInBounds_toArray, List.set_cons_zero, List.set_cons_succ])
        refine anyN_two 3 4 (by kernel_rfl) ?_ ?_
        · refine stepN_val (v := ?_) (w' := wd) rfl rfl ?_ ?_; rotate_left; (focus (have x0 := C4.out; go_simp; (try with_reducible rfl))); (try simp only [Act.put, List.setIfInBounds_toArray, List.set_cons_zero, List.set_cons_succ])
          refine anyN_only 4 (by kernel_rfl) ?_
          refine stepN_val (v := .agg (FA 342 (ntc n))) (w' := wd) rfl rfl (ex_load rfl rfl (FX.out.load 0 342 (ntc n) (by omega) (fun j hj => by rw [Nat.zero_add]) Tryz.underlying94 rfl info_nt)) ?_
          try simp only [Act.put, List.setIfInBounds_toArray, List.set_cons_zero, List.set_cons_succ]
          refine anyN_only 5 (by kernel_rfl) ?_
          refine stepN_send (c := D.cm) (cap := 1) (l := []) (u := .agg (FA 342 (ntc n))) (z := .tuple #[]) rfl rfl (by simp [go_sem, execOp, Go.Conc.scase, Act.eval]) HC.out (by decide) ?_
          try simp only [Act.put, List.setIfInBounds_toArray, List.set_cons_zero, List.set_cons_succ]
          refine ⟨by kernel_rfl, ?_⟩
          refine hK _ (wd.setChan D.cm 1 #[Value.agg (FA 342 (ntc n))] false (s1 + 1) r1 false) ?_
          generalize wd.setChan D.cm 1 #[Value.agg (FA 342 (ntc n))] false (s1 + 1) r1 false = w6 at *
          refine wpN_of ?_
          go_wp2_with fail
          refine (serve_mail S6.out hnu hi hp hw (by show (D.ns.eraseIdx i).length ≤ 1000000; rw [List.length_eraseIdx]; split <;> omega)).mono ?_
          rintro e w7 ⟨rfl, nb, V2, s, hZ⟩
          have S7 := hid (hZ.sub (YL.lessR _ _ _ [thB X 342 (ntc n)] R))
          clear hZ S6
          go_simp
          go_wp2_with fail
          go_ret
          exact ⟨rfl, nb, V2, s, S7.out⟩
        · refine stepN_val (v := .agg (FA 342 (ntc n))) (w' := wd) rfl rfl (ex_load rfl rfl (FX.out.load 0 342 (ntc n) (by omega) (fun j hj => by rw [Nat.zero_add]) Tryz.underlying94 rfl info_nt)) ?_
          try simp only [Act.put, List.setIfInBounds_toArray, List.set_cons_zero, List.set_cons_succ]
          refine anyN_only 3 (by kernel_rfl) ?_
          refine stepN_val (v := ?_) (w' := wd) rfl rfl ?_ ?_; rotate_left; (focus (have x0 := C4.out; go_simp; (try with_reducible rfl))); (try simp only [Act.put, List.setIfInBounds_toArray, List.set_cons_zero, List.set_cons_succ])
          refine anyN_only 5 (by kernel_rfl) ?_
          refine stepN_send (c := D.cm) (cap := 1) (l := []) (u := .agg (FA 342 (ntc n))) (z := .tuple #[]) rfl rfl (by simp [go_sem, execOp, Go.Conc.scase, Act.eval]) HC.out (by decide) ?_
          try simp only [Act.put, List.setIfInBounds_toArray, List.set_cons_zero, List.set_cons_succ]
          refine ⟨by kernel_rfl, ?_⟩
          refine hK _ (wd.setChan D.cm 1 #[Value.agg (FA 342 (ntc n))] false (s1 + 1) r1 false) ?_
          generalize wd.setChan D.cm 1 #[Value.agg (FA 342 (ntc n))] false (s1 + 1) r1 false = w6 at *
          refine wpN_of ?_
          go_wp2_with fail
          refine (serve_mail S6.out hnu hi hp hw (by show (D.ns.eraseIdx i).length ≤ 1000000; rw [List.length_eraseIdx]; split <;> omega)).mono ?_
          rintro e w7 ⟨rfl, nb, V2, s, hZ⟩
          have S7 := hid (hZ.sub (YL.lessR _ _ _ [thB X 342 (ntc n)] R))
          clear hZ S6
          go_simp
          go_wp2_with fail
          go_ret
          exact ⟨rfl, nb, V2, s, S7.out⟩
      · refine stepN_val (v := .agg (FA 342 (ntc n))) (w' := wd) rfl rfl (ex_load rfl rfl (FX.out.load 0 342 (ntc n) (by omega) (fun j hj => by rw [Nat.zero_add]) Tryz.underlying94 rfl info_nt)) ?_
        try simp only [Act.put, List.setIfInBounds_toArray, List.set_cons_zero, List.set_cons_succ]
        refine anyN_only 2 (by kernel_rfl) ?_
        refine stepN_val (v := ?_) (w' := wd) rfl rfl ?_ ?_; rotate_left; (focus ( go_simp; (try with_reducible rfl))); (try simp only [Act.put, List.setIfInBounds_toArray, List.set_cons_zero, List.set_cons_succ])
        refine anyN_only 3 (by kernel_rfl) ?_
        refine stepN_val (v := ?_) (w' := wd) rfl rfl ?_ ?_; rotate_left; (focus (have x0 := C4.out; go_simp; (try with_reducible rfl))); (try simp only [Act.put, List.setIfInBounds_toArray, List.set_cons_zero, List.set_cons_succ])
        refine anyN_only 5 (by kernel_rfl) ?_
        refine stepN_send (c := D.cm) (cap := 1) (l := []) (u := .agg (FA 342 (ntc n))) (z := .tuple #[]) rfl rfl (by simp [go_sem, execOp, Go.Conc.scase, Act.eval]) HC.out (by decide) ?_
        try simp only [Act.put, List.setIfInBounds_toArray, List.set_cons_zero, List.set_cons_succ]
        refine ⟨by kernel_rfl, ?_⟩
        refine hK _ (wd.setChan D.cm 1 #[Value.agg (FA 342 (ntc n))] false (s1 + 1) r1 false) ?_
        generalize wd.setChan D.cm 1 #[Value.agg (FA 342 (ntc n))] false (s1 + 1) r1 false = w6 at *
        refine wpN_of ?_
        go_wp2_with fail
        refine (serve_mail S6.out hnu hi hp hw (by show (D.ns.eraseIdx i).length ≤ 1000000; rw [List.length_eraseIdx]; split <;> omega)).mono ?_
        rintro e w7 ⟨rfl, nb, V2, s, hZ⟩
        have S7 := hid (hZ.sub (YL.lessR _ _ _ [thB X 342 (ntc n)] R))
        clear hZ S6
        go_simp
        go_wp2_with fail
        go_ret
        exact ⟨rfl, nb, V2, s, S7.out⟩
    · refine stepN_val (v := .agg (FA 342 (ntc n))) (w' := wd) rfl rfl (ex_load rfl rfl (FX.out.load 0 342 (ntc n) (by omega) (fun j hj => by rw [Nat.zero_add]) Tryz.underlying94 rfl info_nt)) ?_
      try simp only [Act.put, List.setIfInBounds_toArray, List.set_cons_zero, List.set_cons_succ]
      refine anyN_only 1 (by kernel_rfl) ?_
      refine stepN_val (v := ?_) (w' := wd) rfl rfl ?_ ?_; rotate_left; (focus ( go_simp; (try with_reducible rfl))); (try simp only [Act.put, List.setIfInBounds_toArray, List.set_cons_zero, List.set_cons_succ])
      refine anyN_only 2 (by kernel_rfl) ?_
      refine stepN_val (v := ?_) (w' := wd) rfl rfl ?_ ?_; rotate_left; (focus ( go_simp; (try with_reducible rfl))); (try simp only [Act.put, List.setIfInBounds_toArray, List.set_cons_zero, List.set_cons_succ])
      refine anyN_only 3 (by kernel_rfl) ?_
      refine stepN_val (v := ?_) (w' := wd) rfl rfl ?_ ?_; rotate_left; (focus (have x0 := C4.out; go_simp; (try with_reducible rfl))); (try simp only [Act.put, List.setIfInBounds_toArray, List.set_cons_zero, List.set_cons_succ])
      refine anyN_only 5 (by kernel_rfl) ?_
      refine stepN_send (c := D.cm) (cap := 1) (l := []) (u := .agg (FA 342 (ntc n))) (z := .tuple #[]) rfl rfl (by simp [go_sem, execOp, Go.Conc.scase, Act.eval]) HC.out (by decide) ?_
      try simp only [Act.put, List.setIfInBounds_toArray, List.set_cons_zero, List.set_cons_succ]
      refine ⟨by kernel_rfl, ?_⟩
      refine hK _ (wd.setChan D.cm 1 #[Value.agg (FA 342 (ntc n))] false (s1 + 1) r1 false) ?_
      generalize wd.setChan D.cm 1 #[Value.agg (FA 342 (ntc n))] false (s1 + 1) r1 false = w6 at *
      refine wpN_of ?_
      go_wp2_with fail
      refine (serve_mail S6.out hnu hi hp hw (by show (D.ns.eraseIdx i).length ≤ 1000000; rw [List.length_eraseIdx]; split <;> omega)).mono ?_
      rintro e w7 ⟨rfl, nb, V2, s, hZ⟩
      have S7 := hid (hZ.sub (YL.lessR _ _ _ [thB X 342 (ntc n)] R))
      clear hZ S6
      go_simp
      go_wp2_with fail
      go_ret
      exact ⟨rfl, nb, V2, s, S7.out⟩
  · refine stepN_val (v := .agg (FA 342 (ntc n))) (w' := wd) rfl rfl (ex_load rfl rfl (FX.out.load 0 342 (ntc n) (by omega) (fun j hj => by rw [Nat.zero_add]) Tryz.underlying94 rfl info_nt)) ?_
    try simp only [Act.put, List.setIfInBounds_toArray, List.set_cons_zero, List.set_cons_succ]
    refine anyN_only 0 (by kernel_rfl) ?_
    refine stepN_val (v := ?_) (w' := wd) rfl rfl ?_ ?_; rotate_left; (focus ( go_simp; (try with_reducible rfl))); (try simp only [Act.put, List.setIfInBounds_toArray, List.set_cons_zero, List.set_cons_succ])
    refine anyN_only 1 (by kernel_rfl) ?_
    refine stepN_val (v := ?_) (w' := wd) rfl rfl ?_ ?_; rotate_left; (focus ( go_simp; (try with_reducible rfl))); (try simp only [Act.put, List.setIfInBounds_toArray, List.set_cons_zero, List.set_cons_succ])
    refine anyN_only 2 (by kernel_rfl) ?_
    refine stepN_val (v := ?_) (w' := wd) rfl rfl ?_ ?_; rotate_left; (focus ( go_simp; (try with_reducible rfl))); (try simp only [Act.put, List.setIfInBounds_toArray, List.set_cons_zero, List.set_cons_succ])
    refine anyN_only 3 (by kernel_rfl) ?_
    refine stepN_val (v := ?_) (w' := wd) rfl rfl ?_ ?_; rotate_left; (focus (have x0 := C4.out; go_simp; (try with_reducible rfl))); (try simp only [Act.put, List.setIfInBounds_toArray, List.set_cons_zero, List.set_cons_succ])
    refine anyN_only 5 (by kernel_rfl) ?_
    refine stepN_send (c := D.cm) (cap := 1) (l := []) (u := .agg (FA 342 (ntc n))) (z := .tuple #[]) rfl rfl (by simp [go_sem, execOp, Go.Conc.scase, Act.eval]) HC.out (by decide) ?_
    try simp only [Act.put, List.setIfInBounds_toArray, List.set_cons_zero, List.set_cons_succ]
    refine ⟨by kernel_rfl, ?_⟩
    refine hK _ (wd.setChan D.cm 1 #[Value.agg (FA 342 (ntc n))] false (s1 + 1) r1 false) ?_
    generalize wd.setChan D.cm 1 #[Value.agg (FA 342 (ntc n))] false (s1 + 1) r1 false = w6 at *
    refine wpN_of ?_
    go_wp2_with fail
    refine (serve_mail S6.out hnu hi hp hw (by show (D.ns.eraseIdx i).length ≤ 1000000; rw [List.length_eraseIdx]; split <;> omega)).mono ?_
    rintro e w7 ⟨rfl, nb, V2, s, hZ⟩
    have S7 := hid (hZ.sub (YL.lessR _ _ _ [thB X 342 (ntc n)] R))
    clear hZ S6
    go_simp
    go_wp2_with fail
    go_ret
    exact ⟨rfl, nb, V2, s, S7.out⟩
end
end Go.Proofs.YteefhiniamajkaaGreat
namespace Go.Proofs.YteefhiniamajkaaGreat
set_option linter.unusedVariables false
set_option linter.unusedSimpArgs false
open Go.RowKit Go.ChangeShapes Go.WideShapes Go.ChangeAt
set_option maxRecDepth 100000
attribute [local irreducible] FA FL
section
variable {S : List Nat} {W w : World} {Y hb ca cm : Nat} {U V : Value} {ns : List (Nat × Nt)} {M R : List Th}
set_option maxHeartbeats 8000000 in
theorem lane_atN (h : HS S W w (LL Y hb U V ca cm ns M R)) (i : Int) (hi : hasB i ns.length = false) : Calls Tryz.prog 46 #[.pointer (some ⟨Y, 2, none⟩), .int .i64 i] w fun e w' => e = .returned (.tuple #[.agg (FA 342 (ntc zNt)), .bool false]) ∧ Below w.heap.size w w' := by
  have HAS := hid (show ∀ (w' : World), Below w.heap.size w w' → Calls Tryz.prog 66 #[.pointer (some ⟨Y, 2, none⟩), .int .i64 i] w' fun x w2 => x = .returned (.bool false) ∧ w' = w2 from fun w' hb' => by
      have h2 := lane_has (h.below hb') i
      rw [hi] at h2
      exact h2)
  have S1 : Hid (HS [] w w []) := hid HS.start
  clear h
  go_enter Tryz.func46, Tryz.ntmps46
  go_upto_region 1 with ((with_reducible refine wl_id ?_); refine wl_ow rfl (ow_alloc rfl (znt_fa _) (by omega) S1.out ?_); intro Rb w_ hZ _; have S2 := hid hZ; clear hZ)
  go_wp2_with fail
  refine (HAS.out _ S2.out.bl).mono ?_
  rintro e w' ⟨rfl, rfl⟩
  go_simp
  go_upto_region 3 with ((with_reducible refine wl_id ?_); refine wl_ow rfl (ow_alloc rfl (znt_fa _) (by omega) S2.out ?_); intro Rc w2 hZ _; have S3 := hid hZ; clear hZ)
  apply wp_region_lit
  refine wl_ow rfl (ow_load 0 rfl 0 342 (ntc zNt) rfl rfl S3.out (by omega) (fun j hj => by rw [Nat.zero_add]) Tryz.underlying94 rfl info_nt ?_)
  try simp only [Act.put, List.setIfInBounds_toArray, List.set_cons_zero, List.set_cons_succ]
  refine wl_ow rfl (ow_store (A := [thB Rc 342 (ntc zNt)]) 0 342 (ntc zNt) (ntc zNt) rfl rfl rfl S3.out (by omega) (fun j hj => patch_all _ _ _ j hj) info_nt (ntc_one _) ?_)
  intro w9 hZ
  have S9 := hid hZ
  clear hZ S3
  try simp only [Act.put, List.setIfInBounds_toArray, List.set_cons_zero, List.set_cons_succ]
  refine wl_val (v := ?_) rfl ?_ ?_; rotate_left; (focus ( go_simp; (try with_reducible rfl))); (try simp only [Act.put, List.setIfInBounds_toArray, List.set_cons_zero, List.set_cons_succ])
  refine end_then ?_
  apply_assumption
  refine wp_ret ?_
  (repeat refine ret_then ?_)
  (show bodyPost _ _ _ _ _ _)
  exact bodyPost_ret (v := .tuple #[.agg (FA 342 (ntc zNt)), .bool false]) (results_cellv Tryz.results46 _ rfl rfl (S9.out.fb 1 rfl) Tryz.underlying94 rfl info_nt) rfl ⟨rfl, S9.out.bl⟩
end
section
variable {S : List Nat} {W w : World} {D : Yl} {h : Hd} {uf : Nat → Uy} {R : List Th}
set_option maxHeartbeats 8000000 in
theorem del_none (hS : HS S W w (YL D h uf R)) (i : Int) (hi : hasB i D.ns.length = false) (keep : Bool) : Calls Tryz.prog 21 #[.pointer (some ⟨D.Y, 0, none⟩), .int .i64 i, .bool keep] w fun e w' => e = .returned (.bool false) ∧ HS S W w' (YL D h uf R) := by
  have AT := hid (lane_atN (M := thH D.hb D.hc D.hm D.hn h :: thC1 D.ca [] :: thC1 D.cm [] :: thW 0 72 1 D.U h.un (ubV D) :: (List.range h.un).map (unT D uf)) (R := R) hS i hi)
  have S0 := hid hS
  clear hS
  go_enter Tryz.func21, Tryz.ntmps21
  go_wp2_with fail
  refine AT.out.mono ?_
  rintro e w1 ⟨rfl, hb⟩
  have S1 := hid (S0.out.below hb)
  clear hb AT S0
  go_simp
  go_wp2_with (first | ((with_reducible refine wl_id ?_); refine wl_ow rfl (ow_alloc rfl (znt_fa _) (by omega) S1.out ?_); intro X w_ hZ _; have S2 := hid hZ; clear hZ) | ((with_reducible refine wl_id ?_); refine wl_ow rfl (ow_store (A := []) 0 342 (ntc zNt) (ntc zNt) rfl rfl rfl S2.out (by omega) (fun j hj => patch_all _ _ _ j hj) info_nt (ntc_one _) ?_); intro w3 hZ; have S3 := hid hZ; clear hZ S2))
  go_ret
  exact ⟨rfl, S3.out.tail⟩
end
end Go.Proofs.YteefhiniamajkaaGreat
