/- A yard's Deliver. -/
import Derived.Test.YtlfionfnpieoiaaGreatYdDelKA
import Derived.BigQuiet
import Derived.Deep.RegionHeld3
import Derived.Deep.Cut
import Derived.IntWalk
namespace Go.Proofs.YtlfionfnpieoiaaGreat
set_option linter.unusedVariables false
set_option linter.unusedSimpArgs false
open Go.RowKit Go.ChangeShapes Go.WideShapes Go.ChangeAt
set_option maxRecDepth 100000
attribute [local irreducible] FA FL
section
variable {S : List Nat} {W w : World} {D : Yl} {h : Hd} {uf : Nat → Uy} {R : List Th} {la lm : List Nt} {t : Th}
set_option maxHeartbeats 32000000 in
theorem del_mailD {x : Nat × Nt} {i k : Nat} (hS : HS S W w (YL D h uf R)) (hx : D.ns[i]? = some x) (hak : x.2.ak = false) (hnu : x.2.u = (k : Int)) (hi : k < h.un) (hp : PB (uf k).p) (hw : (readU x.2 (uf k)).up = true → Pw (readU x.2 (uf k)).p) (hl : D.ns.length ≤ 1000000) : Calls Tryz.prog 10 #[.pointer (some ⟨D.Y, 0, none⟩), .int .i64 (i : Int), .bool false] w fun e w' => e = .returned (.bool true) ∧ ∃ nb V' s, HS S W w' (YL { D with bf := setB D.bf k s, V := V', ns := D.ns.eraseIdx i ++ [(nb, ackU k (readU x.2 (uf k)))] } h (setU uf k (readU x.2 (uf k))) R) := by
 have S0 := hid hS
 have HX := hid hx
 have HAK := hid hak
 have hil := (List.getElem?_eq_some_iff.1 hx).1
 have AT := hid (yd_at hS i x hx)
 clear hS hx hak
 obtain ⟨n, hn⟩ : ∃ n, n = x.2 := ⟨_, rfl⟩
 rw [← hn] at AT HAK hnu hw ⊢
 have HN := hid hn
 clear hn
 refine calls_of_wpN Tryz.func10 rfl ?_
 simp only [Tryz.ntmps10, List.size_toArray, List.length_cons, List.length_nil, Nat.reduceAdd, Nat.reduceSub, Array.replicate_succ, Array.replicate_zero, List.push_toArray, List.append_toArray, List.nil_append, List.cons_append]
 refine wpN_seq_k (fun K hK => wpN_of ?_)
 go_wp2_with fail
 refine wpN_seq_k (fun K hK => wpN_of ?_)
 go_wp2_with fail
 refine AT.out.mono ?_
 rintro e w1 ⟨rfl, hb⟩
 have S1 := hid (S0.out.below hb)
 clear hb AT S0
 go_simp
 go_wp2_with (first | ((with_reducible refine wl_id ?_); refine wl_ow rfl (ow_alloc rfl (znt_fa _) (by omega) S1.out ?_); intro X w_ hZ _; have S2 := hid hZ; clear hZ) | ((with_reducible refine wl_id ?_); refine wl_ow rfl (ow_store (A := []) 0 342 (ntc n) (ntc n) rfl rfl rfl S2.out (by omega) (fun j hj => patch_all _ _ _ j hj) info_nt (ntc_one _) ?_); intro w3 hZ; have S3 : Hid (HS S W w3 (YL D h uf ([thB X 342 (ntc n)] ++ R))) := hid (HS.perm (hZ : HS S W w3 (thB X 342 (ntc n) :: YL D h uf R)) (put_mid _ (thB D.Y 5 (yc D.hb D.U D.V D.ca D.cm) :: thL D.V D.ns :: thH D.hb D.hc D.hm D.hn h :: thC1 D.ca [] :: thC1 D.cm [] :: thW 0 67 1 D.U h.un (ubV D) :: (List.range h.un).map (unT D uf)) (nths D.ns) R)); clear hZ S2))
 clear S1
 refine wpN_seq_k (fun K hK => wpN_of ?_)
 go_wp2_with fail
 refine wpN_seq_k (fun K hK => wpN_of ?_)
 go_wp2_with fail
 refine (lane_drop (M := thH D.hb D.hc D.hm D.hn h :: thC1 D.ca [] :: thC1 D.cm [] :: thW 0 67 1 D.U h.un (ubV D) :: (List.range h.un).map (unT D uf)) (R := [thB X 342 (ntc n)] ++ R) S3.out i hil).mono ?_
 rintro e w4 ⟨rfl, V', hZ⟩
 have S4 : Hid (HS S W w4 (YL { D with V := V', ns := D.ns.eraseIdx i } h uf ([thB X 342 (ntc n)] ++ R))) := hid hZ
 clear hZ
 go_simp
 go_wp2_with fail
 have x4 : w4.cell? ⟨X, 4, none⟩ = some (.bool false) := (by have := Fb.nt4 (YL.memR S4.out (t := thB X 342 (ntc n)) (by simp) : Fb w4 X 342 (ntc n)); rwa [HAK.out] at this)
 clear S3
 refine wpN_seq_k (fun K hK => ?_)
 refine wpN_seq_k (fun K2 hK2 => wpN_of ?_)
 go_wp2_with fail
 clear x4
 refine wpN_cond (t := false) rfl ?_
 obtain ⟨wd, hwd⟩ : ∃ wd, wd = w4.drew := ⟨_, rfl⟩
 refine wpN_draw (by kernel_rfl) ?_
 rw [← hwd]
 have S5 : Hid (HS S W wd (YL { D with V := V', ns := D.ns.eraseIdx i } h uf ([thB X 342 (ntc n)] ++ R))) := hid (by rw [hwd]; exact S4.out.drew)
 clear S4 hwd
 have FX := hid (YL.memR S5.out (t := thB X 342 (ntc n)) (by simp) : Fb wd X 342 (ntc n))
 have C3 := hid (show wd.cell? ⟨D.Y, 3, none⟩ = some (.chan (some D.ca)) from YL.c3 (D := { D with V := V', ns := D.ns.eraseIdx i }) S5.out)
 have C4 := hid (show wd.cell? ⟨D.Y, 4, none⟩ = some (.chan (some D.cm)) from YL.c4 (D := { D with V := V', ns := D.ns.eraseIdx i }) S5.out)
 obtain ⟨s1, r1, h1⟩ := YLq.cm (D := { D with V := V', ns := D.ns.eraseIdx i }) (la := []) (lm := []) S5.out
 have HC := hid h1
 clear h1
 have S6 : Hid (HS S W (wd.setChan D.cm 1 #[Value.agg (FA 342 (ntc n))] false (s1 + 1) r1 false) (YLq { D with V := V', ns := D.ns.eraseIdx i } h uf ([thB X 342 (ntc n)] ++ R) [] [n])) := hid (YLq.setM (D := { D with V := V', ns := D.ns.eraseIdx i }) (la := []) (lm := []) S5.out [n] (s1 + 1) r1)
 show wpAnyN _ _ _ 6 (Array.replicate 6 false) _ _
 have FIN : Hid (∀ a : Act, a.tmps = #[.pointer (some ⟨D.Y, 0, none⟩)] → True) := hid (fun _ _ => trivial)
 clear FIN
 have LEAF : ∀ a : Act, a.tmps.getD 0 undef = .pointer (some ⟨D.Y, 0, none⟩) → a.tmps.size = 40 → True := fun _ _ _ => trivial
 clear LEAF
 refine anyN_two 0 4 (by kernel_rfl) ?_ ?_
 ·refine stepN_val (v := ?_) (w' := wd) rfl rfl ?_ ?_; rotate_left; (focus ( go_simp; (try with_reducible rfl))); (try simp only [Act.put, List.setIfInBounds_toArray, List.set_cons_zero, List.set_cons_succ])
  refine anyN_two 1 4 (by kernel_rfl) ?_ ?_
  ·refine stepN_val (v := ?_) (w' := wd) rfl rfl ?_ ?_; rotate_left; (focus ( go_simp; (try with_reducible rfl))); (try simp only [Act.put, List.setIfInBounds_toArray, List.set_cons_zero, List.set_cons_succ])
   refine anyN_two 2 4 (by kernel_rfl) ?_ ?_
   ·refine stepN_val (v := ?_) (w' := wd) rfl rfl ?_ ?_; rotate_left; (focus ( go_simp; (try with_reducible rfl))); (try simp only [Act.put, List.setIfInBounds_toArray, List.set_cons_zero, List.set_cons_succ])
    refine anyN_two 3 4 (by kernel_rfl) ?_ ?_
    ·refine stepN_val (v := ?_) (w' := wd) rfl rfl ?_ ?_; rotate_left; (focus (have x0 := C4.out; go_simp; (try with_reducible rfl))); (try simp only [Act.put, List.setIfInBounds_toArray, List.set_cons_zero, List.set_cons_succ])
     refine anyN_only 4 (by kernel_rfl) ?_
     refine stepN_val (v := .agg (FA 342 (ntc n))) (w' := wd) rfl rfl (ex_load rfl rfl (FX.out.load 0 342 (ntc n) (by omega) (fun j hj => by rw [Nat.zero_add]) Tryz.underlying75 rfl info_nt)) ?_
     try simp only [Act.put, List.setIfInBounds_toArray, List.set_cons_zero, List.set_cons_succ]
     refine anyN_only 5 (by kernel_rfl) ?_
     refine stepN_send (c := D.cm) (cap := 1) (l := []) (u := .agg (FA 342 (ntc n))) (z := .tuple #[]) rfl rfl (by simp [go_sem, execOp, Go.Conc.scase, Act.eval]) HC.out (by decide) ?_
     try simp only [Act.put, List.setIfInBounds_toArray, List.set_cons_zero, List.set_cons_succ]
     refine ⟨by kernel_rfl, ?_⟩
     refine hK _ (wd.setChan D.cm 1 #[Value.agg (FA 342 (ntc n))] false (s1 + 1) r1 false) ?_
     generalize wd.setChan D.cm 1 #[Value.agg (FA 342 (ntc n))] false (s1 + 1) r1 false = w6 at *
     refine wpN_of ?_
     go_wp2_with fail
     refine (serve_mail S6.out hnu hi hp hw (by show (D.ns.eraseIdx i).length ≤ 1000000; rw [List.length_eraseIdx]; split <;> omega)).mono ?_
     rintro e w7 ⟨rfl, nb, V2, s, hZ⟩
     have S7 := hid (hZ.sub (YL.lessR _ _ _ [thB X 342 (ntc n)] R))
     clear hZ S6
     go_simp
     go_wp2_with fail
     go_ret
     exact ⟨rfl, nb, V2, s, S7.out⟩
    ·refine stepN_val (v := .agg (FA 342 (ntc n))) (w' := wd) rfl rfl (ex_load rfl rfl (FX.out.load 0 342 (ntc n) (by omega) (fun j hj => by rw [Nat.zero_add]) Tryz.underlying75 rfl info_nt)) ?_
     try simp only [Act.put, List.setIfInBounds_toArray, List.set_cons_zero, List.set_cons_succ]
     refine anyN_only 3 (by kernel_rfl) ?_
     refine stepN_val (v := ?_) (w' := wd) rfl rfl ?_ ?_; rotate_left; (focus (have x0 := C4.out; go_simp; (try with_reducible rfl))); (try simp only [Act.put, List.setIfInBounds_toArray, List.set_cons_zero, List.set_cons_succ])
     refine anyN_only 5 (by kernel_rfl) ?_
     refine stepN_send (c := D.cm) (cap := 1) (l := []) (u := .agg (FA 342 (ntc n))) (z := .tuple #[]) rfl rfl (by simp [go_sem, execOp, Go.Conc.scase, Act.eval]) HC.out (by decide) ?_
     try simp only [Act.put, List.setIfInBounds_toArray, List.set_cons_zero, List.set_cons_succ]
     refine ⟨by kernel_rfl, ?_⟩
     refine hK _ (wd.setChan D.cm 1 #[Value.agg (FA 342 (ntc n))] false (s1 + 1) r1 false) ?_
     generalize wd.setChan D.cm 1 #[Value.agg (FA 342 (ntc n))] false (s1 + 1) r1 false = w6 at *
     refine wpN_of ?_
     go_wp2_with fail
     refine (serve_mail S6.out hnu hi hp hw (by show (D.ns.eraseIdx i).length ≤ 1000000; rw [List.length_eraseIdx]; split <;> omega)).mono ?_
     rintro e w7 ⟨rfl, nb, V2, s, hZ⟩
     have S7 := hid (hZ.sub (YL.lessR _ _ _ [thB X 342 (ntc n)] R))
     clear hZ S6
     go_simp
     go_wp2_with fail
     go_ret
     exact ⟨rfl, nb, V2, s, S7.out⟩
   ·refine stepN_val (v := .agg (FA 342 (ntc n))) (w' := wd) rfl rfl (ex_load rfl rfl (FX.out.load 0 342 (ntc n) (by omega) (fun j hj => by rw [Nat.zero_add]) Tryz.underlying75 rfl info_nt)) ?_
    try simp only [Act.put, List.setIfInBounds_toArray, List.set_cons_zero, List.set_cons_succ]
    refine anyN_only 2 (by kernel_rfl) ?_
    refine stepN_val (v := ?_) (w' := wd) rfl rfl ?_ ?_; rotate_left; (focus ( go_simp; (try with_reducible rfl))); (try simp only [Act.put, List.setIfInBounds_toArray, List.set_cons_zero, List.set_cons_succ])
    refine anyN_only 3 (by kernel_rfl) ?_
    refine stepN_val (v := ?_) (w' := wd) rfl rfl ?_ ?_; rotate_left; (focus (have x0 := C4.out; go_simp; (try with_reducible rfl))); (try simp only [Act.put, List.setIfInBounds_toArray, List.set_cons_zero, List.set_cons_succ])
    refine anyN_only 5 (by kernel_rfl) ?_
    refine stepN_send (c := D.cm) (cap := 1) (l := []) (u := .agg (FA 342 (ntc n))) (z := .tuple #[]) rfl rfl (by simp [go_sem, execOp, Go.Conc.scase, Act.eval]) HC.out (by decide) ?_
    try simp only [Act.put, List.setIfInBounds_toArray, List.set_cons_zero, List.set_cons_succ]
    refine ⟨by kernel_rfl, ?_⟩
    refine hK _ (wd.setChan D.cm 1 #[Value.agg (FA 342 (ntc n))] false (s1 + 1) r1 false) ?_
    generalize wd.setChan D.cm 1 #[Value.agg (FA 342 (ntc n))] false (s1 + 1) r1 false = w6 at *
    refine wpN_of ?_
    go_wp2_with fail
    refine (serve_mail S6.out hnu hi hp hw (by show (D.ns.eraseIdx i).length ≤ 1000000; rw [List.length_eraseIdx]; split <;> omega)).mono ?_
    rintro e w7 ⟨rfl, nb, V2, s, hZ⟩
    have S7 := hid (hZ.sub (YL.lessR _ _ _ [thB X 342 (ntc n)] R))
    clear hZ S6
    go_simp
    go_wp2_with fail
    go_ret
    exact ⟨rfl, nb, V2, s, S7.out⟩
  ·refine stepN_val (v := .agg (FA 342 (ntc n))) (w' := wd) rfl rfl (ex_load rfl rfl (FX.out.load 0 342 (ntc n) (by omega) (fun j hj => by rw [Nat.zero_add]) Tryz.underlying75 rfl info_nt)) ?_
   try simp only [Act.put, List.setIfInBounds_toArray, List.set_cons_zero, List.set_cons_succ]
   refine anyN_only 1 (by kernel_rfl) ?_
   refine stepN_val (v := ?_) (w' := wd) rfl rfl ?_ ?_; rotate_left; (focus ( go_simp; (try with_reducible rfl))); (try simp only [Act.put, List.setIfInBounds_toArray, List.set_cons_zero, List.set_cons_succ])
   refine anyN_only 2 (by kernel_rfl) ?_
   refine stepN_val (v := ?_) (w' := wd) rfl rfl ?_ ?_; rotate_left; (focus ( go_simp; (try with_reducible rfl))); (try simp only [Act.put, List.setIfInBounds_toArray, List.set_cons_zero, List.set_cons_succ])
   refine anyN_only 3 (by kernel_rfl) ?_
   refine stepN_val (v := ?_) (w' := wd) rfl rfl ?_ ?_; rotate_left; (focus (have x0 := C4.out; go_simp; (try with_reducible rfl))); (try simp only [Act.put, List.setIfInBounds_toArray, List.set_cons_zero, List.set_cons_succ])
   refine anyN_only 5 (by kernel_rfl) ?_
   refine stepN_send (c := D.cm) (cap := 1) (l := []) (u := .agg (FA 342 (ntc n))) (z := .tuple #[]) rfl rfl (by simp [go_sem, execOp, Go.Conc.scase, Act.eval]) HC.out (by decide) ?_
   try simp only [Act.put, List.setIfInBounds_toArray, List.set_cons_zero, List.set_cons_succ]
   refine ⟨by kernel_rfl, ?_⟩
   refine hK _ (wd.setChan D.cm 1 #[Value.agg (FA 342 (ntc n))] false (s1 + 1) r1 false) ?_
   generalize wd.setChan D.cm 1 #[Value.agg (FA 342 (ntc n))] false (s1 + 1) r1 false = w6 at *
   refine wpN_of ?_
   go_wp2_with fail
   refine (serve_mail S6.out hnu hi hp hw (by show (D.ns.eraseIdx i).length ≤ 1000000; rw [List.length_eraseIdx]; split <;> omega)).mono ?_
   rintro e w7 ⟨rfl, nb, V2, s, hZ⟩
   have S7 := hid (hZ.sub (YL.lessR _ _ _ [thB X 342 (ntc n)] R))
   clear hZ S6
   go_simp
   go_wp2_with fail
   go_ret
   exact ⟨rfl, nb, V2, s, S7.out⟩
 ·refine stepN_val (v := .agg (FA 342 (ntc n))) (w' := wd) rfl rfl (ex_load rfl rfl (FX.out.load 0 342 (ntc n) (by omega) (fun j hj => by rw [Nat.zero_add]) Tryz.underlying75 rfl info_nt)) ?_
  try simp only [Act.put, List.setIfInBounds_toArray, List.set_cons_zero, List.set_cons_succ]
  refine anyN_only 0 (by kernel_rfl) ?_
  refine stepN_val (v := ?_) (w' := wd) rfl rfl ?_ ?_; rotate_left; (focus ( go_simp; (try with_reducible rfl))); (try simp only [Act.put, List.setIfInBounds_toArray, List.set_cons_zero, List.set_cons_succ])
  refine anyN_only 1 (by kernel_rfl) ?_
  refine stepN_val (v := ?_) (w' := wd) rfl rfl ?_ ?_; rotate_left; (focus ( go_simp; (try with_reducible rfl))); (try simp only [Act.put, List.setIfInBounds_toArray, List.set_cons_zero, List.set_cons_succ])
  refine anyN_only 2 (by kernel_rfl) ?_
  refine stepN_val (v := ?_) (w' := wd) rfl rfl ?_ ?_; rotate_left; (focus ( go_simp; (try with_reducible rfl))); (try simp only [Act.put, List.setIfInBounds_toArray, List.set_cons_zero, List.set_cons_succ])
  refine anyN_only 3 (by kernel_rfl) ?_
  refine stepN_val (v := ?_) (w' := wd) rfl rfl ?_ ?_; rotate_left; (focus (have x0 := C4.out; go_simp; (try with_reducible rfl))); (try simp only [Act.put, List.setIfInBounds_toArray, List.set_cons_zero, List.set_cons_succ])
  refine anyN_only 5 (by kernel_rfl) ?_
  refine stepN_send (c := D.cm) (cap := 1) (l := []) (u := .agg (FA 342 (ntc n))) (z := .tuple #[]) rfl rfl (by simp [go_sem, execOp, Go.Conc.scase, Act.eval]) HC.out (by decide) ?_
  try simp only [Act.put, List.setIfInBounds_toArray, List.set_cons_zero, List.set_cons_succ]
  refine ⟨by kernel_rfl, ?_⟩
  refine hK _ (wd.setChan D.cm 1 #[Value.agg (FA 342 (ntc n))] false (s1 + 1) r1 false) ?_
  generalize wd.setChan D.cm 1 #[Value.agg (FA 342 (ntc n))] false (s1 + 1) r1 false = w6 at *
  refine wpN_of ?_
  go_wp2_with fail
  refine (serve_mail S6.out hnu hi hp hw (by show (D.ns.eraseIdx i).length ≤ 1000000; rw [List.length_eraseIdx]; split <;> omega)).mono ?_
  rintro e w7 ⟨rfl, nb, V2, s, hZ⟩
  have S7 := hid (hZ.sub (YL.lessR _ _ _ [thB X 342 (ntc n)] R))
  clear hZ S6
  go_simp
  go_wp2_with fail
  go_ret
  exact ⟨rfl, nb, V2, s, S7.out⟩
end
end Go.Proofs.YtlfionfnpieoiaaGreat
