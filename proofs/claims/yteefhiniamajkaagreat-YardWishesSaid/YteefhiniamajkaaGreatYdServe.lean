/- A yard: whoever has mail reads it. -/
import Derived.Test.YteefhiniamajkaaGreatYdb
import Derived.Test.YteefhiniamajkaaGreatYdTick
import Derived.Test.YteefhiniamajkaaGreatUnt3
import Derived.Test.YteefhiniamajkaaGreatHdHear
import Derived.BigQuiet
import Derived.Deep.RegionHeld3
import Derived.Deep.Cut
import Derived.IntWalk
namespace Go.Proofs.YteefhiniamajkaaGreat
set_option linter.unusedVariables false
set_option linter.unusedSimpArgs false
open Go.RowKit Go.ChangeShapes Go.WideShapes Go.ChangeAt
set_option maxRecDepth 100000
/-- A yard with notes at its two ears. -/
def YLq (D : Yl) (h : Hd) (uf : Nat → Uy) (R : List Th) (la lm : List Nt) : List Th := thB D.Y 5 (yc D.hb D.U D.V D.ca D.cm) :: thL D.V D.ns :: thH D.hb D.hc D.hm D.hn h :: thC1 D.ca la :: thC1 D.cm lm :: thW 0 72 1 D.U h.un (ubV D) :: ((List.range h.un).map (unT D uf) ++ (nths D.ns ++ R))
attribute [local irreducible] FA FL
theorem heard_all {w : World} {b c m n : Nat} {h : Hd} (hH : HeadAt w b c m n h) (nt : Nt) (hun : h.un ≤ 16) (hn : n ≤ 1000000) : Calls Tryz.prog 68 #[.pointer (some ⟨b, 0, none⟩), .agg (FA 342 (ntc nt))] w fun x w' => x = .returned (.tuple #[]) ∧ HeadAt w' b c m (n + 1) (heardH h nt) ∧ Ch [b, c, m] w w' := by
  cases he : earB h nt with
  | true => exact heard_yes hH nt he hun hn
  | false =>
    refine (heard_no hH nt he).mono ?_
    rintro x w' ⟨rfl, h1, h2⟩
    refine ⟨rfl, ?_, h2⟩
    unfold heardH
    rw [he, if_neg (by decide)]
    exact h1.mono
theorem heardH_un (h : Hd) (n : Nt) : (heardH h n).un = h.un := by
  unfold heardH
  split
  · split <;> rfl
  · rfl
section
variable {S : List Nat} {W w : World} {D : Yl} {h : Hd} {uf : Nat → Uy} {R : List Th} {la lm : List Nt} {t : Th}
theorem YLq.ca (hS : HS S W w (YLq D h uf R la lm)) : ∃ s r, w.heap[D.ca]? = some (.chan 1 (la.map ntV).toArray false s r false) := hS.nth 3 rfl
theorem YLq.cm (hS : HS S W w (YLq D h uf R la lm)) : ∃ s r, w.heap[D.cm]? = some (.chan 1 (lm.map ntV).toArray false s r false) := hS.nth 4 rfl
theorem YLq.setA (hS : HS S W w (YLq D h uf R la lm)) (l : List Nt) (s r : Nat) : HS S W (w.setChan D.ca 1 (l.map ntV).toArray false s r false) (YLq D h uf R l lm) := by
  obtain ⟨_, _, h0⟩ := YLq.ca hS
  exact HS.upd (A := [thB D.Y 5 (yc D.hb D.U D.V D.ca D.cm), thL D.V D.ns, thH D.hb D.hc D.hm D.hn h]) hS (thC1 D.ca l) rfl (ch_chan w D.ca 1 _ false s r false (by simp [thC1])) ⟨s, r, Go.Conc.heap_setChan _ _ _ _ _ _ _ _ (chan_lt h0)⟩
theorem YLq.setM (hS : HS S W w (YLq D h uf R la lm)) (l : List Nt) (s r : Nat) : HS S W (w.setChan D.cm 1 (l.map ntV).toArray false s r false) (YLq D h uf R la l) := by
  obtain ⟨_, _, h0⟩ := YLq.cm hS
  exact HS.upd (A := [thB D.Y 5 (yc D.hb D.U D.V D.ca D.cm), thL D.V D.ns, thH D.hb D.hc D.hm D.hn h, thC1 D.ca la]) hS (thC1 D.cm l) rfl (ch_chan w D.cm 1 _ false s r false (by simp [thC1])) ⟨s, r, Go.Conc.heap_setChan _ _ _ _ _ _ _ _ (chan_lt h0)⟩
theorem YL.memR (hS : HS S W w (YL D h uf R)) (ht : t ∈ R) : t.at_ w := hS.1 t (by unfold YL; simp only [List.mem_cons, List.mem_append]; exact .inr (.inr (.inr (.inr (.inr (.inr (.inr (.inr ht))))))))
theorem YL.three {X : Nat} {n : Nt} {i g u0 c ub : Nat} (hS : HS S W w (YL D h uf R)) (hi : i < h.un) (hU : D.U = .slice (some ⟨g, 0, none⟩) h.un c) (hu : u0 = h.un) (hub : ub = (D.bf i).1) (hX : thB X 342 (ntc n) ∈ R) : (w.cell? ⟨D.Y, 1, none⟩ = some (.slice (some ⟨g, 0, none⟩) u0 c) ∧ w.cell? ⟨g, i, none⟩ = some (.pointer (some ⟨ub, 0, none⟩))) ∧ Fb w X 342 (ntc n) := by
  obtain ⟨g', c', e, _, c1, c2⟩ := YL.unit hS hi
  rw [hU] at e
  injection e with e1 _ e3
  injection e1 with e1
  injection e1 with e1 _ _
  subst e1
  subst e3
  subst hu
  subst hub
  exact ⟨⟨c1, c2⟩, YL.memR hS hX⟩
theorem yd_heard (hS : HS S W w (t :: YL D h uf R)) (n : Nt) (hun : h.un ≤ 16) (hn : D.hn ≤ 1000000) : Calls Tryz.prog 68 #[.pointer (some ⟨D.hb, 0, none⟩), .agg (FA 342 (ntc n))] w fun x w' => x = .returned (.tuple #[]) ∧ HS S W w' (t :: YL { D with hn := D.hn + 1 } (heardH h n) uf R) := by
  refine (heard_all (YL.hd hS.tail) n hun hn).mono ?_
  rintro x w' ⟨rfl, hH, hC⟩
  refine ⟨rfl, ?_⟩
  have h1 := HS.upd (A := [t, thB D.Y 5 (yc D.hb D.U D.V D.ca D.cm), thL D.V D.ns]) hS (thH D.hb D.hc D.hm (D.hn + 1) (heardH h n)) rfl hC hH
  unfold YL
  rw [heardH_un]
  exact h1
theorem yd_read (hS : HS S W w (YL D h uf R)) {i : Nat} (hi : i < h.un) (n : Nt) (hp : PB (uf i).p) (hw : (readU n (uf i)).up = true → Pw (readU n (uf i)).p) : Calls Tryz.prog 69 #[.pointer (some ⟨(D.bf i).1, 0, none⟩), .agg (FA 342 (ntc n))] w fun x w' => x = .returned (.agg (FA 342 (ntc (ackU i (readU n (uf i)))))) ∧ ∃ s, HS S W w' (YL { D with bf := setB D.bf i s } h (setU uf i (readU n (uf i))) R) := by
  refine (unit_read (YL.open_ hS hi) n hp hw).mono ?_
  rintro x w' ⟨rfl, s, hZ⟩
  exact ⟨rfl, s, YL.close_ hZ hi⟩
set_option maxRecDepth 100000 in
set_option maxHeartbeats 16000000 in
theorem serve_ack {n : Nt} (hS : HS S W w (YLq D h uf R [n] [])) (hun : h.un ≤ 16) (hn : D.hn ≤ 1000000) : Calls Tryz.prog 48 #[.pointer (some ⟨D.Y, 0, none⟩)] w fun x w' => x = .returned (.tuple #[]) ∧ HS S W w' (YL { D with hn := D.hn + 1 } (heardH h n) uf R) := by
  have S0 := hid hS
  refine calls_of_wpN Tryz.func48 rfl ?_
  simp only [Tryz.ntmps48, List.size_toArray, List.length_cons, List.length_nil, Nat.reduceAdd, Nat.reduceSub, Array.replicate_succ, Array.replicate_zero, List.push_toArray, List.append_toArray, List.nil_append, List.cons_append]
  have c3 : w.cell? ⟨D.Y, 3, none⟩ = some (.chan (some D.ca)) := (S0.out.fb 0 rfl).2.1 3 (by omega)
  have c4 : w.cell? ⟨D.Y, 4, none⟩ = some (.chan (some D.cm)) := (S0.out.fb 0 rfl).2.1 4 (by omega)
  refine wpN_seq_k (fun K hK => wpN_of ?_)
  go_wp2
  clear c3 c4
  obtain ⟨s1, r1, h1⟩ := YLq.ca S0.out
  obtain ⟨s2, r2, h2⟩ := YLq.cm S0.out
  refine wpN_seq_k (fun K hK => ?_)
  refine wpN_reg ?_
  refine wpNL_recv0 (c := D.ca) (d := D.cm) (cap := 1) (cap2 := 1) (z := .agg (FA 342 (ntc zNt))) (z2 := .agg (FA 342 (ntc zNt))) (u := .agg (FA 342 (ntc n))) (l := []) (closed := false) (blocking := true) rfl rfl (by simp [go_sem, execOp, Go.Conc.rcase, Act.eval, znt_fa]; first | done | kernel_rfl) h1 h2 ?_
  have S1 : Hid (HS S W (w.setChan D.ca 1 #[] false s1 (r1 + 1) false) (YL D h uf R)) := hid (YLq.setA S0.out [] s1 (r1 + 1))
  generalize w.setChan D.ca 1 #[] false s1 (r1 + 1) false = w1 at *
  clear h1 h2 S0 hS
  refine wpNL_end (fun j => by rw [List.getElem?_toArray, show 0 + 1 + j = j + 1 by omega, List.getElem?_cons_succ]) ?_
  go_wp2_with fail
  refine wpN_of ?_
  go_upto_region 3 with (fail)
  apply wp_region_lit
  refine wl_val (v := ?_) rfl ?_ ?_; rotate_left; (focus ( go_simp; (try with_reducible rfl))); (try simp only [Act.put, List.setIfInBounds_toArray, List.set_cons_zero, List.set_cons_succ])
  refine wl_ow rfl (ow_alloc rfl (znt_fa _) (by omega) S1.out (fun X w4 hZ _ => ?_))
  have S4 := hid hZ
  clear hZ S1
  try simp only [Act.put, List.setIfInBounds_toArray, List.set_cons_zero, List.set_cons_succ]
  refine wl_ow rfl (ow_store (A := []) 0 342 (ntc n) (ntc n) rfl rfl rfl S4.out (by omega) (fun j hj => patch_all _ _ _ j hj) info_nt (ntc_one _) ?_)
  intro w5 hZ
  have S5 : Hid (HS S W w5 (thB X 342 (ntc n) :: YL D h uf R)) := hid hZ
  clear hZ S4
  try simp only [Act.put, List.setIfInBounds_toArray, List.set_cons_zero, List.set_cons_succ]
  go_upto_region 4 with (fail)
  refine wp_region_held_drew (S := fun (w' : World) => w'.cell? ⟨D.Y, 0, none⟩ = some (.pointer (some ⟨D.hb, 0, none⟩)) ∧ Fb w' X 342 (ntc n)) (by kernel_rfl) ?_ (fun hHeld => ?_)
  · exact ⟨YL.c0 S5.out.drew.tail, S5.out.drew.nth 0 rfl⟩
  have F0 := S5.out.drew
  refine tkq 0 hHeld ?_
  refine tkq 1 hHeld ?_
  refine tkq 2 hHeld ?_
  refine tkq 3 hHeld ?_ (hy := by intro w hSw; (try dsimp only at hSw); have x0 := hSw.1; go_simp; (try with_reducible rfl))
  refine tk 4 (v := .agg (FA 342 (ntc n))) rfl (by kernel_rfl) (by kernel_rfl) (by kernel_rfl) (fun _ _ _ h => h) rfl (fun w hSw => ex_load rfl rfl (hSw.2.load 0 342 (ntc n) (by omega) (fun j hj => by rw [Nat.zero_add]) Tryz.underlying94 rfl info_nt)) hHeld ?_; (try simp only [Act.put, List.setIfInBounds_toArray, List.set_cons_zero, List.set_cons_succ])
  refine only 5 rfl (by kernel_rfl) rfl (fun K hK => ?_)
  go_simp
  refine (yd_heard F0 n hun hn).mono ?_
  rintro e' w6 ⟨rfl, hZ⟩
  try go_wp2_with fail
  refine hK.out _ _ (⟨YL.c0 (D := { D with hn := D.hn + 1 }) hZ.tail, hZ.nth 0 rfl⟩) (fun h2 => ?_)
  clear hK
  try simp only [Act.put, List.setIfInBounds_toArray, List.set_cons_zero, List.set_cons_succ]
  have S6 := hid hZ.tail
  clear h2 hZ F0 hHeld S5
  refine wpAnyH_done (by kernel_rfl) ?_ _
  go_wp2_with fail
  go_end0
  exact ⟨rfl, S6.out⟩
set_option maxRecDepth 100000 in
set_option maxHeartbeats 16000000 in
theorem serve_mail {n : Nt} {i : Nat} (hS : HS S W w (YLq D h uf R [] [n])) (hnu : n.u = (i : Int)) (hi : i < h.un) (hp : PB (uf i).p) (hw : (readU n (uf i)).up = true → Pw (readU n (uf i)).p) (hl : D.ns.length ≤ 1000000) : Calls Tryz.prog 48 #[.pointer (some ⟨D.Y, 0, none⟩)] w fun x w' => x = .returned (.tuple #[]) ∧ ∃ nb V' s, HS S W w' (YL { D with bf := setB D.bf i s, V := V', ns := D.ns ++ [(nb, ackU i (readU n (uf i)))] } h (setU uf i (readU n (uf i))) R) := by
  have S0 := hid hS
  have NU := hid hnu
  clear hnu
  refine calls_of_wpN Tryz.func48 rfl ?_
  simp only [Tryz.ntmps48, List.size_toArray, List.length_cons, List.length_nil, Nat.reduceAdd, Nat.reduceSub, Array.replicate_succ, Array.replicate_zero, List.push_toArray, List.append_toArray, List.nil_append, List.cons_append]
  have c3 : w.cell? ⟨D.Y, 3, none⟩ = some (.chan (some D.ca)) := (S0.out.fb 0 rfl).2.1 3 (by omega)
  have c4 : w.cell? ⟨D.Y, 4, none⟩ = some (.chan (some D.cm)) := (S0.out.fb 0 rfl).2.1 4 (by omega)
  refine wpN_seq_k (fun K hK => wpN_of ?_)
  go_wp2
  clear c3 c4
  obtain ⟨s1, r1, h1⟩ := YLq.ca S0.out
  obtain ⟨s2, r2, h2⟩ := YLq.cm S0.out
  refine wpN_seq_k (fun K hK => ?_)
  refine wpN_reg ?_
  refine wpNL_recv1 (c := D.ca) (d := D.cm) (cap := 1) (cap2 := 1) (z := .agg (FA 342 (ntc zNt))) (z2 := .agg (FA 342 (ntc zNt))) (u := .agg (FA 342 (ntc n))) (l := []) (closed := false) (blocking := true) rfl rfl (by simp [go_sem, execOp, Go.Conc.rcase, Act.eval, znt_fa]; first | done | kernel_rfl) h1 h2 ?_
  have S1 : Hid (HS S W (w.setChan D.cm 1 #[] false s2 (r2 + 1) false) (YL D h uf R)) := hid (YLq.setM S0.out [] s2 (r2 + 1))
  generalize w.setChan D.cm 1 #[] false s2 (r2 + 1) false = w1 at *
  clear h1 h2 S0 hS
  refine wpNL_end (fun j => by rw [List.getElem?_toArray, show 0 + 1 + j = j + 1 by omega, List.getElem?_cons_succ]) ?_
  go_wp2_with fail
  refine wpN_of ?_
  go_upto_region 5 with (fail)
  apply wp_region_lit
  refine wl_val (v := ?_) rfl ?_ ?_; rotate_left; (focus ( go_simp; (try with_reducible rfl))); (try simp only [Act.put, List.setIfInBounds_toArray, List.set_cons_zero, List.set_cons_succ])
  refine wl_ow rfl (ow_alloc rfl (znt_fa _) (by omega) S1.out (fun X w4 hZ _ => ?_))
  have S4 := hid hZ
  clear hZ S1
  try simp only [Act.put, List.setIfInBounds_toArray, List.set_cons_zero, List.set_cons_succ]
  refine wl_ow rfl (ow_store (A := []) 0 342 (ntc n) (ntc n) rfl rfl rfl S4.out (by omega) (fun j hj => patch_all _ _ _ j hj) info_nt (ntc_one _) ?_)
  intro w5 hZ
  have S5 : Hid (HS S W w5 (YL D h uf ([thB X 342 (ntc n)] ++ R))) := hid (hZ.perm (put_mid _ (thB D.Y 5 (yc D.hb D.U D.V D.ca D.cm) :: thL D.V D.ns :: thH D.hb D.hc D.hm D.hn h :: thC1 D.ca [] :: thC1 D.cm [] :: thW 0 72 1 D.U h.un (ubV D) :: (List.range h.un).map (unT D uf)) (nths D.ns) R))
  clear hZ S4
  try simp only [Act.put, List.setIfInBounds_toArray, List.set_cons_zero, List.set_cons_succ]
  obtain ⟨g, c, hU, hc, c1, ce⟩ := YL.unit S5.out hi
  have F1 := hid (fun (w' : World) (hb : Below w5.heap.size w5 w') => S5.out.below hb)
  obtain ⟨u0, hu0⟩ : ∃ u0, u0 = h.un := ⟨_, rfl⟩
  rw [← hu0] at c1 hU hc
  have HUN := hid hu0
  replace hU := hid hU
  have zi0 : (0 : Int) ≤ i := by omega
  have zi1 : (i : Int) < u0 := by omega
  have zi2 : i < u0 := by omega
  clear hu0
  obtain ⟨ub, hub⟩ : ∃ ub, ub = (D.bf i).1 := ⟨_, rfl⟩
  rw [← hub] at ce
  have HUB := hid hub
  clear hub
  go_upto_region 6 with (fail)
  refine wp_region_held_drew (S := fun (w' : World) => (w'.cell? ⟨D.Y, 1, none⟩ = some (.slice (some ⟨g, 0, none⟩) u0 c) ∧ w'.cell? ⟨g, i, none⟩ = some (.pointer (some ⟨ub, 0, none⟩))) ∧ Fb w' X 342 (ntc n)) (by kernel_rfl) ?_ (fun hHeld => ?_)
  · exact ⟨⟨c1, ce⟩, (YL.memR S5.out.drew (t := thB X 342 (ntc n)) (by simp) : Fb _ X 342 (ntc n))⟩
  have F0 := S5.out.drew
  clear c1 ce
  refine tkq 0 hHeld ?_
  refine tkq 1 hHeld ?_
  refine tkq 2 hHeld ?_
  refine tkq 3 hHeld ?_
  refine tkq 4 hHeld ?_
  refine tkq 5 hHeld ?_
  refine tkq 6 hHeld ?_ (hy := by intro w hSw; (try dsimp only at hSw); have x0 := hSw.1.1; go_simp; (try with_reducible rfl))
  refine tkq 7 hHeld ?_
  refine tkq 8 hHeld ?_ (hy := by intro w hSw; (try dsimp only at hSw); have x0 : w.cell? ⟨X, 0, none⟩ = some (.int .i64 (i : Int)) := (by have := Fb.nt0 hSw.2; rwa [NU.out] at this); go_simp; (try with_reducible rfl))
  refine tkq 9 hHeld ?_
  refine tkq 10 hHeld ?_ (hy := by intro w hSw; (try dsimp only at hSw); have x0 := hSw.1.2; go_simp; (try with_reducible rfl))
  refine tk 11 (v := .agg (FA 342 (ntc n))) rfl (by kernel_rfl) (by kernel_rfl) (by kernel_rfl) (fun _ _ _ h => h) rfl (fun w hSw => ex_load rfl rfl (hSw.2.load 0 342 (ntc n) (by omega) (fun j hj => by rw [Nat.zero_add]) Tryz.underlying94 rfl info_nt)) hHeld ?_; (try simp only [Act.put, List.setIfInBounds_toArray, List.set_cons_zero, List.set_cons_succ])
  refine only 12 rfl (by kernel_rfl) rfl (fun K hK => ?_)
  go_simp
  rw [HUB.out]
  refine (yd_read F0 hi n hp hw).mono ?_
  rintro e' w6 ⟨rfl, s, hZ⟩
  try go_wp2_with fail
  have h3 := YL.three (X := X) (n := n) (u0 := u0) (ub := ub) (g := g) (c := c) hZ hi (by rw [← HUN.out]; exact hU.out) HUN.out (by rw [HUB.out]; exact (setB_1 _ _ _ _).symm) (by simp)
  refine hK.out _ _ (h3) (fun h2 => ?_)
  clear hK
  try simp only [Act.put, List.setIfInBounds_toArray, List.set_cons_zero, List.set_cons_succ]
  have F2 := hZ
  clear h2 hHeld F0 S5 hZ F1
  refine only 13 rfl (by kernel_rfl) rfl (fun K hK => ?_)
  go_simp
  refine (yd_add F2 _ hl).mono ?_
  rintro e' w7 ⟨rfl, nb, V', hZ⟩
  try go_wp2_with fail
  have h3 := YL.three (X := X) (n := n) (u0 := u0) (ub := ub) (g := g) (c := c) hZ hi (by rw [← HUN.out]; exact hU.out) HUN.out (by rw [HUB.out]; exact (setB_1 _ _ _ _).symm) (by simp)
  refine hK.out _ _ (h3) (fun h2 => ?_)
  clear hK
  try simp only [Act.put, List.setIfInBounds_toArray, List.set_cons_zero, List.set_cons_succ]
  have S6 := hid (hZ.sub (YL.lessR _ _ _ [thB X 342 (ntc n)] R))
  clear h2 hZ F2
  refine wpAnyH_done (by kernel_rfl) ?_ _
  go_wp2_with fail
  go_end0
  exact ⟨rfl, nb, V', s, S6.out⟩
end
end Go.Proofs.YteefhiniamajkaaGreat
