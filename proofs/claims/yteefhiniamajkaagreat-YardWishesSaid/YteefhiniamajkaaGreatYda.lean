/- A yard: opened at a unit and closed; has, Notes, Lose, Version, Crash. -/
import Derived.Test.YteefhiniamajkaaGreatLan
import Derived.Test.YteefhiniamajkaaGreatDel2
import Derived.Test.YteefhiniamajkaaGreatUnt
import Derived.Test.YteefhiniamajkaaGreatGy
import Derived.BigQuiet
import Derived.Deep.RegionHeld3
import Derived.Deep.Cut
import Derived.IntWalk
namespace Go.Proofs.YteefhiniamajkaaGreat
set_option linter.unusedVariables false
set_option linter.unusedSimpArgs false
open Go.RowKit Go.ChangeShapes Go.WideShapes Go.ChangeAt
section
variable {S : List Nat} {W w : World} {L R : List Th} {t a b : Th}
theorem HS.split2 (h : HS S W w (t :: L)) (a b : Th) (hb : t.bs = a.bs ++ b.bs) (ha : a.at_ w) (hb' : b.at_ w) : HS S W w (a :: b :: L) := by
  obtain ⟨h1, h2, h3, h4⟩ := h
  have e : (a :: b :: L).flatMap Th.bs = (t :: L).flatMap Th.bs := by rw [List.flatMap_cons, List.flatMap_cons, List.flatMap_cons, hb, List.append_assoc]
  refine ⟨fun x hx => ?_, h2, by rw [e]; exact h3, by rw [e]; exact h4⟩
  rcases List.mem_cons.1 hx with rfl | hx
  · exact ha
  · rcases List.mem_cons.1 hx with rfl | hx
    · exact hb'
    · exact h1 x (List.mem_cons_of_mem _ hx)
theorem pull {α : Type} (P T1 T2 Q : List α) (x : α) : (P ++ ((T1 ++ x :: T2) ++ Q)).Perm (x :: (P ++ ((T1 ++ T2) ++ Q))) := by
  have e1 : P ++ ((T1 ++ x :: T2) ++ Q) = (P ++ T1) ++ x :: (T2 ++ Q) := by simp [List.append_assoc]
  have e2 : P ++ ((T1 ++ T2) ++ Q) = (P ++ T1) ++ (T2 ++ Q) := by simp [List.append_assoc]
  rw [e1, e2]
  exact List.perm_middle
end
def preY (D : Yl) (h : Hd) : List Th := [thB D.Y 5 (yc D.hb D.U D.V D.ca D.cm), thL D.V D.ns, thH D.hb D.hc D.hm D.hn h, thC1 D.ca [], thC1 D.cm [], thW 0 72 1 D.U h.un (ubV D)]
/-- A yard's things but those of unit i. -/
def RestY (D : Yl) (h : Hd) (uf : Nat → Uy) (i : Nat) (R : List Th) : List Th := preY D h ++ ((((List.range h.un).map (unT D uf)).take i ++ ((List.range h.un).map (unT D uf)).drop (i + 1)) ++ (nths D.ns ++ R))
def setB (f : Nat → Nat × Nat × Nat) (i s : Nat) (j : Nat) : Nat × Nat × Nat := if j = i then ((f i).1, (f i).2.1, s) else f j
theorem setB_1 (f : Nat → Nat × Nat × Nat) (i s j : Nat) : (setB f i s j).1 = (f j).1 := by
  unfold setB
  split
  · subst_vars; rfl
  · rfl
section
variable {S : List Nat} {W w : World} {D : Yl} {h : Hd} {uf : Nat → Uy} {R : List Th}
theorem YL.open_ (hS : HS S W w (YL D h uf R)) {i : Nat} (hi : i < h.un) : HS S W w (thB (D.bf i).1 333 (uc i (uf i).b (uf i).p (D.bf i).2.1) :: thP (D.bf i).2.1 (D.bf i).2.2 (uf i).p (uf i).up :: RestY D h uf i R) := by
  have e := split_at (L := (List.range h.un).map (unT D uf)) (k := i) (x := unT D uf i) (by simp [hi])
  have h1 : HS S W w (preY D h ++ ((List.range h.un).map (unT D uf) ++ (nths D.ns ++ R))) := hS
  rw [e] at h1
  have h2 := h1.perm (pull (preY D h) _ _ (nths D.ns ++ R) (unT D uf i))
  have h3 : (unT D uf i).at_ w := h2.nth 0 rfl
  exact h2.split2 _ _ rfl h3.1 h3.2
theorem YL.close_ {i s : Nat} {u : Uy} (hS : HS S W w (thB (D.bf i).1 333 (uc i u.b u.p (D.bf i).2.1) :: thP (D.bf i).2.1 s u.p u.up :: RestY D h uf i R)) (hi : i < h.un) : HS S W w (YL { D with bf := setB D.bf i s } h (setU uf i u) R) := by
  have a1 : Fb w (D.bf i).1 333 (uc i u.b u.p (D.bf i).2.1) := hS.nth 0 rfl
  have a2 : PlnAt w (D.bf i).2.1 s u.p u.up := hS.nth 1 rfl
  have eu : unT { D with bf := setB D.bf i s } (setU uf i u) i = thU i (D.bf i).1 (D.bf i).2.1 s u := by
    unfold unT setB setU
    simp only [if_pos rfl]
    rfl
  have h1 : HS S W w (thU i (D.bf i).1 (D.bf i).2.1 s u :: RestY D h uf i R) := hS.join2 _ rfl ⟨a1, a2⟩
  rw [← eu] at h1
  have h2 := h1.perm (pull (preY D h) _ _ (nths D.ns ++ R) _).symm
  rw [← set_split (L := (List.range h.un).map (unT D uf)) _ (by simpa using hi)] at h2
  rw [range_set (unT D uf) (unT { D with bf := setB D.bf i s } (setU uf i u)) hi (fun j hj => by unfold unT setB setU; simp only [if_neg hj])] at h2
  have e2 : preY { D with bf := setB D.bf i s } h = preY D h := by
    have : ubV { D with bf := setB D.bf i s } = ubV D := by
      funext j
      unfold ubV
      simp only [setB_1]
    unfold preY
    rw [this]
  rw [← e2] at h2
  exact h2
theorem YL.form (hS : HS S W w (YL D h uf R)) : ∃ A c, D.U = .slice A h.un c ∧ h.un ≤ c ∧ w.cell? ⟨D.Y, 1, none⟩ = some (.slice A h.un c) := by
  have h1 : Ow w 0 72 1 D.U h.un (ubV D) := hS.nth 5 rfl
  have h2 : Fb w D.Y 5 (yc D.hb D.U D.V D.ca D.cm) := hS.nth 0 rfl
  obtain ⟨A, c, e, hc, _⟩ := Ow.form_ h1
  exact ⟨A, c, e, hc, by rw [h2.2.1 1 (by omega), ← e]; rfl⟩
theorem YL.unit (hS : HS S W w (YL D h uf R)) {i : Nat} (hi : i < h.un) : ∃ (g c : Nat), D.U = .slice (some ⟨g, 0, none⟩) h.un c ∧ h.un ≤ c ∧ w.cell? ⟨D.Y, 1, none⟩ = some (.slice (some ⟨g, 0, none⟩) h.un c) ∧ w.cell? ⟨g, i, none⟩ = some (.pointer (some ⟨(D.bf i).1, 0, none⟩)) := by
  obtain ⟨A, c, e, hc, hx⟩ := YL.form hS
  have h1 : Ow w 0 72 1 D.U h.un (ubV D) := hS.nth 5 rfl
  rw [e] at h1
  obtain ⟨g, rfl, _, _, hcell, _⟩ := Ow.block_ h1 (by omega)
  exact ⟨g, c, e, hc, hx, hcell i (by omega)⟩
end
attribute [local irreducible] FA FL
section
variable {S : List Nat} {W w : World} {Y hb ca cm : Nat} {U V : Value} {ns : List (Nat × Nt)} {M R : List Th}
theorem lane_dropN (h : HS S W w (LL Y hb U V ca cm ns M R)) (i : Int) (hi : hasB i ns.length = false) : Calls Tryz.prog 47 #[.pointer (some ⟨Y, 2, none⟩), .int .i64 i] w fun x w' => x = .returned (.bool false) ∧ w = w' := by
  have HAS := hid (lane_has h i)
  rw [hi] at HAS
  clear h
  go_enter Tryz.func47, Tryz.ntmps47
  go_wp2_with fail
  refine HAS.out.mono ?_
  rintro e w' ⟨rfl, rfl⟩
  go_simp
  go_wp2_with fail
  go_ret
  exact ⟨rfl, rfl⟩
set_option maxRecDepth 100000 in
set_option maxHeartbeats 8000000 in
theorem lane_drop (h : HS S W w (LL Y hb U V ca cm ns M R)) (i : Nat) (hi : i < ns.length) : Calls Tryz.prog 47 #[.pointer (some ⟨Y, 2, none⟩), .int .i64 (i : Int)] w fun x w' => x = .returned (.bool true) ∧ ∃ V', HS S W w' (LL Y hb U V' ca cm (ns.eraseIdx i) M R) := by
  have HAS := hid (lane_has h (i : Int))
  rw [show hasB (i : Int) ns.length = true from by unfold hasB; simp [hi]] at HAS
  obtain ⟨A, c, rfl, hc, c2⟩ := LL.form h
  have DEL := hid (del_any (A := [thB Y 5 (yc hb U (.slice A ns.length c) ca cm)]) (B := M ++ (nths ns ++ R)) h hi)
  rw [show ((i + 1 : Nat) : Int) = (i : Int) + 1 from rfl] at DEL
  have xi : IntKind.i64.wrap ((i : Int) + 1) = (i : Int) + 1 := IntWalk.i64_in _ (by have := (h.nth 1 rfl : Ow w 0 133 1 (.slice A ns.length c) ns.length (laf ns)).form_; obtain ⟨A2, c3, e, h1, h2, _⟩ := this; unfold maxLen at h2; omega)
  have ND := hid (List.eraseIdx_sublist (nths ns) i)
  rw [← nths_erase] at ND
  clear h hc
  go_enter Tryz.func47, Tryz.ntmps47
  go_wp2_with fail
  refine HAS.out.mono ?_
  rintro e w' ⟨rfl, rfl⟩
  go_simp
  go_wp2_with fail
  refine DEL.out.mono ?_
  rintro e w1 ⟨V', rfl, hZ⟩
  clear DEL HAS c2
  have hF : Fb w1 Y 5 (yc hb U (.slice A ns.length c) ca cm) := hZ.nth 0 rfl
  obtain ⟨A', c', rfl, _⟩ := (hZ.nth 1 rfl : Ow w1 0 133 1 V' (ns.eraseIdx i).length (laf (ns.eraseIdx i))).form_
  have c2 : w1.cell? ⟨Y, 2, none⟩ = some (.slice A ns.length c) := hF.2.1 2 (by omega)
  have z2 := hF.2.2 2
  have S4 := hid (HS.set1 (A := []) hZ 2 (.slice A' (ns.eraseIdx i).length c') (by omega) (yc hb U (.slice A' (ns.eraseIdx i).length c') ca cm) (fun j _ => yc_lane _ _ _ _ _ _ _))
  clear hZ hF
  generalize (ns.eraseIdx i).length = k at *
  go_wp2_with fail
  go_ret
  exact ⟨rfl, _, S4.out.sub (List.Sublist.cons_cons _ (List.Sublist.cons_cons _ (List.Sublist.append (List.Sublist.refl _) (List.Sublist.append ND.out (List.Sublist.refl _)))))⟩
end
section
variable {S : List Nat} {W w : World} {D : Yl} {h : Hd} {uf : Nat → Uy} {R : List Th}
theorem yd_notes (hS : HS S W w (YL D h uf R)) : Calls Tryz.prog 19 #[.pointer (some ⟨D.Y, 0, none⟩)] w fun x w' => x = .returned (.int .i64 (D.ns.length : Int)) ∧ w = w' := by
  have LG := hid (lane_long (M := thH D.hb D.hc D.hm D.hn h :: thC1 D.ca [] :: thC1 D.cm [] :: thW 0 72 1 D.U h.un (ubV D) :: (List.range h.un).map (unT D uf)) (R := R) hS)
  clear hS
  go_enter Tryz.func19, Tryz.ntmps19
  go_wp2_with fail
  refine LG.out.mono ?_
  rintro e w' ⟨rfl, rfl⟩
  go_simp
  go_wp2_with fail
  go_ret
  exact ⟨rfl, rfl⟩
theorem yd_loseN (hS : HS S W w (YL D h uf R)) (i : Int) (hi : hasB i D.ns.length = false) : Calls Tryz.prog 23 #[.pointer (some ⟨D.Y, 0, none⟩), .int .i64 i] w fun x w' => x = .returned (.bool false) ∧ w = w' := by
  have LG := hid (lane_dropN (M := thH D.hb D.hc D.hm D.hn h :: thC1 D.ca [] :: thC1 D.cm [] :: thW 0 72 1 D.U h.un (ubV D) :: (List.range h.un).map (unT D uf)) (R := R) hS i hi)
  clear hS
  go_enter Tryz.func23, Tryz.ntmps23
  go_wp2_with fail
  refine LG.out.mono ?_
  rintro e w' ⟨rfl, rfl⟩
  go_simp
  go_wp2_with fail
  go_ret
  exact ⟨rfl, rfl⟩
theorem yd_lose (hS : HS S W w (YL D h uf R)) (i : Nat) (hi : i < D.ns.length) : Calls Tryz.prog 23 #[.pointer (some ⟨D.Y, 0, none⟩), .int .i64 (i : Int)] w fun x w' => x = .returned (.bool true) ∧ ∃ V', HS S W w' (YL { D with V := V', ns := D.ns.eraseIdx i } h uf R) := by
  have LG := hid (lane_drop (M := thH D.hb D.hc D.hm D.hn h :: thC1 D.ca [] :: thC1 D.cm [] :: thW 0 72 1 D.U h.un (ubV D) :: (List.range h.un).map (unT D uf)) (R := R) hS i hi)
  clear hS
  go_enter Tryz.func23, Tryz.ntmps23
  go_wp2_with fail
  refine LG.out.mono ?_
  rintro e w' ⟨rfl, V', hZ⟩
  have S1 := hid hZ
  clear hZ LG
  go_simp
  go_wp2_with fail
  go_ret
  exact ⟨rfl, V', S1.out⟩
theorem yd_has (hS : HS S W w (YL D h uf R)) (i : Int) : Calls Tryz.prog 49 #[.pointer (some ⟨D.Y, 0, none⟩), .int .i64 i] w fun x w' => x = .returned (.bool (hasB i h.un)) ∧ w = w' := by
  obtain ⟨A, c, hU, hc, c2⟩ := YL.form hS
  clear hS hU hc
  obtain ⟨n, hn⟩ : ∃ n, n = h.un := ⟨_, rfl⟩
  rw [← hn] at c2 ⊢
  clear hn
  by_cases h0 : 0 ≤ i
  · have HH := hid (show hasB i n = decide (i < n) from by unfold hasB; rw [decide_eq_true h0, Bool.true_and])
    rw [HH.out]
    go_enter Tryz.func49, Tryz.ntmps49
    go_wp2_with fail
    go_ret
    exact ⟨rfl, rfl⟩
  · have HH := hid (show hasB i n = false from by unfold hasB; rw [decide_eq_false h0, Bool.false_and])
    rw [HH.out]
    go_enter Tryz.func49, Tryz.ntmps49
    go_wp2_with fail
    go_ret
    exact ⟨rfl, rfl⟩
theorem yd_verN (hS : HS S W w (YL D h uf R)) (i : Int) (hi : hasB i h.un = false) : Calls Tryz.prog 22 #[.pointer (some ⟨D.Y, 0, none⟩), .int .i64 i] w fun x w' => x = .returned (.tuple #[.int .i64 0, .bool false]) ∧ w = w' := by
  have HAS := hid (yd_has hS i)
  rw [hi] at HAS
  clear hS
  go_enter Tryz.func22, Tryz.ntmps22
  go_wp2_with fail
  refine HAS.out.mono ?_
  rintro e w' ⟨rfl, rfl⟩
  go_simp
  go_wp2_with fail
  go_ret2
  exact ⟨rfl, rfl⟩
theorem yd_ver (hS : HS S W w (YL D h uf R)) (i : Nat) (hi : i < h.un) : Calls Tryz.prog 22 #[.pointer (some ⟨D.Y, 0, none⟩), .int .i64 (i : Int)] w fun x w' => x = .returned (.tuple #[.int .i64 (if (uf i).up = true then (uf i).p.v else 0), .bool (uf i).up]) ∧ Below w.heap.size w w' := by
  have HAS := hid (yd_has hS (i : Int))
  rw [show hasB (i : Int) h.un = true from by unfold hasB; simp [hi]] at HAS
  obtain ⟨g, c, hU, hc, c2, ce⟩ := YL.unit hS hi
  have hO := YL.open_ hS hi
  have c3 : w.cell? ⟨(D.bf i).1, 332, none⟩ = some (.pointer (some ⟨(D.bf i).2.1, 0, none⟩)) := (hO.fb 0 rfl).2.1 332 (by omega)
  have PV := hid (plane_ver (hO.nth 1 rfl : PlnAt w (D.bf i).2.1 (D.bf i).2.2 (uf i).p (uf i).up))
  generalize (D.bf i).1 = ub at *
  generalize (D.bf i).2.1 = pb at *
  generalize (D.bf i).2.2 = sb at *
  obtain ⟨v, hv⟩ : ∃ v, v = (if (uf i).up = true then (uf i).p.v else 0) := ⟨_, rfl⟩
  rw [← hv] at PV ⊢
  generalize (uf i).up = up at *
  obtain ⟨n, hn⟩ : ∃ n, n = h.un := ⟨_, rfl⟩
  rw [← hn] at c2 hi
  have z1 : (0 : Int) ≤ i := by omega
  have z2 : (i : Int) < n := by omega
  clear hS hO hU hc hn hv
  go_enter Tryz.func22, Tryz.ntmps22
  go_wp2_with fail
  refine HAS.out.mono ?_
  rintro e w' ⟨rfl, rfl⟩
  go_simp
  go_wp2_with fail
  refine PV.out.mono ?_
  rintro e w' ⟨rfl, hb⟩
  have B1 := hid hb
  clear hb
  go_simp
  go_wp2_with fail
  go_ret2
  exact ⟨rfl, B1.out⟩
end
end Go.Proofs.YteefhiniamajkaaGreat
