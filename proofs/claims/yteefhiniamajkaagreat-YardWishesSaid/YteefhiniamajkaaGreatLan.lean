/- The lane of notes: long, has, add, at. -/
import Derived.Test.YteefhiniamajkaaGreatPln
import Derived.Test.YteefhiniamajkaaGreatGn
import Derived.BigQuiet
import Derived.Deep.RegionHeld3
import Derived.Deep.Cut
import Derived.IntWalk
namespace Go.Proofs.YteefhiniamajkaaGreat
set_option linter.unusedVariables false
set_option linter.unusedSimpArgs false
open Go.RowKit Go.ChangeShapes Go.WideShapes Go.ChangeAt
section
variable {S : List Nat} {W w w' : World} {L A B : List Th} {a b t t' : Th}
theorem results_cellv {fn : Func} {r q : Tmp} {T : TypeId} {d : TypeDesc} {b n : Nat} {f : Nat → Value} {v : Value} (h : fn.results = #[.cell r T, .tmp q]) (tmps : Array Value) (hp : tmps.getD r undef = .pointer (some ⟨b, 0, none⟩)) (hq : tmps.getD q undef = v) (hF : Fb w b n f) (hu : Tryz.prog.underlying T = some d) (hd : d.isRow = true) (hi : (Tryz.prog.info? T).map (·.size) = some n) :
    (results fn tmps).run Tryz.prog w = .ok (.tuple #[.agg (FA n f), v]) w := by
  have hp' : tmps[r]?.getD undef = .pointer (some ⟨b, 0, none⟩) := by simpa using hp
  have hq' : tmps[q]?.getD undef = v := by simpa using hq
  simp [results, h, hp', hq', asAddr, hF.loadV (T := T) 0 n f (by omega) (fun j hj => by rw [Nat.zero_add]) hu hd hi]
theorem yc_lane (hb : Nat) (U V V' : Value) (ca cm j : Nat) : patch (yc hb U V ca cm) 2 1 (fun _ => V') j = yc hb U V' ca cm j := by
  unfold patch yc
  by_cases h : j = 2
  · rw [if_pos (by omega), if_neg (by omega), if_neg (by omega), if_pos h]
  · rw [if_neg (by omega)]
    by_cases h0 : j = 0
    · rw [if_pos h0, if_pos h0]
    · rw [if_neg h0, if_neg h0]
      by_cases h1 : j = 1
      · rw [if_pos h1, if_pos h1]
      · rw [if_neg h1, if_neg h1, if_neg h, if_neg h]
theorem yc_units (hb : Nat) (U U' V : Value) (ca cm j : Nat) : patch (yc hb U V ca cm) 1 1 (fun _ => U') j = yc hb U' V ca cm j := by
  unfold patch yc
  by_cases h : j = 1
  · rw [if_pos (by omega), if_neg (by omega), if_pos h]
  · rw [if_neg (by omega)]
    by_cases h0 : j = 0
    · rw [if_pos h0, if_pos h0]
    · rw [if_neg h0, if_neg h0, if_neg h, if_neg h]
theorem nths_app (ns : List (Nat × Nt)) (x : Nat × Nt) : nths (ns ++ [x]) = nths ns ++ [ntT x] := by unfold nths; rw [List.map_append]; rfl
theorem thL_app (V : Value) (ns : List (Nat × Nt)) (x : Nat × Nt) : thL V (ns ++ [x]) = thW 0 133 1 V (ns.length + 1) (laf (ns ++ [x])) := by unfold thL; rw [List.length_append]; rfl
theorem put_end {α : Type} (x : α) (P N R : List α) : (x :: (P ++ (N ++ R))).Perm (P ++ ((N ++ [x]) ++ R)) := by
  rw [← List.append_assoc, List.append_assoc N, List.singleton_append, ← List.append_assoc]
  exact List.perm_middle.symm
theorem laf_app (ns : List (Nat × Nt)) (x : Nat × Nt) (j : Nat) (hj : j < (ns.length + 1) * 1) : two (ns.length * 1) (laf ns) (fun _ => .pointer (some ⟨x.1, 0, none⟩)) j = laf (ns ++ [x]) j := by
  unfold two laf
  by_cases h : j < ns.length * 1
  · rw [if_pos h]
    have : j < ns.length := by omega
    simp [List.getD, List.getElem?_append_left this]
  · rw [if_neg h]
    have e : j = ns.length := by omega
    subst e
    simp [List.getD]
theorem info_pn : (Tryz.prog.info? 133).map (fun i => (i.zero, i.size, i.bytes)) = some (some (.pointer none), 1, 8) := by kernel_rfl
def hasB (i : Int) (n : Nat) : Bool := decide (0 ≤ i) && decide (i < n)
end
/-- The things of a lane, ahead of others. -/
def LL (Y hb : Nat) (U V : Value) (ca cm : Nat) (ns : List (Nat × Nt)) (M R : List Th) : List Th := thB Y 5 (yc hb U V ca cm) :: thL V ns :: (M ++ (nths ns ++ R))
theorem LL.form {S : List Nat} {W w : World} {Y hb ca cm : Nat} {U V : Value} {ns : List (Nat × Nt)} {M R : List Th} (h : HS S W w (LL Y hb U V ca cm ns M R)) : ∃ A c, V = .slice A ns.length c ∧ ns.length ≤ c ∧ w.cell? ⟨Y, 2, none⟩ = some (.slice A ns.length c) := by
  have h1 : Ow w 0 133 1 V ns.length (laf ns) := h.nth 1 rfl
  have h2 : Fb w Y 5 (yc hb U V ca cm) := h.nth 0 rfl
  obtain ⟨A, c, e, hc, _⟩ := Ow.form_ h1
  exact ⟨A, c, e, hc, by rw [h2.2.1 2 (by omega), ← e]; rfl⟩
attribute [local irreducible] FA FL
section
variable {S : List Nat} {W w : World} {Y hb ca cm : Nat} {U V : Value} {ns : List (Nat × Nt)} {M R : List Th}
theorem lane_long (h : HS S W w (LL Y hb U V ca cm ns M R)) : Calls Tryz.prog 43 #[.pointer (some ⟨Y, 2, none⟩)] w fun x w' => x = .returned (.int .i64 (ns.length : Int)) ∧ w = w' := by
  obtain ⟨A, c, rfl, hc, c2⟩ := LL.form h
  clear h
  go_enter Tryz.func43, Tryz.ntmps43
  go_wp2_with fail
  go_ret
  exact ⟨rfl, rfl⟩
theorem lane_has (h : HS S W w (LL Y hb U V ca cm ns M R)) (i : Int) : Calls Tryz.prog 66 #[.pointer (some ⟨Y, 2, none⟩), .int .i64 i] w fun x w' => x = .returned (.bool (hasB i ns.length)) ∧ w = w' := by
  obtain ⟨A, c, rfl, hc, c2⟩ := LL.form h
  clear h
  obtain ⟨n, hn⟩ : ∃ n, n = ns.length := ⟨_, rfl⟩
  rw [← hn] at c2 ⊢
  clear hn hc
  by_cases h0 : 0 ≤ i
  · have HH := hid (show hasB i n = decide (i < n) from by unfold hasB; rw [decide_eq_true h0, Bool.true_and])
    rw [HH.out]
    go_enter Tryz.func66, Tryz.ntmps66
    go_wp2_with fail
    go_ret
    exact ⟨rfl, rfl⟩
  · have HH := hid (show hasB i n = false from by unfold hasB; rw [decide_eq_false h0, Bool.false_and])
    rw [HH.out]
    go_enter Tryz.func66, Tryz.ntmps66
    go_wp2_with fail
    go_ret
    exact ⟨rfl, rfl⟩
set_option maxRecDepth 100000 in
set_option maxHeartbeats 8000000 in
theorem lane_add (h : HS S W w (LL Y hb U V ca cm ns M R)) (n : Nt) (hl : ns.length ≤ 1000000) : Calls Tryz.prog 45 #[.pointer (some ⟨Y, 2, none⟩), .agg (FA 342 (ntc n))] w fun x w' => x = .returned (.tuple #[]) ∧ ∃ nb V', HS S W w' (LL Y hb U V' ca cm (ns ++ [(nb, n)]) M R) := by
  have S0 := hid h
  clear h
  go_enter Tryz.func45, Tryz.ntmps45
  go_upto_region 0 with (fail)
  apply wp_region_lit
  refine wl_ow rfl (ow_box rfl rfl (by omega) S0.out (fun nb w1 hZ _ => ?_))
  have S1 : Hid (HS S W w1 (thB nb 342 (ntc n) :: LL Y hb U V ca cm ns M R)) := hid hZ
  clear hZ S0
  try simp only [Act.put, List.setIfInBounds_toArray, List.set_cons_zero, List.set_cons_succ]
  go_upto_region 1 with (fail)
  obtain ⟨A, c, hV, hc, c2⟩ := LL.form S1.out.tail
  subst hV
  apply wp_region_lit
  refine wl_val (v := ?_) rfl ?_ ?_; rotate_left; (focus ( go_simp; (try with_reducible rfl))); (try simp only [Act.put, List.setIfInBounds_toArray, List.set_cons_zero, List.set_cons_succ])
  refine wl_val (v := ?_) rfl ?_ ?_; rotate_left; (focus ( go_simp; (try with_reducible rfl))); (try simp only [Act.put, List.setIfInBounds_toArray, List.set_cons_zero, List.set_cons_succ])
  refine wl_val (v := ?_) rfl ?_ ?_; rotate_left; (focus ( go_simp; (try with_reducible rfl))); (try simp only [Act.put, List.setIfInBounds_toArray, List.set_cons_zero, List.set_cons_succ])
  refine wl_val (v := ?_) rfl ?_ ?_; rotate_left; (focus ( go_simp; (try with_reducible rfl))); (try simp only [Act.put, List.setIfInBounds_toArray, List.set_cons_zero, List.set_cons_succ])
  refine wl_val (v := ?_) rfl ?_ ?_; rotate_left; (focus ( go_simp; (try with_reducible rfl))); (try simp only [Act.put, List.setIfInBounds_toArray, List.set_cons_zero, List.set_cons_succ])
  have S2 := hid (S1.out.cells (T := 133) [.pointer (some ⟨nb, 0, none⟩)])
  refine wl_ow rfl (ow_val (v := .slice (some ⟨w1.heap.size, 0, none⟩) 1 1) (w' := w1.alloc (.cells #[.pointer (some ⟨nb, 0, none⟩)] 133)) (by go_simp) ?_)
  try simp only [Act.put, List.setIfInBounds_toArray, List.set_cons_zero, List.set_cons_succ]
  generalize w1.alloc (.cells #[.pointer (some ⟨nb, 0, none⟩)] 133) = w2 at *
  obtain ⟨E, hE⟩ : ∃ E, E = w1.heap.size := ⟨_, rfl⟩
  rw [← hE] at S2 ⊢
  clear c2 S1 hE
  obtain ⟨i0, hi, hz0, hz1, hz2⟩ := info_parts info_pn
  have ES := hid (show Sl w2 (some ⟨E, 0, none⟩) (1 * 1) (fun _ => .pointer (some ⟨nb, 0, none⟩)) from Sl.mk (S2.out.ce 0 rfl).1 (fun j hj => by rw [show j = 0 from by omega]; exact (S2.out.ce 0 rfl).2.1 0 _ rfl))
  refine wl_ow rfl (ow_appW (A := [thC E [.pointer (some ⟨nb, 0, none⟩)], thB nb 342 (ntc n), thB Y 5 (yc hb U (.slice A ns.length c) ca cm)]) (L := M ++ (nths ns ++ R)) (B := 0) (e := 133) (size := 1) (n := ns.length) (f := laf ns) (.tmp 8) (.tmp 9) rfl (z := .pointer none) (bytes := 8) Tryz.underlying67 hi hz0 hz1 hz2 rfl (by decide) rfl (X := some ⟨E, 0, none⟩) (m := 1) (c := 1) (f2 := fun _ => .pointer (some ⟨nb, 0, none⟩)) rfl S2.out ES.out (fun j _ => rfl) (by simp only [maxLen]; omega) (by omega) (Nat.zero_le _) (laf (ns ++ [(nb, n)])) (fun j hj => laf_app ns (nb, n) j hj) (fun A' c' w3 hZ hcc _ => ?_))
  have S3 : Hid (HS S W w3 (thC E [.pointer (some ⟨nb, 0, none⟩)] :: thB nb 342 (ntc n) :: thB Y 5 (yc hb U (.slice A ns.length c) ca cm) :: thW 0 133 1 (.slice A' (ns.length + 1) c') (ns.length + 1) (laf (ns ++ [(nb, n)])) :: (M ++ (nths ns ++ R)))) := hid hZ
  clear hZ S2
  try simp only [Act.put, List.setIfInBounds_toArray, List.set_cons_zero, List.set_cons_succ]
  have hF : Fb w3 Y 5 (yc hb U (.slice A ns.length c) ca cm) := S3.out.nth 2 rfl
  have c2 : w3.cell? ⟨Y, 2, none⟩ = some (.slice A ns.length c) := hF.2.1 2 (by omega)
  have z2 := hF.2.2 2
  clear hF
  refine wl_val (v := ?_) rfl ?_ ?_; rotate_left; (focus ( go_simp; (try with_reducible rfl))); (try simp only [Act.put, List.setIfInBounds_toArray, List.set_cons_zero, List.set_cons_succ])
  refine wl_val (v := ?_) rfl ?_ ?_; rotate_left; (focus ( go_simp; (try with_reducible rfl))); (try simp only [Act.put, List.setIfInBounds_toArray, List.set_cons_zero, List.set_cons_succ])
  refine wl_ow rfl (ov_store rfl rfl rfl (w' := w3.setCell ⟨Y, 2, none⟩ (.slice A' (ns.length + 1) c')) (by go_simp) ?_)
  try simp only [Act.put, List.setIfInBounds_toArray, List.set_cons_zero, List.set_cons_succ]
  have S4 := hid (HS.set1 (A := [thC E [.pointer (some ⟨nb, 0, none⟩)], thB nb 342 (ntc n)]) S3.out 2 (.slice A' (ns.length + 1) c') (by omega) (yc hb U (.slice A' (ns.length + 1) c') ca cm) (fun j _ => yc_lane _ _ _ _ _ _ _))
  have S9 : Hid (HS S W (w3.setCell ⟨Y, 2, none⟩ (.slice A' (ns.length + 1) c')) (LL Y hb U (.slice A' (ns.length + 1) c') ca cm (ns ++ [(nb, n)]) M R)) := hid (by
      have h5 : HS S W _ (ntT (nb, n) :: ((thB Y 5 (yc hb U (.slice A' (ns.length + 1) c') ca cm) :: thW 0 133 1 (.slice A' (ns.length + 1) c') (ns.length + 1) (laf (ns ++ [(nb, n)])) :: M) ++ (nths ns ++ R))) := S4.out.tail
      have h6 := HS.perm h5 (put_end (ntT (nb, n)) (thB Y 5 (yc hb U (.slice A' (ns.length + 1) c') ca cm) :: thW 0 133 1 (.slice A' (ns.length + 1) c') (ns.length + 1) (laf (ns ++ [(nb, n)])) :: M) (nths ns) R)
      unfold LL
      rw [nths_app, thL_app]
      exact h6)
  clear S4 S3 c2 z2
  generalize w3.setCell ⟨Y, 2, none⟩ (.slice A' (ns.length + 1) c') = w4 at *
  go_wp2_with fail
  go_end0
  exact ⟨rfl, nb, _, S9.out⟩
set_option maxRecDepth 100000 in
set_option maxHeartbeats 8000000 in
theorem lane_at (h : HS S W w (LL Y hb U V ca cm ns M R)) (i : Nat) (x : Nat × Nt) (hx : ns[i]? = some x) : Calls Tryz.prog 46 #[.pointer (some ⟨Y, 2, none⟩), .int .i64 (i : Int)] w fun e w' => e = .returned (.tuple #[.agg (FA 342 (ntc x.2)), .bool true]) ∧ Below w.heap.size w w' := by
  have hi := (List.getElem?_eq_some_iff.1 hx).1
  have h1 : Ow w 0 133 1 V ns.length (laf ns) := h.nth 1 rfl
  obtain ⟨A, c, rfl, hc, c2⟩ := LL.form h
  obtain ⟨g, rfl, _, _, hcell, _⟩ := Ow.block_ h1 (by omega)
  have hce : w.cell? ⟨g, i, none⟩ = some (.pointer (some ⟨x.1, 0, none⟩)) := by
    rw [hcell i (by omega)]
    unfold laf
    simp [List.getD, hx]
  have hnb : Fb w x.1 342 (ntc x.2) := h.1 (ntT x) (by simp only [LL, List.mem_cons, List.mem_append]; exact .inr (.inr (.inr (.inl (List.mem_map.2 ⟨x, List.mem_of_getElem? hx, rfl⟩)))))
  have LH := hid (fun (w' : World) (hb' : Below w.heap.size w w') => (h.below hb'))
  have CE := hid hce
  have NB := hid hnb
  have S1 : Hid (HS [] w w []) := hid HS.start
  have HAS := hid (show ∀ (w' : World), Below w.heap.size w w' → Calls Tryz.prog 66 #[.pointer (some ⟨Y, 2, none⟩), .int .i64 (i : Int)] w' fun x w2 => x = .returned (.bool true) ∧ w' = w2 from fun w' hb' => by
    have h2 := lane_has (h.below hb') (i : Int)
    rw [show hasB (i : Int) ns.length = true from by unfold hasB; simp [hi]] at h2
    exact h2)
  obtain ⟨ln, hln⟩ : ∃ ln, ln = ns.length := ⟨_, rfl⟩
  rw [← hln] at c2 hi
  have C2 := hid c2
  clear h h1 hc c2 hce hnb hcell hln
  go_enter Tryz.func46, Tryz.ntmps46
  go_upto_region 1 with ((with_reducible refine wl_id ?_); refine wl_ow rfl (ow_alloc rfl (znt_fa _) (by omega) S1.out ?_); intro Rb w_ hZ _; have S2 := hid hZ; clear hZ)
  go_wp2_with fail
  refine (HAS.out _ S2.out.bl).mono ?_
  rintro e w' ⟨rfl, rfl⟩
  go_simp
  go_upto_region 4 with (fail)
  have c2 := (Below.cell S2.out.bl (p := ⟨Y, 2, none⟩) (World.block_lt_of_cell? _ _ C2.out)).trans C2.out
  have ce := (Below.cell S2.out.bl (p := ⟨g, i, none⟩) (World.block_lt_of_cell? _ _ CE.out)).trans CE.out
  have z1 : (0 : Int) ≤ i := by omega
  have z2 : (i : Int) < ln := by omega
  have z4 : (0 : Nat) ≤ i := Nat.zero_le _
  apply wp_region_lit
  refine wl_val (v := ?_) rfl ?_ ?_; rotate_left; (focus ( go_simp; (try with_reducible rfl))); (try simp only [Act.put, List.setIfInBounds_toArray, List.set_cons_zero, List.set_cons_succ])
  refine wl_val (v := ?_) rfl ?_ ?_; rotate_left; (focus ( go_simp; (try with_reducible rfl))); (try simp only [Act.put, List.setIfInBounds_toArray, List.set_cons_zero, List.set_cons_succ])
  refine wl_val (v := ?_) rfl ?_ ?_; rotate_left; (focus ( go_simp; (try with_reducible rfl))); (try simp only [Act.put, List.setIfInBounds_toArray, List.set_cons_zero, List.set_cons_succ])
  refine wl_val (v := ?_) rfl ?_ ?_; rotate_left; (focus ( go_simp; (try with_reducible rfl))); (try simp only [Act.put, List.setIfInBounds_toArray, List.set_cons_zero, List.set_cons_succ])
  refine wl_val (v := ?_) rfl ?_ ?_; rotate_left; (focus ( go_simp; (try with_reducible rfl))); (try simp only [Act.put, List.setIfInBounds_toArray, List.set_cons_zero, List.set_cons_succ])
  refine wl_val (v := ?_) rfl ?_ ?_; rotate_left; (focus ( go_simp; (try with_reducible rfl))); (try simp only [Act.put, List.setIfInBounds_toArray, List.set_cons_zero, List.set_cons_succ])
  refine wl_val (v := ?_) rfl ?_ ?_; rotate_left; (focus ( go_simp; (try with_reducible rfl))); (try simp only [Act.put, List.setIfInBounds_toArray, List.set_cons_zero, List.set_cons_succ])
  refine wl_val (v := ?_) rfl ?_ ?_; rotate_left; (focus ( go_simp; (try with_reducible rfl))); (try simp only [Act.put, List.setIfInBounds_toArray, List.set_cons_zero, List.set_cons_succ])
  refine wl_ow rfl (ov_val (ex_load rfl rfl ((NB.out.below S2.out.bl).load 0 342 (ntc x.2) (by omega) (fun j hj => by rw [Nat.zero_add]) Tryz.underlying94 rfl info_nt)) ?_)
  try simp only [Act.put, List.setIfInBounds_toArray, List.set_cons_zero, List.set_cons_succ]
  refine wl_ow rfl (ow_store (A := []) 0 342 (ntc x.2) (ntc x.2) rfl rfl rfl S2.out (by omega) (fun j hj => patch_all _ _ _ j hj) info_nt (ntc_one _) ?_)
  intro w9 hZ
  have S9 := hid hZ
  clear hZ S2 c2 ce
  try simp only [Act.put, List.setIfInBounds_toArray, List.set_cons_zero, List.set_cons_succ]
  refine wl_val (v := ?_) rfl ?_ ?_; rotate_left; (focus ( go_simp; (try with_reducible rfl))); (try simp only [Act.put, List.setIfInBounds_toArray, List.set_cons_zero, List.set_cons_succ])
  refine end_then ?_
  apply_assumption
  refine wp_ret ?_
  (repeat refine ret_then ?_)
  (show bodyPost _ _ _ _ _ _)
  exact bodyPost_ret (v := .tuple #[.agg (FA 342 (ntc x.2)), .bool true]) (results_cellv Tryz.results46 _ rfl rfl (S9.out.fb 0 rfl) Tryz.underlying94 rfl info_nt) rfl ⟨rfl, S9.out.bl⟩
end
end Go.Proofs.YteefhiniamajkaaGreat
