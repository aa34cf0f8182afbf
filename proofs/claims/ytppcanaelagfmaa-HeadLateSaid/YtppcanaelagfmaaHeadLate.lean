/- roundhouselaw11.HeadLate answers true for every row, any three numbers; no condition. -/
import Derived.Test.YtppcanaelagfmaaHdKnown
import Derived.BigQuiet
import Derived.Deep.RegionHeld3
import Derived.Deep.Cut
import Derived.Deep.CutRange
import Derived.IntWalk
namespace Go.Proofs.Ytppcanaelagfmaa.headLate
set_option linter.unusedVariables false
set_option linter.unusedSimpArgs false
open Go.RowKit Go.ChangeShapes Go.WideShapes Go.ChangeAt

section
variable {P : Program} {Q : Exit → Act → World → Prop} {md : Region.Mode} {S : World → Prop}
theorem threeUp (i j k : Nat) {L rest rest' rest'' : List Oper} {o o' o'' : Oper} {fuel : Nat} {listed : Array Bool} {a : Act} {w : World} (ho : L.drop i = o :: rest) (ho' : L.drop j = o' :: rest') (ho'' : L.drop k = o'' :: rest'') (hr : Region.ready md L.toArray listed = [i, j, k])
    (hw : Region.wanted o (yielded L.toArray a.tmps) = true) (hw' : Region.wanted o' (yielded L.toArray a.tmps) = true) (hw'' : Region.wanted o'' (yielded L.toArray a.tmps) = true)
    (h : ∀ K' : Act → World → Prop, Shut (∀ a w, S w → (S w → wpAnyH P md L.toArray Q S fuel (listed.setIfInBounds i true) a w) → K' a w) → Oper.wp P o a w K' Q)
    (h' : ∀ K' : Act → World → Prop, Shut (∀ a w, S w → (S w → wpAnyH P md L.toArray Q S fuel (listed.setIfInBounds j true) a w) → K' a w) → Oper.wp P o' a w K' Q)
    (h'' : ∀ K' : Act → World → Prop, Shut (∀ a w, S w → (S w → wpAnyH P md L.toArray Q S fuel (listed.setIfInBounds k true) a w) → K' a w) → Oper.wp P o'' a w K' Q) : wpAnyH P md L.toArray Q S (fuel + 1) listed a w :=
  wpAnyH_ready hr (by simp) (AllReadyH.cons (at_drop ho) (fun K hK => by rw [if_pos hw]; exact h K hK) (AllReadyH.cons (at_drop ho') (fun K hK => by rw [if_pos hw']; exact h' K hK) (AllReadyH.cons (at_drop ho'') (fun K hK => by rw [if_pos hw'']; exact h'' K hK) AllReadyH.nil)))
end
def l3n (a b c : Int) (j : Nat) : Int := match j with | 0 => a | 1 => b | _ => c
def l3f (a b c : Int) (j : Nat) : Value := .int .i64 (l3n a b c j)
theorem hs_l3 {S : List Nat} {W w : World} {L : List Th} (h : HS S W w L) (a b c : Int) {T : TypeId} : HS S W (w.alloc (.cells #[.int .i64 a, .int .i64 b, .int .i64 c] T)) (thB w.heap.size 3 (l3f a b c) :: L) := h.boxed (n := 3) (l3f a b c)
theorem l3_bd {a b c x : Int} (ha : -1 ≤ a ∧ a ≤ x) (hb : -1 ≤ b ∧ b ≤ x) (hc : -1 ≤ c ∧ c ≤ x) (j : Nat) : -1 ≤ l3n a b c j ∧ l3n a b c j ≤ x := by
  unfold l3n
  split
  · exact ha
  · exact hb
  · exact hc
/-- What counts of the words: the first unit's. -/
def hM (p : Pl) (f : Nat → Wd) : Hd := ⟨p, p, [], zEn, 1, f⟩
theorem lt_y (p : Pl) (f : Nat → Wd) (m x : Int) (hf : f 0 = ⟨0, m⟩) (hx : -1 ≤ x) (h : m < x) : heardH (hM p f) ⟨0, 0, x, false, true, zEn, zPl⟩ = hM p (setW f 0 ⟨0, x⟩) := by
  have h1 : mx x = x := by unfold mx; rw [if_neg (by omega)]
  unfold heardH earB cntB hM
  simp [h1, h, hf]
theorem lt_n (p : Pl) (f : Nat → Wd) (m x : Int) (hf : f 0 = ⟨0, m⟩) (hx : -1 ≤ x) (h : ¬ m < x) : heardH (hM p f) ⟨0, 0, x, false, true, zEn, zPl⟩ = hM p f := by
  have h1 : mx x = x := by unfold mx; rw [if_neg (by omega)]
  unfold heardH earB cntB hM
  simp [h1, h, hf]
theorem sM (p : Pl) (f : Nat → Wd) : sendH (hM p f) = hM p f := by
  unfold sendH
  split <;> rfl
theorem nM0 (p : Pl) (f : Nat → Wd) (m : Int) (hf : f 0 = ⟨0, m⟩) (h : ¬ m < p.v) : notesK (hM p f) 1 = [] := by
  rw [notesK_succ, if_neg (by show ¬ (f 0).v < p.v; rw [hf]; exact h)]
  rfl
theorem nM1 (p : Pl) (f : Nat → Wd) (m : Int) (hf : f 0 = ⟨0, m⟩) (h : m < p.v) : notesK (hM p f) 1 = [⟨0, 0, p.v, true, false, zEn, p⟩] := by
  rw [notesK_succ, if_pos (by show (f 0).v < p.v; rw [hf]; exact h)]
  show [noteH (hM p f) 0] = _
  have : noteH (hM p f) 0 = ⟨0, (f 0).b, p.v, true, false, zEn, p⟩ := rfl
  rw [this, hf]
theorem build_nt24F (v : Int) (w : World) : (Instr.build 58 #[(2, .int .i64 v), (4, .bool true)]).run Try.prog w = .ok (.agg (FA 342 (ntc ⟨0, 0, v, false, true, zEn, zPl⟩))) w := run_build w _ _ _ (by kernel_rfl)
attribute [local irreducible] FA FL
set_option maxRecDepth 100000 in
set_option maxHeartbeats 8000000 in
theorem walk (W : World) (A1 : Option Addr) (n1 c1 : Nat) (g1 : Nat → Int) (hn1 : n1 ≤ c1) (hc1 : c1 ≤ maxLen) (hr1 : Is W A1 n1 g1) (hg1 : IsI g1) (hl1 : ∀ ad, A1 = some ad → 0 < n1 → ad.block < W.heap.size) (re1 : c1 * 8 ≤ 140737488351232) (a0 : Int) (r_a0 : -9223372036854775808 ≤ a0 ∧ a0 ≤ 9223372036854775807) (b0 : Int) (r_b0 : -9223372036854775808 ≤ b0 ∧ b0 ≤ 9223372036854775807) (d_ : Int) (r_d_ : -9223372036854775808 ≤ d_ ∧ d_ ≤ 9223372036854775807) :
    Calls Try.prog 9 #[.slice A1 n1 c1, .int .i64 a0, .int .i64 b0, .int .i64 d_] W fun e w' => e = .returned (.bool true) ∧ Below W.heap.size W w' := by
  unfold maxLen at hc1
  have hnm : (n1 : Int) ≤ 9223372036854775807 := by have := hn1; omega
  have HL := hid hl1
  clear hl1 re1
  obtain ⟨p, hp⟩ : ∃ p, p = mkP g1 (min n1 30) := ⟨_, rfl⟩
  have HQ := hid (show Pinv p 30 from by rw [hp]; exact (mkP_inv g1 _).mono (by omega))
  have MK := hid (fun (w : World) (h : Is w A1 n1 g1) (hl : ∀ ad, A1 = some ad → 0 < n1 → ad.block < w.heap.size) => (show Calls Try.prog 13 #[.slice A1 n1 c1, .int .i64 30] w fun x w' => x = .returned (.agg (FA 330 (pc p))) ∧ Below w.heap.size w w' from by rw [hp]; exact make_fa w A1 n1 c1 g1 h hl hnm 30 (by omega)))
  clear hp
  obtain ⟨pv, hpv⟩ : ∃ x, p.v = x := ⟨_, rfl⟩
  have HPV := hid hpv
  have hv1 : 0 ≤ pv := by rw [← hpv]; exact HQ.out.1.1
  have hv2 : pv ≤ 30 := by rw [← hpv]; exact HQ.out.1.2
  clear hpv
  obtain ⟨va, hva⟩ : ∃ x, x = wi a0 (pv + 3) := ⟨_, rfl⟩
  have qva := wi_bd a0 (pv + 3) (by omega)
  rw [← hva] at qva
  have Wva := hid (fun w => re_i64 (within_any a0 (pv + 3) w (by omega) (by omega)) hva.symm)
  clear hva
  obtain ⟨qva1, qva2⟩ := qva
  obtain ⟨vb, hvb⟩ : ∃ x, x = wi b0 (pv + 3) := ⟨_, rfl⟩
  have qvb := wi_bd b0 (pv + 3) (by omega)
  rw [← hvb] at qvb
  have Wvb := hid (fun w => re_i64 (within_any b0 (pv + 3) w (by omega) (by omega)) hvb.symm)
  clear hvb
  obtain ⟨qvb1, qvb2⟩ := qvb
  obtain ⟨vc, hvc⟩ : ∃ x, x = wi d_ (pv + 3) := ⟨_, rfl⟩
  have qvc := wi_bd d_ (pv + 3) (by omega)
  rw [← hvc] at qvc
  have Wvc := hid (fun w => re_i64 (within_any d_ (pv + 3) w (by omega) (by omega)) hvc.symm)
  clear hvc
  obtain ⟨qvc1, qvc2⟩ := qvc
  have S0 : Hid (HS [] W W []) := hid HS.start
  go_enter Try.func9, Try.ntmps9
  go_wp2_with fail
  refine (hknown_any _).mono ?_
  rintro x w1 ⟨rfl, hB⟩
  have R1 := hid (hr1.below hB (Nat.le_refl _))
  have B1 := hid hB
  have S1 : Hid (HS [] W w1 []) := hid (S0.out.below hB)
  clear hr1 hB S0
  go_wp2_with fail
  refine (MK.out _ R1.out (fun ad e h => Nat.lt_of_lt_of_le (HL.out ad e h) B1.out.size)).mono ?_
  rintro x w2 ⟨rfl, hb⟩
  have S2 : Hid (HS [] W w2 []) := hid (S1.out.below hb)
  clear hb S1 MK
  go_simp
  go_upto_region 4 with (first | ((with_reducible refine wl_id ?_); refine wl_ow rfl (ow_alloc rfl (zpl_fa _) (by omega) S2.out ?_); intro P w_ hZ _; have SA := hid hZ; clear hZ) | ((with_reducible refine wl_id ?_); refine wl_ow rfl (ow_store (A := []) 0 330 (pc p) (pc p) rfl rfl rfl SA.out (by omega) (fun j hj => patch_all _ _ _ j hj) info_pl (pc_one _) ?_); intro w_ hZ; have SX := hid hZ; clear hZ))
  have S3 : Hid (HS [] W _ [thB P 330 (pc p)]) := hid (SX.out)
  have NW := hid (hnew_fa p (1) ⟨by omega, by omega⟩)
  go_wp2_with ((with_reducible refine wl_id ?_); refine wl_ow rfl (ow_load 0 rfl 0 330 (pc p) rfl rfl S3.out (by omega) (fun j hj => by rw [Nat.zero_add]) Try.underlying33 rfl info_pl ?_))
  refine (NW.out _).mono ?_
  rintro x w103 ⟨b, c, m, rfl, hH, hg1, hg2, hg3, hB⟩
  have S4 : Hid (HS [] W w103 [thH b c m (1) (newH p (1)), thB P 330 (pc p)]) := hid (HS.addH S3.out hH hg1 hg2 hg3 hB)
  clear hH hg1 hg2 hg3 hB NW S3
  go_simp
  go_wp2_with fail
  have T0 : Hid (HS [] W _ [thH b c m 1 (hM p (fun _ => ⟨0, -1⟩)), thB P 330 (pc p)]) := hid S4.out
  clear S4
  have cp := hid (show ∀ w, Fb w P 330 (pc p) → w.cell? ⟨P, 0, none⟩ = some (.int .i64 pv) from fun w h => by rw [← HPV.out]; exact h.2.1 0 (by omega))
  go_cut [12] from 31 to 50 (fun x wx => ∃ E : Nat, x = .slice (some ⟨E, 0, none⟩) 3 3 ∧ HS [] W wx (thB E 3 (l3f (va - 1) (vb - 1) (vc - 1)) :: [thH b c m 1 (hM p (fun _ => ⟨0, -1⟩)), thB P 330 (pc p)]))
  case first =>
    refine wp_region_held_drew (S := fun (w' : World) => HS [] W w' [thH b c m 1 (hM p (fun _ => ⟨0, -1⟩)), thB P 330 (pc p)]) (by kernel_rfl) ?_ (fun hHeld => ?_)
    · exact T0.out.drew
    refine tk 0 (v := ?_) rfl (by kernel_rfl) (by kernel_rfl) (by kernel_rfl) (fun _ _ _ h => h) rfl ?_ hHeld ?_; rotate_left; (focus (intro w hSw; (try dsimp only at hSw);  go_simp; (try with_reducible rfl))); (try simp only [Act.put, List.setIfInBounds_toArray, List.set_cons_zero, List.set_cons_succ])
    refine tk 1 (v := ?_) rfl (by kernel_rfl) (by kernel_rfl) (by kernel_rfl) (fun _ _ _ h => h) rfl ?_ hHeld ?_; rotate_left; (focus (intro w hSw; (try dsimp only at hSw);  go_simp; (try with_reducible rfl))); (try simp only [Act.put, List.setIfInBounds_toArray, List.set_cons_zero, List.set_cons_succ])
    refine tk 2 (v := ?_) rfl (by kernel_rfl) (by kernel_rfl) (by kernel_rfl) (fun _ _ _ h => h) rfl ?_ hHeld ?_; rotate_left; (focus (intro w hSw; (try dsimp only at hSw); have x0 := cp.out _ (hSw.fb 1 rfl); go_simp; (try with_reducible rfl))); (try simp only [Act.put, List.setIfInBounds_toArray, List.set_cons_zero, List.set_cons_succ])
    refine tk 3 (v := ?_) rfl (by kernel_rfl) (by kernel_rfl) (by kernel_rfl) (fun _ _ _ h => h) rfl ?_ hHeld ?_; rotate_left; (focus (intro w hSw; (try dsimp only at hSw); have x9 : IntKind.i64.wrap (pv + 3) = pv + 3 := IntWalk.i64_in _ (by omega); go_simp; (try with_reducible rfl))); (try simp only [Act.put, List.setIfInBounds_toArray, List.set_cons_zero, List.set_cons_succ])
    refine tk 6 (v := ?_) rfl (by kernel_rfl) (by kernel_rfl) (by kernel_rfl) (fun _ _ _ h => h) rfl ?_ hHeld ?_; rotate_left; (focus (intro w hSw; (try dsimp only at hSw);  go_simp; (try with_reducible rfl))); (try simp only [Act.put, List.setIfInBounds_toArray, List.set_cons_zero, List.set_cons_succ])
    refine tk 7 (v := ?_) rfl (by kernel_rfl) (by kernel_rfl) (by kernel_rfl) (fun _ _ _ h => h) rfl ?_ hHeld ?_; rotate_left; (focus (intro w hSw; (try dsimp only at hSw);  go_simp; (try with_reducible rfl))); (try simp only [Act.put, List.setIfInBounds_toArray, List.set_cons_zero, List.set_cons_succ])
    refine tk 8 (v := ?_) rfl (by kernel_rfl) (by kernel_rfl) (by kernel_rfl) (fun _ _ _ h => h) rfl ?_ hHeld ?_; rotate_left; (focus (intro w hSw; (try dsimp only at hSw); have x0 := cp.out _ (hSw.fb 1 rfl); go_simp; (try with_reducible rfl))); (try simp only [Act.put, List.setIfInBounds_toArray, List.set_cons_zero, List.set_cons_succ])
    refine tk 9 (v := ?_) rfl (by kernel_rfl) (by kernel_rfl) (by kernel_rfl) (fun _ _ _ h => h) rfl ?_ hHeld ?_; rotate_left; (focus (intro w hSw; (try dsimp only at hSw); have x9 : IntKind.i64.wrap (pv + 3) = pv + 3 := IntWalk.i64_in _ (by omega); go_simp; (try with_reducible rfl))); (try simp only [Act.put, List.setIfInBounds_toArray, List.set_cons_zero, List.set_cons_succ])
    refine tk 12 (v := ?_) rfl (by kernel_rfl) (by kernel_rfl) (by kernel_rfl) (fun _ _ _ h => h) rfl ?_ hHeld ?_; rotate_left; (focus (intro w hSw; (try dsimp only at hSw);  go_simp; (try with_reducible rfl))); (try simp only [Act.put, List.setIfInBounds_toArray, List.set_cons_zero, List.set_cons_succ])
    refine tk 13 (v := ?_) rfl (by kernel_rfl) (by kernel_rfl) (by kernel_rfl) (fun _ _ _ h => h) rfl ?_ hHeld ?_; rotate_left; (focus (intro w hSw; (try dsimp only at hSw);  go_simp; (try with_reducible rfl))); (try simp only [Act.put, List.setIfInBounds_toArray, List.set_cons_zero, List.set_cons_succ])
    refine tk 14 (v := ?_) rfl (by kernel_rfl) (by kernel_rfl) (by kernel_rfl) (fun _ _ _ h => h) rfl ?_ hHeld ?_; rotate_left; (focus (intro w hSw; (try dsimp only at hSw); have x0 := cp.out _ (hSw.fb 1 rfl); go_simp; (try with_reducible rfl))); (try simp only [Act.put, List.setIfInBounds_toArray, List.set_cons_zero, List.set_cons_succ])
    refine tk 15 (v := ?_) rfl (by kernel_rfl) (by kernel_rfl) (by kernel_rfl) (fun _ _ _ h => h) rfl ?_ hHeld ?_; rotate_left; (focus (intro w hSw; (try dsimp only at hSw); have x9 : IntKind.i64.wrap (pv + 3) = pv + 3 := IntWalk.i64_in _ (by omega); go_simp; (try with_reducible rfl))); (try simp only [Act.put, List.setIfInBounds_toArray, List.set_cons_zero, List.set_cons_succ])
    refine only 4 rfl (by kernel_rfl) rfl (fun K hK => ?_)
    go_simp
    refine (Wva.out _).mono ?_
    rintro e' w' ⟨rfl, rfl⟩
    try go_wp2_with fail
    refine hK.out _ _ (hHeld) (fun hz1 => ?_)
    clear hK
    try simp only [Act.put, List.setIfInBounds_toArray, List.set_cons_zero, List.set_cons_succ]
    refine tk 5 (v := ?_) rfl (by kernel_rfl) (by kernel_rfl) (by kernel_rfl) (fun _ _ _ h => h) rfl ?_ hz1 ?_; rotate_left; (focus (intro w hSw; (try dsimp only at hSw); have x9 : IntKind.i64.wrap (va - 1) = va - 1 := IntWalk.i64_in _ (by omega); go_simp; (try with_reducible rfl))); (try simp only [Act.put, List.setIfInBounds_toArray, List.set_cons_zero, List.set_cons_succ])
    refine only 10 rfl (by kernel_rfl) rfl (fun K hK => ?_)
    go_simp
    refine (Wvb.out _).mono ?_
    rintro e' w' ⟨rfl, rfl⟩
    try go_wp2_with fail
    refine hK.out _ _ (hz1) (fun hz2 => ?_)
    clear hK
    try simp only [Act.put, List.setIfInBounds_toArray, List.set_cons_zero, List.set_cons_succ]
    refine tk 11 (v := ?_) rfl (by kernel_rfl) (by kernel_rfl) (by kernel_rfl) (fun _ _ _ h => h) rfl ?_ hz2 ?_; rotate_left; (focus (intro w hSw; (try dsimp only at hSw); have x9 : IntKind.i64.wrap (vb - 1) = vb - 1 := IntWalk.i64_in _ (by omega); go_simp; (try with_reducible rfl))); (try simp only [Act.put, List.setIfInBounds_toArray, List.set_cons_zero, List.set_cons_succ])
    refine only 16 rfl (by kernel_rfl) rfl (fun K hK => ?_)
    go_simp
    refine (Wvc.out _).mono ?_
    rintro e' w' ⟨rfl, rfl⟩
    try go_wp2_with fail
    refine hK.out _ _ (hz2) (fun hz3 => ?_)
    clear hK
    try simp only [Act.put, List.setIfInBounds_toArray, List.set_cons_zero, List.set_cons_succ]
    refine tk 17 (v := ?_) rfl (by kernel_rfl) (by kernel_rfl) (by kernel_rfl) (fun _ _ _ h => h) rfl ?_ hz3 ?_; rotate_left; (focus (intro w hSw; (try dsimp only at hSw); have x9 : IntKind.i64.wrap (vc - 1) = vc - 1 := IntWalk.i64_in _ (by omega); go_simp; (try with_reducible rfl))); (try simp only [Act.put, List.setIfInBounds_toArray, List.set_cons_zero, List.set_cons_succ])
    refine only 18 rfl (by kernel_rfl) rfl (fun K hK => ?_)
    go_simp
    have hN := hs_l3 (T := 3) hz3 (va - 1) (vb - 1) (vc - 1)
    refine hK.out _ _ (hN.tail) (fun hE => ?_)
    clear hK
    try simp only [Act.put, List.setIfInBounds_toArray, List.set_cons_zero, List.set_cons_succ]
    refine tk 19 (v := ?_) rfl (by kernel_rfl) (by kernel_rfl) (by kernel_rfl) (fun _ _ _ h => h) rfl ?_ hE ?_; rotate_left; (focus (intro w hSw; (try dsimp only at hSw);  go_simp; (try with_reducible rfl))); (try simp only [Act.put, List.setIfInBounds_toArray, List.set_cons_zero, List.set_cons_succ])
    refine wpAnyH_done (by kernel_rfl) ?_ _
    go_wp2_with fail
    go_meet
    exact ⟨_, rfl, hN⟩
  case rest =>
    obtain ⟨E, rfl, hS2⟩ := hcut
    have U0 := hid hS2
    clear hS2 T0 Wva Wvb Wvc
    obtain ⟨lf, hlf⟩ : ∃ lf, lf = l3n (va - 1) (vb - 1) (vc - 1) := ⟨_, rfl⟩
    have HB3 := hid (show ∀ j, -1 ≤ lf j ∧ lf j ≤ pv + 1 from fun j => by rw [hlf]; exact l3_bd ⟨by omega, by omega⟩ ⟨by omega, by omega⟩ ⟨by omega, by omega⟩ j)
    replace U0 : Hid (HS [] W wc (thB E 3 (fun j => .int .i64 (lf j)) :: [thH b c m 1 (hM p (fun _ => ⟨0, -1⟩)), thB P 330 (pc p)])) := hid (by rw [hlf]; exact U0.out)
    clear hlf
    go_wp2_with fail
    go_loopg [13, 14] 3 (fun gh s i wx => ∃ (k n : Nat) (m_ : Int) (f : Nat → Wd), gh = 3 - k ∧ k ≤ 3 ∧ n ≤ 1 + k ∧ i = .int .i64 (k : Int) ∧ s = .int .i64 m_ ∧ -1 ≤ m_ ∧ m_ ≤ pv + 1 ∧ f 0 = ⟨0, m_⟩ ∧ HS [] W wx [thB E 3 (fun j => .int .i64 (lf j)), thH b c m n (hM p f), thB P 330 (pc p)])
    case atStart => exact ⟨0, 1, -1, _, rfl, by omega, by omega, rfl, rfl, by omega, by omega, rfl, U0.out⟩
    case round =>
      clear U0
      obtain ⟨k, n, m_, f, hgh, hk, hn, rfl, rfl, hm1, hm2, hf, hS⟩ := hrel
      have U0 := hid hS
      have HF := hid hf
      clear hS hf
      by_cases hlt : (k : Int) < 3
      · have hkn : k < 3 := by omega
        obtain ⟨lk, hlk⟩ : ∃ x, x = lf k := ⟨_, rfl⟩
        have xc := hid (show ∀ w, Fb w E 3 (fun j => .int .i64 (lf j)) → w.cell? ⟨E, k, none⟩ = some (.int .i64 lk) from fun w h => by rw [hlk]; exact h.2.1 k hkn)
        have hb := HB3.out k
        rw [← hlk] at hb
        obtain ⟨hb1, hb2⟩ := hb
        clear hlk
        have xk := xc.out _ (U0.out.fb 0 rfl)
        have xz : ⟨E, 0 + k, none⟩ = (⟨E, k, none⟩ : Addr) := by rw [Nat.zero_add]
        go_upto_region 12 with (fail)
        apply wp_region_lit
        refine wl_val (v := ?_) rfl ?_ ?_; rotate_left; (focus ( go_simp; (try with_reducible rfl))); (try simp only [Act.put, List.setIfInBounds_toArray, List.set_cons_zero, List.set_cons_succ])
        refine wl_val (v := ?_) rfl ?_ ?_; rotate_left; (focus ( go_simp; (try with_reducible rfl))); (try simp only [Act.put, List.setIfInBounds_toArray, List.set_cons_zero, List.set_cons_succ])
        refine wl_val (v := ?_) rfl ?_ ?_; rotate_left; (focus ( go_simp; (try with_reducible rfl))); (try simp only [Act.put, List.setIfInBounds_toArray, List.set_cons_zero, List.set_cons_succ])
        refine wl_val (v := ?_) rfl ?_ ?_; rotate_left; (focus ( go_simp; (try with_reducible rfl))); (try simp only [Act.put, List.setIfInBounds_toArray, List.set_cons_zero, List.set_cons_succ])
        refine wl_val (v := ?_) rfl ?_ ?_; rotate_left; (focus ( go_simp; (try with_reducible rfl))); (try simp only [Act.put, List.setIfInBounds_toArray, List.set_cons_zero, List.set_cons_succ])
        refine wl_val rfl (ex_build2 rfl rfl rfl (build_nt24F lk _)) ?_
        try simp only [Act.put, List.setIfInBounds_toArray, List.set_cons_zero, List.set_cons_succ]
        go_wp2_with fail
        by_cases hml : m_ < lk
        · refine (heard_fa (U0.out.nth 1 rfl : HeadAt _ b c m n (hM p f)) ⟨0, 0, lk, false, true, zEn, zPl⟩ (show (1 : Nat) ≤ 16 by omega) (by omega) (hM p (setW f 0 ⟨0, lk⟩)) (lt_y p f m_ lk HF.out hb1 hml)).mono ?_
          rintro x w8 ⟨rfl, hH, hC⟩
          have U1 : Hid (HS [] W w8 [thB E 3 (fun j => .int .i64 (lf j)), thH b c m (n + 1) (hM p (setW f 0 ⟨0, lk⟩)), thB P 330 (pc p)]) := hid (HS.upd (A := [thB E 3 (fun j => .int .i64 (lf j))]) (B := [thB P 330 (pc p)]) U0.out (thH b c m (n + 1) (hM p (setW f 0 ⟨0, lk⟩))) rfl hC hH)
          clear hH hC U0 xk
          go_simp
          have xk2 := xc.out _ (U1.out.fb 0 rfl)
          have hmx : max m_ lk = lk := by omega
          go_wp2_with fail
          go_roundg (3 - (k + 1))
          case rel => exact ⟨k + 1, n + 1, lk, _, by omega, by omega, by omega, by go_num, rfl, by omega, by omega, rfl, U1.out⟩
          case measure => omega
        · refine (heard_fa (U0.out.nth 1 rfl : HeadAt _ b c m n (hM p f)) ⟨0, 0, lk, false, true, zEn, zPl⟩ (show (1 : Nat) ≤ 16 by omega) (by omega) (hM p f) (lt_n p f m_ lk HF.out hb1 hml)).mono ?_
          rintro x w8 ⟨rfl, hH, hC⟩
          have U1 : Hid (HS [] W w8 [thB E 3 (fun j => .int .i64 (lf j)), thH b c m (n + 1) (hM p f), thB P 330 (pc p)]) := hid (HS.upd (A := [thB E 3 (fun j => .int .i64 (lf j))]) (B := [thB P 330 (pc p)]) U0.out (thH b c m (n + 1) (hM p f)) rfl hC hH)
          clear hH hC U0 xk
          go_simp
          have xk2 := xc.out _ (U1.out.fb 0 rfl)
          have hmx : max m_ lk = m_ := by omega
          go_wp2_with fail
          go_roundg (3 - (k + 1))
          case rel => exact ⟨k + 1, n + 1, m_, f, by omega, by omega, by omega, by go_num, rfl, hm1, hm2, HF.out, U1.out⟩
          case measure => omega
      · go_wp2_with fail
        by_cases hml : m_ < pv
        · refine (send_fa (U0.out.nth 1 rfl : HeadAt _ b c m n (hM p f)) (show (1 : Nat) ≤ 16 by omega) (HQ.out.pb (by omega)) (by rw [sM]; exact ⟨HQ.out.1.1, Int.le_trans HQ.out.1.2 (by omega)⟩) (hM p f) [⟨0, 0, p.v, true, false, zEn, p⟩] (sM p f) (nM1 p f m_ HF.out (by rw [HPV.out]; exact hml))).mono ?_
          rintro x w9 ⟨A9, cc9, rfl, hlc, hH, hC, hrow⟩
          obtain ⟨G, rfl, hg, hF⟩ := hrow (by simp)
          have U5 : Hid (HS [] W w9 (thB G 342 (ntf [⟨0, 0, p.v, true, false, zEn, p⟩]) :: [thB E 3 (fun j => .int .i64 (lf j)), thH b c m n (hM p f), thB P 330 (pc p)])) := hid (HS.updNew (A := [thB E 3 (fun j => .int .i64 (lf j))]) U0.out (thH b c m n (hM p f)) rfl hC hH hF hg)
          have G3 := hid (show ∀ w, Fb w G 342 (ntf [⟨0, 0, p.v, true, false, zEn, p⟩]) → w.cell? ⟨G, 3, none⟩ = some (.bool true) from fun w h => h.ntk 0 _ rfl (by omega) 3 (by omega))
          have G2 := hid (show ∀ w, Fb w G 342 (ntf [⟨0, 0, p.v, true, false, zEn, p⟩]) → w.cell? ⟨G, 2, none⟩ = some (.int .i64 pv) from fun w h => by rw [← HPV.out]; exact h.ntk 0 _ rfl (by omega) 2 (by omega))
          clear hlc hH hC hrow U0 hg hF
          have kb : decide (pv ≤ m_) = false := by simp; omega
          go_simp
          go_upto_region 15 with (fail)
          refine wp_region_held_drew (S := fun (w' : World) => HS [] W w' (thB G 342 (ntf [⟨0, 0, p.v, true, false, zEn, p⟩]) :: [thB E 3 (fun j => .int .i64 (lf j)), thH b c m n (hM p f), thB P 330 (pc p)])) (by kernel_rfl) ?_ (fun hHeld => ?_)
          · exact U5.out.drew
          refine tk 0 (v := ?_) rfl (by kernel_rfl) (by kernel_rfl) (by kernel_rfl) (fun _ _ _ h => h) rfl ?_ hHeld ?_; rotate_left; (focus (intro w hSw; (try dsimp only at hSw);  go_simp; (try with_reducible rfl))); (try simp only [Act.put, List.setIfInBounds_toArray, List.set_cons_zero, List.set_cons_succ])
          refine tk 1 (v := ?_) rfl (by kernel_rfl) (by kernel_rfl) (by kernel_rfl) (fun _ _ _ h => h) rfl ?_ hHeld ?_; rotate_left; (focus (intro w hSw; (try dsimp only at hSw);  go_simp; (try with_reducible rfl))); (try simp only [Act.put, List.setIfInBounds_toArray, List.set_cons_zero, List.set_cons_succ])
          refine tk 2 (v := ?_) rfl (by kernel_rfl) (by kernel_rfl) (by kernel_rfl) (fun _ _ _ h => h) rfl ?_ hHeld ?_; rotate_left; (focus (intro w hSw; (try dsimp only at hSw);  go_simp; (try with_reducible rfl))); (try simp only [Act.put, List.setIfInBounds_toArray, List.set_cons_zero, List.set_cons_succ])
          refine tk 3 (v := ?_) rfl (by kernel_rfl) (by kernel_rfl) (by kernel_rfl) (fun _ _ _ h => h) rfl ?_ hHeld ?_; rotate_left; (focus (intro w hSw; (try dsimp only at hSw);  go_simp; (try with_reducible rfl))); (try simp only [Act.put, List.setIfInBounds_toArray, List.set_cons_zero, List.set_cons_succ])
          refine tk 4 (v := ?_) rfl (by kernel_rfl) (by kernel_rfl) (by kernel_rfl) (fun _ _ _ h => h) rfl ?_ hHeld ?_; rotate_left; (focus (intro w hSw; (try dsimp only at hSw);  go_simp; (try with_reducible rfl))); (try simp only [Act.put, List.setIfInBounds_toArray, List.set_cons_zero, List.set_cons_succ])
          refine tk 5 (v := ?_) rfl (by kernel_rfl) (by kernel_rfl) (by kernel_rfl) (fun _ _ _ h => h) rfl ?_ hHeld ?_; rotate_left; (focus (intro w hSw; (try dsimp only at hSw); have x0 := cp.out _ (hSw.fb 3 rfl); go_simp; (try with_reducible rfl))); (try simp only [Act.put, List.setIfInBounds_toArray, List.set_cons_zero, List.set_cons_succ])
          refine tk 6 (v := ?_) rfl (by kernel_rfl) (by kernel_rfl) (by kernel_rfl) (fun _ _ _ h => h) rfl ?_ hHeld ?_; rotate_left; (focus (intro w hSw; (try dsimp only at hSw);  go_simp; (try with_reducible rfl))); (try simp only [Act.put, List.setIfInBounds_toArray, List.set_cons_zero, List.set_cons_succ])
          refine tk 7 (v := ?_) rfl (by kernel_rfl) (by kernel_rfl) (by kernel_rfl) (fun _ _ _ h => h) rfl ?_ hHeld ?_; rotate_left; (focus (intro w hSw; (try dsimp only at hSw);  go_simp; (try with_reducible rfl))); (try simp only [Act.put, List.setIfInBounds_toArray, List.set_cons_zero, List.set_cons_succ])
          refine tk 8 (v := ?_) rfl (by kernel_rfl) (by kernel_rfl) (by kernel_rfl) (fun _ _ _ h => h) rfl ?_ hHeld ?_; rotate_left; (focus (intro w hSw; (try dsimp only at hSw);  go_simp; (try with_reducible rfl))); (try simp only [Act.put, List.setIfInBounds_toArray, List.set_cons_zero, List.set_cons_succ])
          refine tk 9 (v := ?_) rfl (by kernel_rfl) (by kernel_rfl) (by kernel_rfl) (fun _ _ _ h => h) rfl ?_ hHeld ?_; rotate_left; (focus (intro w hSw; (try dsimp only at hSw);  go_simp; (try with_reducible rfl))); (try simp only [Act.put, List.setIfInBounds_toArray, List.set_cons_zero, List.set_cons_succ])
          refine tk 10 (v := ?_) rfl (by kernel_rfl) (by kernel_rfl) (by kernel_rfl) (fun _ _ _ h => h) rfl ?_ hHeld ?_; rotate_left; (focus (intro w hSw; (try dsimp only at hSw);  go_simp; (try with_reducible rfl))); (try simp only [Act.put, List.setIfInBounds_toArray, List.set_cons_zero, List.set_cons_succ])
          refine tk 11 (v := ?_) rfl (by kernel_rfl) (by kernel_rfl) (by kernel_rfl) (fun _ _ _ h => h) rfl ?_ hHeld ?_; rotate_left; (focus (intro w hSw; (try dsimp only at hSw);  go_simp; (try with_reducible rfl))); (try simp only [Act.put, List.setIfInBounds_toArray, List.set_cons_zero, List.set_cons_succ])
          refine tk 12 (v := ?_) rfl (by kernel_rfl) (by kernel_rfl) (by kernel_rfl) (fun _ _ _ h => h) rfl ?_ hHeld ?_; rotate_left; (focus (intro w hSw; (try dsimp only at hSw);  go_simp; (try with_reducible rfl))); (try simp only [Act.put, List.setIfInBounds_toArray, List.set_cons_zero, List.set_cons_succ])
          refine tk 13 (v := ?_) rfl (by kernel_rfl) (by kernel_rfl) (by kernel_rfl) (fun _ _ _ h => h) rfl ?_ hHeld ?_; rotate_left; (focus (intro w hSw; (try dsimp only at hSw);  go_simp; (try with_reducible rfl))); (try simp only [Act.put, List.setIfInBounds_toArray, List.set_cons_zero, List.set_cons_succ])
          refine tk 14 (v := ?_) rfl (by kernel_rfl) (by kernel_rfl) (by kernel_rfl) (fun _ _ _ h => h) rfl ?_ hHeld ?_; rotate_left; (focus (intro w hSw; (try dsimp only at hSw);  go_simp; (try with_reducible rfl))); (try simp only [Act.put, List.setIfInBounds_toArray, List.set_cons_zero, List.set_cons_succ])
          refine tk 15 (v := ?_) rfl (by kernel_rfl) (by kernel_rfl) (by kernel_rfl) (fun _ _ _ h => h) rfl ?_ hHeld ?_; rotate_left; (focus (intro w hSw; (try dsimp only at hSw);  go_simp; (try with_reducible rfl))); (try simp only [Act.put, List.setIfInBounds_toArray, List.set_cons_zero, List.set_cons_succ])
          refine tk 16 (v := ?_) rfl (by kernel_rfl) (by kernel_rfl) (by kernel_rfl) (fun _ _ _ h => h) rfl ?_ hHeld ?_; rotate_left; (focus (intro w hSw; (try dsimp only at hSw); have x0 := G3.out _ (hSw.fb 0 rfl); go_simp; (try with_reducible rfl))); (try simp only [Act.put, List.setIfInBounds_toArray, List.set_cons_zero, List.set_cons_succ])
          refine tk 17 (v := ?_) rfl (by kernel_rfl) (by kernel_rfl) (by kernel_rfl) (fun _ _ _ h => h) rfl ?_ hHeld ?_; rotate_left; (focus (intro w hSw; (try dsimp only at hSw);  go_simp; (try with_reducible rfl))); (try simp only [Act.put, List.setIfInBounds_toArray, List.set_cons_zero, List.set_cons_succ])
          refine tk 18 (v := ?_) rfl (by kernel_rfl) (by kernel_rfl) (by kernel_rfl) (fun _ _ _ h => h) rfl ?_ hHeld ?_; rotate_left; (focus (intro w hSw; (try dsimp only at hSw);  go_simp; (try with_reducible rfl))); (try simp only [Act.put, List.setIfInBounds_toArray, List.set_cons_zero, List.set_cons_succ])
          refine tk 19 (v := ?_) rfl (by kernel_rfl) (by kernel_rfl) (by kernel_rfl) (fun _ _ _ h => h) rfl ?_ hHeld ?_; rotate_left; (focus (intro w hSw; (try dsimp only at hSw);  go_simp; (try with_reducible rfl))); (try simp only [Act.put, List.setIfInBounds_toArray, List.set_cons_zero, List.set_cons_succ])
          refine tk 20 (v := ?_) rfl (by kernel_rfl) (by kernel_rfl) (by kernel_rfl) (fun _ _ _ h => h) rfl ?_ hHeld ?_; rotate_left; (focus (intro w hSw; (try dsimp only at hSw);  go_simp; (try with_reducible rfl))); (try simp only [Act.put, List.setIfInBounds_toArray, List.set_cons_zero, List.set_cons_succ])
          refine tk 21 (v := ?_) rfl (by kernel_rfl) (by kernel_rfl) (by kernel_rfl) (fun _ _ _ h => h) rfl ?_ hHeld ?_; rotate_left; (focus (intro w hSw; (try dsimp only at hSw); have x0 := G2.out _ (hSw.fb 0 rfl); go_simp; (try with_reducible rfl))); (try simp only [Act.put, List.setIfInBounds_toArray, List.set_cons_zero, List.set_cons_succ])
          refine tk 22 (v := ?_) rfl (by kernel_rfl) (by kernel_rfl) (by kernel_rfl) (fun _ _ _ h => h) rfl ?_ hHeld ?_; rotate_left; (focus (intro w hSw; (try dsimp only at hSw);  go_simp; (try with_reducible rfl))); (try simp only [Act.put, List.setIfInBounds_toArray, List.set_cons_zero, List.set_cons_succ])
          refine tk 23 (v := ?_) rfl (by kernel_rfl) (by kernel_rfl) (by kernel_rfl) (fun _ _ _ h => h) rfl ?_ hHeld ?_; rotate_left; (focus (intro w hSw; (try dsimp only at hSw); have x0 := cp.out _ (hSw.fb 3 rfl); go_simp; (try with_reducible rfl))); (try simp only [Act.put, List.setIfInBounds_toArray, List.set_cons_zero, List.set_cons_succ])
          refine tk 24 (v := ?_) rfl (by kernel_rfl) (by kernel_rfl) (by kernel_rfl) (fun _ _ _ h => h) rfl ?_ hHeld ?_; rotate_left; (focus (intro w hSw; (try dsimp only at hSw);  go_simp; (try with_reducible rfl))); (try simp only [Act.put, List.setIfInBounds_toArray, List.set_cons_zero, List.set_cons_succ])
          refine tk 25 (v := ?_) rfl (by kernel_rfl) (by kernel_rfl) (by kernel_rfl) (fun _ _ _ h => h) rfl ?_ hHeld ?_; rotate_left; (focus (intro w hSw; (try dsimp only at hSw);  go_simp; (try with_reducible rfl))); (try simp only [Act.put, List.setIfInBounds_toArray, List.set_cons_zero, List.set_cons_succ])
          refine tk 26 (v := ?_) rfl (by kernel_rfl) (by kernel_rfl) (by kernel_rfl) (fun _ _ _ h => h) rfl ?_ hHeld ?_; rotate_left; (focus (intro w hSw; (try dsimp only at hSw);  go_simp; (try with_reducible rfl))); (try simp only [Act.put, List.setIfInBounds_toArray, List.set_cons_zero, List.set_cons_succ])
          refine tk 27 (v := ?_) rfl (by kernel_rfl) (by kernel_rfl) (by kernel_rfl) (fun _ _ _ h => h) rfl ?_ hHeld ?_; rotate_left; (focus (intro w hSw; (try dsimp only at hSw);  go_simp; (try with_reducible rfl))); (try simp only [Act.put, List.setIfInBounds_toArray, List.set_cons_zero, List.set_cons_succ])
          refine tk 28 (v := ?_) rfl (by kernel_rfl) (by kernel_rfl) (by kernel_rfl) (fun _ _ _ h => h) rfl ?_ hHeld ?_; rotate_left; (focus (intro w hSw; (try dsimp only at hSw);  go_simp; (try with_reducible rfl))); (try simp only [Act.put, List.setIfInBounds_toArray, List.set_cons_zero, List.set_cons_succ])
          have B9 := hid hHeld.bl
          clear hHeld U5
          refine wpAnyH_done (by kernel_rfl) ?_ _
          go_wp2_with fail
          go_ret
          exact ⟨rfl, B9.out⟩
        · refine (send_fa (U0.out.nth 1 rfl : HeadAt _ b c m n (hM p f)) (show (1 : Nat) ≤ 16 by omega) (HQ.out.pb (by omega)) (by rw [sM]; exact ⟨HQ.out.1.1, Int.le_trans HQ.out.1.2 (by omega)⟩) (hM p f) [] (sM p f) (nM0 p f m_ HF.out (by rw [HPV.out]; exact hml))).mono ?_
          rintro x w9 ⟨A9, cc9, rfl, hlc, hH, hC, hrow⟩
          have U5 : Hid (HS [] W w9 [thB E 3 (fun j => .int .i64 (lf j)), thH b c m n (hM p f), thB P 330 (pc p)]) := hid (HS.upd (A := [thB E 3 (fun j => .int .i64 (lf j))]) (B := [thB P 330 (pc p)]) U0.out (thH b c m n (hM p f)) rfl hC hH)
          clear hlc hH hC hrow U0
          have kb : decide (pv ≤ m_) = true := by simp; omega
          go_simp
          go_upto_region 15 with (fail)
          refine wp_region_held_drew (S := fun (w' : World) => HS [] W w' [thB E 3 (fun j => .int .i64 (lf j)), thH b c m n (hM p f), thB P 330 (pc p)]) (by kernel_rfl) ?_ (fun hHeld => ?_)
          · exact U5.out.drew
          refine tk 0 (v := ?_) rfl (by kernel_rfl) (by kernel_rfl) (by kernel_rfl) (fun _ _ _ h => h) rfl ?_ hHeld ?_; rotate_left; (focus (intro w hSw; (try dsimp only at hSw);  go_simp; (try with_reducible rfl))); (try simp only [Act.put, List.setIfInBounds_toArray, List.set_cons_zero, List.set_cons_succ])
          refine tk 1 (v := ?_) rfl (by kernel_rfl) (by kernel_rfl) (by kernel_rfl) (fun _ _ _ h => h) rfl ?_ hHeld ?_; rotate_left; (focus (intro w hSw; (try dsimp only at hSw);  go_simp; (try with_reducible rfl))); (try simp only [Act.put, List.setIfInBounds_toArray, List.set_cons_zero, List.set_cons_succ])
          refine tk 2 (v := ?_) rfl (by kernel_rfl) (by kernel_rfl) (by kernel_rfl) (fun _ _ _ h => h) rfl ?_ hHeld ?_; rotate_left; (focus (intro w hSw; (try dsimp only at hSw);  go_simp; (try with_reducible rfl))); (try simp only [Act.put, List.setIfInBounds_toArray, List.set_cons_zero, List.set_cons_succ])
          refine tk 3 (v := ?_) rfl (by kernel_rfl) (by kernel_rfl) (by kernel_rfl) (fun _ _ _ h => h) rfl ?_ hHeld ?_; rotate_left; (focus (intro w hSw; (try dsimp only at hSw);  go_simp; (try with_reducible rfl))); (try simp only [Act.put, List.setIfInBounds_toArray, List.set_cons_zero, List.set_cons_succ])
          refine tk 4 (v := ?_) rfl (by kernel_rfl) (by kernel_rfl) (by kernel_rfl) (fun _ _ _ h => h) rfl ?_ hHeld ?_; rotate_left; (focus (intro w hSw; (try dsimp only at hSw);  go_simp; (try with_reducible rfl))); (try simp only [Act.put, List.setIfInBounds_toArray, List.set_cons_zero, List.set_cons_succ])
          refine tk 5 (v := ?_) rfl (by kernel_rfl) (by kernel_rfl) (by kernel_rfl) (fun _ _ _ h => h) rfl ?_ hHeld ?_; rotate_left; (focus (intro w hSw; (try dsimp only at hSw); have x0 := cp.out _ (hSw.fb 2 rfl); go_simp; (try with_reducible rfl))); (try simp only [Act.put, List.setIfInBounds_toArray, List.set_cons_zero, List.set_cons_succ])
          refine tk 6 (v := ?_) rfl (by kernel_rfl) (by kernel_rfl) (by kernel_rfl) (fun _ _ _ h => h) rfl ?_ hHeld ?_; rotate_left; (focus (intro w hSw; (try dsimp only at hSw);  go_simp; (try with_reducible rfl))); (try simp only [Act.put, List.setIfInBounds_toArray, List.set_cons_zero, List.set_cons_succ])
          refine tk 7 (v := ?_) rfl (by kernel_rfl) (by kernel_rfl) (by kernel_rfl) (fun _ _ _ h => h) rfl ?_ hHeld ?_; rotate_left; (focus (intro w hSw; (try dsimp only at hSw);  go_simp; (try with_reducible rfl))); (try simp only [Act.put, List.setIfInBounds_toArray, List.set_cons_zero, List.set_cons_succ])
          refine tk 8 (v := ?_) rfl (by kernel_rfl) (by kernel_rfl) (by kernel_rfl) (fun _ _ _ h => h) rfl ?_ hHeld ?_; rotate_left; (focus (intro w hSw; (try dsimp only at hSw);  go_simp; (try with_reducible rfl))); (try simp only [Act.put, List.setIfInBounds_toArray, List.set_cons_zero, List.set_cons_succ])
          refine tk 9 (v := ?_) rfl (by kernel_rfl) (by kernel_rfl) (by kernel_rfl) (fun _ _ _ h => h) rfl ?_ hHeld ?_; rotate_left; (focus (intro w hSw; (try dsimp only at hSw);  go_simp; (try with_reducible rfl))); (try simp only [Act.put, List.setIfInBounds_toArray, List.set_cons_zero, List.set_cons_succ])
          refine tk 10 (v := ?_) rfl (by kernel_rfl) (by kernel_rfl) (by kernel_rfl) (fun _ _ _ h => h) rfl ?_ hHeld ?_; rotate_left; (focus (intro w hSw; (try dsimp only at hSw);  go_simp; (try with_reducible rfl))); (try simp only [Act.put, List.setIfInBounds_toArray, List.set_cons_zero, List.set_cons_succ])
          refine tk 11 (v := ?_) rfl (by kernel_rfl) (by kernel_rfl) (by kernel_rfl) (fun _ _ _ h => h) rfl ?_ hHeld ?_; rotate_left; (focus (intro w hSw; (try dsimp only at hSw);  go_simp; (try with_reducible rfl))); (try simp only [Act.put, List.setIfInBounds_toArray, List.set_cons_zero, List.set_cons_succ])
          refine tk 12 (v := ?_) rfl (by kernel_rfl) (by kernel_rfl) (by kernel_rfl) (fun _ _ _ h => h) rfl ?_ hHeld ?_; rotate_left; (focus (intro w hSw; (try dsimp only at hSw);  go_simp; (try with_reducible rfl))); (try simp only [Act.put, List.setIfInBounds_toArray, List.set_cons_zero, List.set_cons_succ])
          refine tu 13 rfl (by kernel_rfl) (by kernel_rfl) (by kernel_rfl) (fun _ _ _ h => h) rfl hHeld ?_; (try simp only [Act.put, List.setIfInBounds_toArray, List.set_cons_zero, List.set_cons_succ])
          refine tu 14 rfl (by kernel_rfl) (by kernel_rfl) (by kernel_rfl) (fun _ _ _ h => h) rfl hHeld ?_; (try simp only [Act.put, List.setIfInBounds_toArray, List.set_cons_zero, List.set_cons_succ])
          refine tu 15 rfl (by kernel_rfl) (by kernel_rfl) (by kernel_rfl) (fun _ _ _ h => h) rfl hHeld ?_; (try simp only [Act.put, List.setIfInBounds_toArray, List.set_cons_zero, List.set_cons_succ])
          refine tu 16 rfl (by kernel_rfl) (by kernel_rfl) (by kernel_rfl) (fun _ _ _ h => h) rfl hHeld ?_; (try simp only [Act.put, List.setIfInBounds_toArray, List.set_cons_zero, List.set_cons_succ])
          refine tu 17 rfl (by kernel_rfl) (by kernel_rfl) (by kernel_rfl) (fun _ _ _ h => h) rfl hHeld ?_; (try simp only [Act.put, List.setIfInBounds_toArray, List.set_cons_zero, List.set_cons_succ])
          refine tu 18 rfl (by kernel_rfl) (by kernel_rfl) (by kernel_rfl) (fun _ _ _ h => h) rfl hHeld ?_; (try simp only [Act.put, List.setIfInBounds_toArray, List.set_cons_zero, List.set_cons_succ])
          refine tu 19 rfl (by kernel_rfl) (by kernel_rfl) (by kernel_rfl) (fun _ _ _ h => h) rfl hHeld ?_; (try simp only [Act.put, List.setIfInBounds_toArray, List.set_cons_zero, List.set_cons_succ])
          refine tu 20 rfl (by kernel_rfl) (by kernel_rfl) (by kernel_rfl) (fun _ _ _ h => h) rfl hHeld ?_; (try simp only [Act.put, List.setIfInBounds_toArray, List.set_cons_zero, List.set_cons_succ])
          refine tu 21 rfl (by kernel_rfl) (by kernel_rfl) (by kernel_rfl) (fun _ _ _ h => h) rfl hHeld ?_; (try simp only [Act.put, List.setIfInBounds_toArray, List.set_cons_zero, List.set_cons_succ])
          refine tu 22 rfl (by kernel_rfl) (by kernel_rfl) (by kernel_rfl) (fun _ _ _ h => h) rfl hHeld ?_; (try simp only [Act.put, List.setIfInBounds_toArray, List.set_cons_zero, List.set_cons_succ])
          refine tu 23 rfl (by kernel_rfl) (by kernel_rfl) (by kernel_rfl) (fun _ _ _ h => h) rfl hHeld ?_; (try simp only [Act.put, List.setIfInBounds_toArray, List.set_cons_zero, List.set_cons_succ])
          refine tu 24 rfl (by kernel_rfl) (by kernel_rfl) (by kernel_rfl) (fun _ _ _ h => h) rfl hHeld ?_; (try simp only [Act.put, List.setIfInBounds_toArray, List.set_cons_zero, List.set_cons_succ])
          refine tu 25 rfl (by kernel_rfl) (by kernel_rfl) (by kernel_rfl) (fun _ _ _ h => h) rfl hHeld ?_; (try simp only [Act.put, List.setIfInBounds_toArray, List.set_cons_zero, List.set_cons_succ])
          refine tk 26 (v := ?_) rfl (by kernel_rfl) (by kernel_rfl) (by kernel_rfl) (fun _ _ _ h => h) rfl ?_ hHeld ?_; rotate_left; (focus (intro w hSw; (try dsimp only at hSw);  go_simp; (try with_reducible rfl))); (try simp only [Act.put, List.setIfInBounds_toArray, List.set_cons_zero, List.set_cons_succ])
          refine tk 27 (v := ?_) rfl (by kernel_rfl) (by kernel_rfl) (by kernel_rfl) (fun _ _ _ h => h) rfl ?_ hHeld ?_; rotate_left; (focus (intro w hSw; (try dsimp only at hSw);  go_simp; (try with_reducible rfl))); (try simp only [Act.put, List.setIfInBounds_toArray, List.set_cons_zero, List.set_cons_succ])
          refine tk 28 (v := ?_) rfl (by kernel_rfl) (by kernel_rfl) (by kernel_rfl) (fun _ _ _ h => h) rfl ?_ hHeld ?_; rotate_left; (focus (intro w hSw; (try dsimp only at hSw);  go_simp; (try with_reducible rfl))); (try simp only [Act.put, List.setIfInBounds_toArray, List.set_cons_zero, List.set_cons_succ])
          have B9 := hid hHeld.bl
          clear hHeld U5
          refine wpAnyH_done (by kernel_rfl) ?_ _
          go_wp2_with fail
          go_ret
          exact ⟨rfl, B9.out⟩

set_option maxRecDepth 100000 in
theorem lifted (os : Os) (started : os.Started) (H : Type) (enc : TypeId × Value → H) :
    ReturnsInHanded {} Try.checked os 9 .any (Rows.headLateSpec.pre6 enc Try.prog Try.f9 [] false) (Rows.headLateSpec.post enc Try.prog Try.f9 false true false false) :=
  law_step (s := Rows.headLateSpec) started (by kernel_rfl) Try.func9
    (ChangeSpec.witness6 (s := Rows.headLateSpec) (enc := enc) (C := Try.checked) false ⟨#[], #[.slice none 0 0, .int .i64 0, .int .i64 0, .int .i64 0], []⟩ 8 (by kernel_rfl) (by kernel_rfl) (by kernel_rfl) (by kernel_rfl))
    rfl (by rw [Try.params9]; decide +kernel) rfl Try.underlying4
    (fun ds h => by
      rw [Try.params9] at h
      match ds, h with
      | [_, _, _, _], _ => rfl)
    (fun W base args ds ps hval hA hsz => by
      rw [Try.params9] at hA hval hsz
      obtain ⟨v0, vs0, d0, ds0, p0, q0, hargs, rfl, rfl, h0, r0⟩ := trodAll_cons hA
      obtain ⟨v1, vs1, d1, ds1, p1, q1, rfl, rfl, rfl, h1, r1⟩ := trodAll_cons r0
      obtain ⟨v2, vs2, d2, ds2, p2, q2, rfl, rfl, rfl, h2, r2⟩ := trodAll_cons r1
      obtain ⟨v3, vs3, d3, ds3, p3, q3, rfl, rfl, rfl, h3, r3⟩ := trodAll_cons r2
      obtain ⟨rfl, rfl, rfl⟩ := trodAll_nil r3
      obtain rfl : args = #[v0, v1, v2, v3] := by cases args; simp_all
      obtain ⟨A0, n0, c0, g0, rfl, hn0, hc0, hs0, hw0, hl0, hd0⟩ := open_row Try.underlying22 Try.underlying3 (by kernel_rfl) (hval 0 22 v0 rfl rfl) h0
      have re0 : c0 * 8 ≤ 140737488351232 := by
        rcases hd0 with ⟨_, h0⟩ | ⟨xs, ys, h1, h2⟩
        · omega
        · have := sized_slice hsz (j := 0) (t := 22) (e := 3) rfl (by rw [h1]; rfl) Try.underlying22
          rw [h2, show Try.prog.bytesOf 3 = 8 from by kernel_rfl] at this
          simpa [reachBytes] using this
      obtain ⟨a1, rfl, rfl, rfl, w1⟩ := open_int Try.underlying3 (hval 1 3 v1 rfl rfl) h1
      obtain ⟨a2, rfl, rfl, rfl, w2⟩ := open_int Try.underlying3 (hval 2 3 v2 rfl rfl) h2
      obtain ⟨a3, rfl, rfl, rfl, w3⟩ := open_int Try.underlying3 (hval 3 3 v3 rfl rfl) h3
      exact walk W A0 n0 c0 g0 hn0 hc0 hs0 (fun j => bounds_i64 (hw0 j)) hl0 re0 a1 (bounds_i64 w1) a2 (bounds_i64 w2) a3 (bounds_i64 w3))

theorem proved : Rows.HeadLateSaid :=
  OpenClaim.holds_of_wide 9 Try.f9 rfl rfl rfl rfl rfl rfl rfl ⟨rfl, rfl, rfl, rfl, rfl⟩ rfl rfl rfl rfl rfl (by kernel_rfl) Try.func9 (by kernel_rfl)
    (of_decide_eq_true (by kernel_rfl)) (by unfold Func.isWrapper; first | (rw [if_pos (by decide +kernel)]; kernel_rfl) | (rw [if_neg (by decide +kernel)]; exact ⟨rfl, rfl⟩))
    (fun os started H enc _ => lifted os started H enc)
end Go.Proofs.Ytppcanaelagfmaa.headLate
