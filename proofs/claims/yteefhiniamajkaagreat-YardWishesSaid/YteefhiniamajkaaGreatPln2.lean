/- Version, Crash, Load of a plane. -/
import Derived.Test.YteefhiniamajkaaGreatPln
import Derived.BigQuiet
import Derived.Deep.RegionHeld3
import Derived.Deep.Cut
import Derived.IntWalk
namespace Go.Proofs.YteefhiniamajkaaGreat
set_option linter.unusedVariables false
set_option linter.unusedSimpArgs false
open Go.RowKit Go.ChangeShapes Go.WideShapes Go.ChangeAt
section
variable {S : List Nat} {W w w' : World} {L A B : List Th} {a b t t' : Th}
/-- A new thing becomes part of one that is there. -/
theorem HS.absorb (h : HS S W w (a :: (A ++ t :: B))) (t' : Th) (hn : t'.bs.Nodup) (hbs : ∀ x, x ∈ t'.bs → x ∈ a.bs ++ t.bs) (hc : Ch (a.bs ++ t.bs) w w') (ht : t'.at_ w') : HS S W w' (A ++ t' :: B) := by
  let g : Th := ⟨fun w => a.at_ w ∧ t.at_ w, a.bs ++ t.bs, fun w w' h e => ⟨a.keep w w' h.1 fun b hb => e b (List.mem_append.2 (.inl hb)), t.keep w w' h.2 fun b hb => e b (List.mem_append.2 (.inr hb))⟩, fun w h b hb => by
    rcases List.mem_append.1 hb with hb | hb
    · exact a.lt w h.1 b hb
    · exact t.lt w h.2 b hb⟩
  have h1 : HS S W w (a :: t :: (A ++ B)) := h.perm (List.Perm.cons a List.perm_middle)
  have h2 : HS S W w (g :: (A ++ B)) := h1.join2 g rfl ⟨h1.1 a (by simp), h1.1 t (by simp)⟩
  have h3 : HS S W w' (t' :: (A ++ B)) := HS.updG (A := []) h2 t' hn (fun x hx => .inl (hbs x hx)) hc ht
  exact h3.perm List.perm_middle.symm
end
theorem fa2 (x y : Value) : Value.agg #[x, y] = .agg (FA 2 (fun j => if j = 0 then x else y)) := rfl
theorem info_maybe : (Tryz.prog.info? 139).map (·.size) = some 2 := by kernel_rfl
theorem zero_maybe (w : World) : (zeroValue 139).run Tryz.prog w = .ok (.agg (FA 2 (fun j => if j = 0 then .pointer none else .bool false))) w := by kernel_rfl
theorem PlnAt.fb {w : World} {pb sb : Nat} {p : Pl} {up : Bool} (h : PlnAt w pb sb p up) : ∃ nr, Fb w pb 130 (plc (stA sb up) up nr) := h.1
theorem pl_now (A A' : Option Addr) (up up' : Bool) (nr : Nat → Value) (j : Nat) (hj : j < 130) : patch (plc A up nr) 0 2 (fun j => if j = 0 then .pointer A' else .bool up') j = plc A' up' nr j := by
  unfold patch plc
  rcases j with _ | _ | j
  · rfl
  · rfl
  · rw [if_neg (by omega), if_neg (by omega), if_neg (by omega), if_neg (by omega), if_neg (by omega)]
theorem plc_one (j : Nat) : (plc none false nr0 j).oneCell' = true := by
  unfold plc nr0
  split
  · rfl
  · split
    · rfl
    · split <;> rfl
attribute [local irreducible] FA FL
theorem plane_ver {w : World} {pb sb : Nat} {p : Pl} {up : Bool} (h : PlnAt w pb sb p up) : Calls Tryz.prog 50 #[.pointer (some ⟨pb, 0, none⟩)] w fun x w' => x = .returned (.tuple #[.int .i64 (if up = true then p.v else 0), .bool up]) ∧ Below w.heap.size w w' := by
  obtain ⟨⟨nr, hF⟩, hs⟩ := h
  have c1 : w.cell? ⟨pb, 1, none⟩ = some (.bool up) := hF.2.1 1 (by omega)
  cases up
  · have c0 : w.cell? ⟨pb, 0, none⟩ = some (.pointer none) := hF.2.1 0 (by omega)
    clear hF hs
    go_enter Tryz.func50, Tryz.ntmps50
    go_wp2_with fail
    refine (get_any none false _).mono ?_
    rintro x w1 ⟨rfl, hb⟩
    have HB := hid hb
    clear hb c0 c1
    go_simp
    go_wp2_with fail
    go_ret2
    exact ⟨rfl, HB.out⟩
  · obtain ⟨r, hs⟩ := hs rfl
    have HS2 := hid hs
    have c0 : w.cell? ⟨pb, 0, none⟩ = some (.pointer (some ⟨sb, 0, none⟩)) := hF.2.1 0 (by omega)
    clear hF hs
    go_enter Tryz.func50, Tryz.ntmps50
    go_wp2_with fail
    refine (get_any (some ⟨sb, 0, none⟩) true _).mono ?_
    rintro x w1 ⟨rfl, hb⟩
    have HB := hid hb
    have s0 : w1.cell? ⟨sb, 0, none⟩ = some (.int .i64 p.v) := (HS2.out.below hb).2.1 0 (by omega)
    clear hb c0 c1
    go_simp
    go_wp2_with fail
    go_ret2
    exact ⟨rfl, HB.out⟩
set_option maxRecDepth 100000 in
theorem some_any (A : Option Addr) (w : World) : Calls Tryz.prog 91 #[.pointer A] w fun x w' => x = .returned (.agg #[.pointer A, .bool true]) ∧ Below w.heap.size w w' := by
  rw [fa2]
  have S0 : Hid (HS [] w w []) := hid HS.start
  go_enter Tryz.func91, Tryz.ntmps91
  go_upto_region 0 with (fail)
  apply wp_region_lit
  refine wl_ow rfl (ow_alloc rfl (zero_maybe _) (by omega) S0.out ?_)
  intro U w1 hZ _
  have S1 := hid hZ
  clear hZ S0
  try simp only [Act.put, List.setIfInBounds_toArray, List.set_cons_zero, List.set_cons_succ]
  go_upto_region 1 with (fail)
  apply wp_region_lit
  refine wl_val (v := ?_) rfl ?_ ?_; rotate_left; (focus ( go_simp; (try with_reducible rfl))); (try simp only [Act.put, List.setIfInBounds_toArray, List.set_cons_zero, List.set_cons_succ])
  refine wl_val (v := ?_) rfl ?_ ?_; rotate_left; (focus ( go_simp; (try with_reducible rfl))); (try simp only [Act.put, List.setIfInBounds_toArray, List.set_cons_zero, List.set_cons_succ])
  refine wl_ow rfl (ow_store (A := []) 0 2 (fun j => if j = 0 then .pointer A else .bool true) (fun j => if j = 0 then .pointer A else .bool true) rfl rfl (fa2 _ _) S1.out (by omega) (fun j hj => patch_all _ _ _ j hj) info_maybe (fun j => by split <;> rfl) ?_)
  intro w2 hZ
  have S2 := hid hZ
  clear hZ S1
  try simp only [Act.put, List.setIfInBounds_toArray, List.set_cons_zero, List.set_cons_succ]
  refine end_then ?_
  apply_assumption
  refine wp_ret ?_
  (repeat refine ret_then ?_)
  (show bodyPost _ _ _ _ _ _)
  exact bodyPost_ret (v := .agg (FA 2 (fun j => if j = 0 then .pointer A else .bool true))) (results_cell1 Tryz.results91 _ rfl (S2.out.fb 0 rfl) Tryz.underlying139 rfl info_maybe) rfl ⟨rfl, S2.out.bl⟩
theorem PlnAt.crash {w : World} {pb sb : Nat} {p : Pl} {up : Bool} (h : PlnAt w pb sb p up) : (Instr.storeAt 144 (.pointer (some ⟨pb, 0, none⟩)) (.agg (FA 130 (plc none false nr0)))).run Tryz.prog w = .ok () (w.setCells pb 0 (FL 130 (plc none false nr0))) ∧ PlnAt (w.setCells pb 0 (FL 130 (plc none false nr0))) pb 0 zPl false := by
  obtain ⟨⟨nr, hF⟩, hs⟩ := h
  exact ⟨hF.store 0 130 _ (by omega) info_plane plc_one, ⟨nr0, (hF.set 0 130 _ (by omega)).as fun j hj => patch_all _ _ _ j hj⟩, fun h => by cases h⟩
set_option maxRecDepth 100000 in
set_option maxHeartbeats 8000000 in
theorem plane_load {S : List Nat} {W w : World} {A B : List Th} {pb sb : Nat} {p : Pl} {up : Bool} (hS : HS S W w (A ++ thP pb sb p up :: B)) (q : Pl) (hq : Pw q) : Calls Tryz.prog 88 #[.pointer (some ⟨pb, 0, none⟩), .agg (FA 330 (pc q))] w fun x w' => x = .returned (.tuple #[]) ∧ ∃ sb', HS S W w' (A ++ thP pb sb' q true :: B) := by
  have S0 := hid hS
  clear hS
  go_enter Tryz.func88, Tryz.ntmps88
  go_upto_region 1 with (fail)
  have S1 := hid (S0.out.boxed (n := 330) (T := 33) (pc q))
  generalize w.alloc (.cells (FA 330 (pc q)) 33) = w1 at *
  obtain ⟨X, hX⟩ : ∃ X, X = w.heap.size := ⟨_, rfl⟩
  rw [← hX] at S1 ⊢
  replace hX := hid hX
  clear S0
  refine wp_region_held_drew (S := fun (w' : World) => ∃ sb p up, HS S W w' (thB X 330 (pc q) :: (A ++ thP pb sb p up :: B))) (by kernel_rfl) ?_ (fun hHeld => ?_)
  · exact ⟨_, _, _, S1.out.drew⟩
  have F0 := S1.out.drew
  refine tkq 0 hHeld ?_
  refine tk 1 (v := .agg (FA 330 (pc q))) rfl (by kernel_rfl) (by kernel_rfl) (by kernel_rfl) (fun _ _ _ h => h) rfl (fun w hSw => by obtain ⟨_, _, _, hS⟩ := hSw; exact ex_load rfl rfl ((hS.fb 0 rfl).load 0 330 (pc q) (by omega) (fun j hj => by rw [Nat.zero_add]) Tryz.underlying33 rfl info_pl)) hHeld ?_; (try simp only [Act.put, List.setIfInBounds_toArray, List.set_cons_zero, List.set_cons_succ])
  refine tk 2 (v := .agg (FA 330 (pc q))) rfl (by kernel_rfl) (by kernel_rfl) (by kernel_rfl) (fun _ _ _ h => h) rfl (fun w hSw => by obtain ⟨_, _, _, hS⟩ := hSw; exact ex_load rfl rfl ((hS.fb 0 rfl).load 0 330 (pc q) (by omega) (fun j hj => by rw [Nat.zero_add]) Tryz.underlying33 rfl info_pl)) hHeld ?_; (try simp only [Act.put, List.setIfInBounds_toArray, List.set_cons_zero, List.set_cons_succ])
  refine only 3 rfl (by kernel_rfl) rfl (fun K hK => ?_)
  go_simp
  refine (make_fa7 q hq _).mono ?_
  rintro e' w2 ⟨BW, rfl, hb⟩
  try go_wp2_with fail
  have h2 := F0.below hb
  refine hK.out _ _ (⟨_, _, _, h2⟩) (fun h3 => ?_)
  clear hK
  try simp only [Act.put, List.setIfInBounds_toArray, List.set_cons_zero, List.set_cons_succ]
  clear hb hHeld F0
  refine tk 4 (v := .agg (FA 331 (stc q (.slice (some ⟨BW, 0, none⟩) 127 127)))) rfl (by kernel_rfl) (by kernel_rfl) (by kernel_rfl) (fun _ _ _ h => h) rfl (fun w hSw => ex_build2 rfl rfl rfl (build_stand q BW w)) h3 ?_; (try simp only [Act.put, List.setIfInBounds_toArray, List.set_cons_zero, List.set_cons_succ])
  refine only 5 rfl (by kernel_rfl) rfl (fun K hK => ?_)
  refine ow_box rfl rfl (by omega) h2 (fun SB w3 hN _ => ?_)
  refine hK.out _ _ (⟨_, _, _, hN.tail⟩) (fun h4 => ?_)
  clear hK
  try simp only [Act.put, List.setIfInBounds_toArray, List.set_cons_zero, List.set_cons_succ]
  clear h3 h2
  refine only 6 rfl (by kernel_rfl) rfl (fun K hK => ?_)
  go_simp
  refine (some_any (some ⟨SB, 0, none⟩) _).mono ?_
  rintro e' w4 ⟨rfl, hb⟩
  try go_wp2_with fail
  have hM := hN.below hb
  refine hK.out _ _ (⟨_, _, _, hM.tail⟩) (fun h5 => ?_)
  clear hK
  try simp only [Act.put, List.setIfInBounds_toArray, List.set_cons_zero, List.set_cons_succ]
  clear hb hN h4
  refine tkq 7 h5 ?_
  refine tkq 8 h5 ?_
  refine only 9 rfl (by kernel_rfl) rfl (fun K hK => ?_)
  have hP : PlnAt w4 pb sb p up := hM.1 (thP pb sb p up) (by simp)
  obtain ⟨nr, hF⟩ := hP.fb
  have hB : Fb w4 SB 331 (stc q (.slice (some ⟨BW, 0, none⟩) 127 127)) := hM.fb 0 rfl
  have hne : SB ≠ pb := fun e => by
    subst e
    have h8 := hM.2.2.1
    rw [List.flatMap_cons, List.nodup_append] at h8
    exact h8.2.2 SB (by simp [thB]) SB (List.mem_flatMap.2 ⟨thP SB sb p up, by simp, by simp [thP, plB]; split <;> simp⟩) rfl
  have hS9 : HS S W (w4.setCells pb 0 (FL 2 (fun j => if j = 0 then .pointer (some ⟨SB, 0, none⟩) else .bool true))) ((thB X 330 (pc q) :: A) ++ thP pb SB q true :: B) := by
    refine HS.absorb (A := thB X 330 (pc q) :: A) hM (thP pb SB q true) (by simp [thP, plB, Ne.symm hne]) (fun x hx => ?_) ((Ch.refl _ _).sets (.inl (by simp [thB, thP, plB]; split <;> simp))) ⟨⟨nr, (hF.set 0 2 _ (by omega)).as fun j hj => pl_now _ _ _ _ _ j hj⟩, fun _ => ⟨_, hB.other hne.symm⟩⟩
    simp [thP, plB] at hx
    rcases hx with rfl | rfl
    · simp [thB, thP, plB]; split <;> simp
    · simp [thB]
  refine ov_store rfl rfl rfl (by rw [fa2]; exact hF.store 0 2 _ (by omega) info_maybe (fun j => by split <;> rfl)) ?_
  refine hK.out _ _ (⟨_, _, _, hS9⟩) (fun h6 => ?_)
  clear hK
  try simp only [Act.put, List.setIfInBounds_toArray, List.set_cons_zero, List.set_cons_succ]
  have S9 := hid (HS.tail hS9)
  clear h6 h5 hS9 hM hF hB S1
  refine wpAnyH_done (by kernel_rfl) ?_ _
  go_wp2_with fail
  go_end0
  exact ⟨rfl, SB, S9.out⟩
end Go.Proofs.YteefhiniamajkaaGreat
