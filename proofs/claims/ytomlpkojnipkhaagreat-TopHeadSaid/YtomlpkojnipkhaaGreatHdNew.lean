/- A new head. -/
import Derived.Test.YtomlpkojnipkhaaGreatGa
import Derived.Test.YtomlpkojnipkhaaGreatHdArm
import Derived.BigQuiet
import Derived.Deep.RegionHeld3
import Derived.Deep.Cut
namespace Go.Proofs.YtomlpkojnipkhaaGreat
set_option linter.unusedVariables false
set_option linter.unusedSimpArgs false
open Go.RowKit Go.ChangeShapes Go.WideShapes Go.ChangeAt

theorem upd_next {M : Int → Option Wd} {k : Nat} {x : Wd} (h : ∀ j : Nat, j < k → M j = some x) (j : Nat) (hj : j < k + 1) : hupd M k (some x) j = some x := by
  unfold hupd
  by_cases e : (j : Int) = k
  · rw [if_pos e]
  · rw [if_neg e]; exact h j (by omega)
theorem HS.swap12 {S : List Nat} {W w : World} {L : List Th} {a b c : Th} (h : HS S W w (a :: b :: c :: L)) : HS S W w (a :: c :: b :: L) := by
  obtain ⟨h1, h2, h3, h4⟩ := h
  have hp : (a :: b :: c :: L).Perm (a :: c :: b :: L) := List.Perm.cons a (List.Perm.swap c b L)
  exact ⟨fun t ht => h1 t (hp.mem_iff.2 ht), h2, (hp.flatMap_right _).nodup_iff.1 h3, fun x hx => h4 x ((hp.flatMap_right _).mem_iff.2 hx)⟩
theorem HS.drop3 {S : List Nat} {W w : World} {L : List Th} {a b c t : Th} (h : HS S W w (a :: b :: c :: t :: L)) : HS S W w (a :: b :: c :: L) := HS.drop (A := [a, b, c]) h
theorem HS.own {W w : World} {L : List Th} (h : HS [] W w L) (b : Nat) (hb : b ∈ L.flatMap Th.bs) : W.heap.size ≤ b := by
  rcases h.2.2.2 b hb with h1 | h1
  · cases h1
  · exact h1
/-- A new head lies in blocks of its own. -/
def NewOk (w : World) (p : Pl) (u : Nat) (x : Ending) (w' : World) : Prop := ∃ b c m : Nat, x = .returned (.tuple #[.pointer (some ⟨b, 0, none⟩), .int .i64 0]) ∧ HeadAt w' b c m u (newH p u) ∧ w.heap.size ≤ b ∧ w.heap.size ≤ c ∧ w.heap.size ≤ m ∧ Below w.heap.size w w'
attribute [local irreducible] FA FL
set_option maxRecDepth 100000 in
set_option maxHeartbeats 8000000 in
theorem hnew_ok (p : Pl) (u : Nat) (hu : 1 ≤ u ∧ u ≤ 16) (w : World) : Calls Tryz.prog 40 #[plV p, .int .i64 (u : Int)] w (NewOk w p u) := by
  obtain ⟨hu1, hu2⟩ := hu
  unfold plV
  rw [pa_fa]
  go_enter Tryz.func40, Tryz.ntmps40
  go_upto_region 3 with (fail)
  have S1 := hid ((HS.start (S := []) (W := w)).boxed (n := 330) (T := 33) (pc p))
  generalize w.alloc (.cells (FA 330 (pc p)) 33) = w1 at *
  obtain ⟨A, hA⟩ : ∃ A, A = w.heap.size := ⟨_, rfl⟩
  rw [← hA] at S1 ⊢
  replace hA := hid hA
  go_cut [6] from 14 to 21 (fun x wx => ∃ b c m : Nat, x = .pointer (some ⟨b, 0, none⟩) ∧ HS [] w wx [thB b 670 (hdc p p c zEn (u : Int) m), thM m 0 (fun _ => none), thCh c [], thB A 330 (pc p)])
  case first =>
    refine wp_region_held_drew (S := fun w' => HS [] w w' [thB A 330 (pc p)]) (by kernel_rfl) ?_ (fun hHeld => ?_)
    · exact S1.out.drew
    refine tk 0 (v := .agg (FA 330 (pc p))) rfl (by kernel_rfl) (by kernel_rfl) (by kernel_rfl) (fun _ _ _ h => h) rfl (fun w hSw => ex_load rfl rfl ((hSw.fb 0 rfl).load 0 330 (pc p) (by omega) (fun j hj => by rw [Nat.zero_add]) Tryz.underlying33 rfl info_pl)) hHeld ?_; (try simp only [Act.put, List.setIfInBounds_toArray, List.set_cons_zero, List.set_cons_succ])
    refine tk 1 (v := .agg (FA 330 (pc p))) rfl (by kernel_rfl) (by kernel_rfl) (by kernel_rfl) (fun _ _ _ h => h) rfl (fun w hSw => ex_load rfl rfl ((hSw.fb 0 rfl).load 0 330 (pc p) (by omega) (fun j hj => by rw [Nat.zero_add]) Tryz.underlying33 rfl info_pl)) hHeld ?_; (try simp only [Act.put, List.setIfInBounds_toArray, List.set_cons_zero, List.set_cons_succ])
    refine tkq 3 hHeld ?_
    refine twoUp 2 4 rfl rfl (by kernel_rfl) rfl rfl (fun K hK => ?_) (fun K hK => ?_)
    · refine ow_mkchan rfl rfl hHeld (fun c w' hN _ => ?_)
      refine hK.out _ _ (hN.tail) (fun h1 => ?_)
      clear hK
      try simp only [Act.put, List.setIfInBounds_toArray, List.set_cons_zero, List.set_cons_succ]
      refine only 4 rfl (by kernel_rfl) rfl (fun K hK => ?_)
      refine ow_mkmap rfl hN (fun m w' hN2 _ => ?_)
      refine hK.out _ _ (hN2.tail.tail) (fun h2 => ?_)
      clear hK
      try simp only [Act.put, List.setIfInBounds_toArray, List.set_cons_zero, List.set_cons_succ]
      refine tk 5 (v := .agg (FA 670 (hdc p p c zEn (u : Int) m))) rfl (by kernel_rfl) (by kernel_rfl) (by kernel_rfl) (fun _ _ _ h => h) rfl (fun w hSw => ex_build5 rfl rfl rfl rfl rfl rfl (build_hdF p p c u m w)) h2 ?_; (try simp only [Act.put, List.setIfInBounds_toArray, List.set_cons_zero, List.set_cons_succ])
      refine only 6 rfl (by kernel_rfl) rfl (fun K hK => ?_)
      refine ow_box rfl rfl (by omega) hN2 (fun b w' hB _ => ?_)
      refine hK.out _ _ (hB.tail.tail.tail) (fun hE => ?_)
      clear hK
      try simp only [Act.put, List.setIfInBounds_toArray, List.set_cons_zero, List.set_cons_succ]
      refine tkq 7 hE ?_
      refine wpAnyH_done (by kernel_rfl) ?_ _
      go_wp2_with fail
      go_meet
      exact ⟨b, c, m, rfl, hB⟩
    · refine ow_mkmap rfl hHeld (fun m w' hN _ => ?_)
      refine hK.out _ _ (hN.tail) (fun h1 => ?_)
      clear hK
      try simp only [Act.put, List.setIfInBounds_toArray, List.set_cons_zero, List.set_cons_succ]
      refine only 2 rfl (by kernel_rfl) rfl (fun K hK => ?_)
      refine ow_mkchan rfl rfl hN (fun c w' hN2 _ => ?_)
      refine hK.out _ _ (hN2.tail.tail) (fun h2 => ?_)
      clear hK
      try simp only [Act.put, List.setIfInBounds_toArray, List.set_cons_zero, List.set_cons_succ]
      refine tk 5 (v := .agg (FA 670 (hdc p p c zEn (u : Int) m))) rfl (by kernel_rfl) (by kernel_rfl) (by kernel_rfl) (fun _ _ _ h => h) rfl (fun w hSw => ex_build5 rfl rfl rfl rfl rfl rfl (build_hdF p p c u m w)) h2 ?_; (try simp only [Act.put, List.setIfInBounds_toArray, List.set_cons_zero, List.set_cons_succ])
      refine only 6 rfl (by kernel_rfl) rfl (fun K hK => ?_)
      refine ow_box rfl rfl (by omega) hN2 (fun b w' hB _ => ?_)
      refine hK.out _ _ (hB.tail.tail.tail) (fun hE => ?_)
      clear hK
      try simp only [Act.put, List.setIfInBounds_toArray, List.set_cons_zero, List.set_cons_succ]
      refine tkq 7 hE ?_
      refine wpAnyH_done (by kernel_rfl) ?_ _
      go_wp2_with fail
      go_meet
      exact ⟨b, c, m, rfl, hB.swap12⟩
  case rest =>
    obtain ⟨b, c, m, rfl, hS2⟩ := hcut
    have S2 := hid hS2.drop3
    clear hS2 S1
    go_wp2_with fail
    go_loopw [22] (fun i wx => ∃ (k : Nat) (M : Int → Option Wd), k ≤ u ∧ i = .int .i64 (k : Int) ∧ (∀ j : Nat, j < k → M j = some ⟨0, -1⟩) ∧ HS [] w wx [thB b 670 (hdc p p c zEn (u : Int) m), thM m k M, thCh c []]) (fun i _ => u - (intOf i).toNat)
    case atStart =>
      exact ⟨0, _, Nat.zero_le _, rfl, fun j hj => absurd hj (Nat.not_lt_zero _), S2.out⟩
    case round =>
      clear S2
      obtain ⟨k, M, hk, rfl, hM, hS⟩ := hrel
      have HM := hid hM
      have S3 := hid hS
      clear hM hS
      have c669 : wr.cell? ⟨b, 669, none⟩ = some (.map (some m)) := (S3.out.fb 0 rfl).2.1 669 (by omega)
      by_cases hlt : (k : Int) < u
      · obtain ⟨w6, hrun, hM6, hC6⟩ := HMap.update (S3.out.nth 1 rfl : HMap wr m k M) (by omega) k ⟨by omega, by omega⟩ ⟨0, -1⟩
        unfold wdV at hrun
        have S6 : Hid (HS [] w w6 [thB b 670 (hdc p p c zEn (u : Int) m), thM m (k + 1) (hupd M k (some ⟨0, -1⟩)), thCh c []]) := hid (HS.upd (A := [thB b 670 (hdc p p c zEn (u : Int) m)]) (B := [thCh c []]) S3.out (thM m (k + 1) (hupd M k (some ⟨0, -1⟩))) rfl hC6 hM6)
        clear S3 hM6 hC6
        go_wp2_with fail
        go_roundw
        case rel =>
          exact ⟨k + 1, _, by omega, by go_num, fun j hj => upd_next HM.out j hj, S6.out⟩
        case measure => simp [intOf]; omega
      · have hku : k = u := by omega
        have HF := hid (HS.head S3.out (wd := fun _ => ⟨0, -1⟩) (fun i hi => HM.out i (by omega)))
        go_wp2_with fail
        go_ret2
        have hB := HF.out.bl
        refine (⟨b, c, m, rfl, ?_, ?_, ?_, ?_, hB⟩ : NewOk w p u _ _)
        · have h0 : HeadAt _ b c m k (newH p u) := HF.out.nth 0 rfl
          rw [hku] at h0
          exact h0
        · exact HF.out.own b (by simp [thH])
        · exact HF.out.own c (by simp [thH])
        · exact HF.out.own m (by simp [thH])
end Go.Proofs.YtomlpkojnipkhaaGreat

