/- What a head hears. -/
import Derived.Test.YteefhiniamajkaaGreatGn
import Derived.BigQuiet
import Derived.Deep.RegionHeld3
import Derived.Deep.Cut
import Derived.IntWalk
namespace Go.Proofs.YteefhiniamajkaaGreat
set_option linter.unusedVariables false
set_option linter.unusedSimpArgs false
open Go.RowKit Go.ChangeShapes Go.WideShapes Go.ChangeAt

def wdc (l : Wd) (j : Nat) : Value := if j = 0 then .int .i64 l.b else .int .i64 l.v
theorem wdc_one (l : Wd) (j : Nat) : (wdc l j).oneCell' = true := by unfold wdc; split <;> rfl
theorem zwd_fa (w : World) : (zeroValue 112).run Tryz.prog w = .ok (.agg (FA 2 (wdc zWd))) w := zero_wd w
theorem info_wd : (Tryz.prog.info? 112).map (·.size) = some 2 := by kernel_rfl
theorem Fb.nt0 {w : World} {X : Nat} {nt : Nt} (h : Fb w X 342 (ntc nt)) : w.cell? ⟨X, 0, none⟩ = some (.int .i64 nt.u) := h.2.1 0 (by omega)
theorem Fb.nt1 {w : World} {X : Nat} {nt : Nt} (h : Fb w X 342 (ntc nt)) : w.cell? ⟨X, 1, none⟩ = some (.int .i64 nt.b) := h.2.1 1 (by omega)
theorem Fb.nt2 {w : World} {X : Nat} {nt : Nt} (h : Fb w X 342 (ntc nt)) : w.cell? ⟨X, 2, none⟩ = some (.int .i64 nt.v) := h.2.1 2 (by omega)
theorem Fb.nt4 {w : World} {X : Nat} {nt : Nt} (h : Fb w X 342 (ntc nt)) : w.cell? ⟨X, 4, none⟩ = some (.bool nt.ak) := h.2.1 4 (by omega)
theorem Fb.wd0 {w : World} {X : Nat} {l : Wd} (h : Fb w X 2 (wdc l)) : w.cell? ⟨X, 0, none⟩ = some (.int .i64 l.b) := h.2.1 0 (by omega)
theorem Fb.wd1 {w : World} {X : Nat} {l : Wd} (h : Fb w X 2 (wdc l)) : w.cell? ⟨X, 1, none⟩ = some (.int .i64 l.v) := h.2.1 1 (by omega)
section
variable {S : List Nat} {W w : World} {L A B : List Th} {Q : Exit → Act → World → Prop} {o : Oper} {a : Act} {K : Act → World → Prop}
theorem ow_storeW {x y : Operand} {b : Nat} (l l' : Wd) (ho : o.op = .store 112 x y) (hx : a.eval x = .pointer (some ⟨b, 0, none⟩)) (hy : a.eval y = .agg #[.int .i64 l'.b, .int .i64 l'.v]) (hS : HS S W w (A ++ thB b 2 (wdc l) :: B))
    (h : ∀ w', HS S W w' (A ++ thB b 2 (wdc l') :: B) → K (a.put o.dst undef) w') : o.wp Tryz.prog a w K Q :=
  ow_store 0 2 (wdc l') (wdc l') ho hx hy hS (by omega) (fun j hj => patch_all _ _ _ j hj) info_wd (wdc_one l') h
end
theorem HMap.mono {w : World} {m n : Nat} {M : Int → Option Wd} (h : HMap w m n M) : HMap w m (n + 1) M := by
  obtain ⟨D, h1, h2⟩ := h
  exact ⟨D, h1.mono (by omega), h2⟩
theorem HeadAt.mono {w : World} {b c m n : Nat} {h : Hd} (hH : HeadAt w b c m n h) : HeadAt w b c m (n + 1) h := by
  obtain ⟨hF, hC, ⟨M, hM, hMw⟩, hn⟩ := hH
  exact ⟨hF, hC, ⟨M, hM.mono, hMw⟩, hn⟩
theorem HeadAt.lay {w : World} {b c m n : Nat} {h : Hd} (hH : HeadAt w b c m n h) (hn : n ≤ 1000000) (i : Nat) (hi : i ≤ 1000) (x y : Int) :
    ∃ w', (Instr.mapUpdate 108 (.map (some m)) (.int .i64 (i : Int)) (.agg #[.int .i64 x, .int .i64 y])).run Tryz.prog w = .ok () w' ∧ HeadAt w' b c m (n + 1) { h with wd := setW h.wd i ⟨x, y⟩ } ∧ Ch [b, c, m] w w' := by
  obtain ⟨hF, ⟨s, r, hCh⟩, ⟨M, hM, hMw⟩, n1, n2, n3⟩ := hH
  obtain ⟨w', hrun, hM', hC'⟩ := hM.update hn (i : Int) ⟨by omega, by omega⟩ ⟨x, y⟩
  refine ⟨w', hrun, ⟨hC'.fb hF (by simp [n2]), ⟨s, r, (hC'.2.2 c (chan_lt hCh) (by simp [n3])).trans hCh⟩, ⟨_, hM', fun j hj => ?_⟩, n1, n2, n3⟩, hC'.mono (fun k hk => .inl (by simp at hk; simp [hk]))⟩
  show hupd M (i : Int) (some ⟨x, y⟩) j = some (setW h.wd i ⟨x, y⟩ j)
  unfold hupd setW
  by_cases e : j = i
  · rw [if_pos (by omega), if_pos e]
  · rw [if_neg (by omega), if_neg e]; exact hMw j hj
theorem ear_nat {h : Hd} {nt : Nt} (he : earB h nt = true) : nt.ak = true ∧ 0 ≤ nt.u ∧ nt.u < h.un := by
  unfold earB at he
  simp at he
  obtain ⟨⟨a, b⟩, c⟩ := he
  exact ⟨a, b, c⟩

section
variable {w : World} {b c m n : Nat} {h : Hd}
attribute [local irreducible] FA FL
set_option maxRecDepth 100000 in
set_option maxHeartbeats 8000000 in
theorem heard_no (hH : HeadAt w b c m n h) (nt : Nt) (he : earB h nt = false) : Calls Tryz.prog 68 #[.pointer (some ⟨b, 0, none⟩), .agg (FA 342 (ntc nt))] w fun x w' => x = .returned (.tuple #[]) ∧ HeadAt w' b c m n h ∧ Ch [b, c, m] w w' := by
  obtain ⟨nu, hnu⟩ : ∃ x, nt.u = x := ⟨_, rfl⟩
  have HNU := hid hnu
  obtain ⟨ak, hak⟩ : ∃ x, nt.ak = x := ⟨_, rfl⟩
  have HAK := hid hak
  obtain ⟨u, hu⟩ : ∃ x, h.un = x := ⟨_, rfl⟩
  have HU := hid hu
  unfold earB at he
  rw [hak, hnu, hu] at he
  clear hak hnu hu
  cases ak
  · clear he
    go_enter Tryz.func68, Tryz.ntmps68
    go_upto_region 1 with (fail)
    have S1 := hid (HS.boxed (n := 342) (T := 94) hH.hs (ntc nt))
    generalize w.alloc (.cells (FA 342 (ntc nt)) 94) = w1 at *
    generalize w.heap.size = X at *
    have U0 := hid (show ∀ w : World, Fb w X 342 (ntc nt) → w.cell? ⟨X, 0, none⟩ = some (.int .i64 nu) from fun w h => by rw [← HNU.out]; exact h.nt0)
    have U4 := hid (show ∀ w : World, Fb w X 342 (ntc nt) → w.cell? ⟨X, 4, none⟩ = some (.bool false) from fun w h => by rw [← HAK.out]; exact h.nt4)
    have U6 := hid (show ∀ w : World, HeadAt w b c m n h → w.cell? ⟨b, 668, none⟩ = some (.int .i64 (u : Int)) from fun w hh => by rw [← HU.out]; exact hh.c668)
    clear hH
    refine wp_region_held_drew (S := fun (w' : World) => HS [b, c, m] w w' [thB X 342 (ntc nt), thH b c m n h]) (by kernel_rfl) ?_ (fun hHeld => ?_)
    · exact S1.out.drew
    refine tkq 0 hHeld ?_
    refine tkq 1 hHeld ?_ (hy := by intro w hSw; (try dsimp only at hSw); have x0 := U4.out _ (hSw.fb 0 rfl); go_simp; (try with_reducible rfl))
    refine tkq 2 hHeld ?_
    refine tkq 3 hHeld ?_
    refine tuq 4 hHeld ?_
    refine tuq 5 hHeld ?_
    refine tuq 6 hHeld ?_
    refine tkq 7 hHeld ?_
    refine tkq 8 hHeld ?_
    refine tuq 9 hHeld ?_
    refine tuq 10 hHeld ?_
    refine tuq 11 hHeld ?_
    refine tuq 12 hHeld ?_
    refine tuq 13 hHeld ?_
    refine tuq 14 hHeld ?_
    refine tuq 15 hHeld ?_
    refine tkq 16 hHeld ?_
    have S2 := hid hHeld
    clear hHeld S1
    refine wpAnyH_done (by kernel_rfl) ?_ _
    go_wp2_with fail
    exact bodyPost_ret (v := .tuple #[]) (by simp [results, Tryz.results68, go_sem]) rfl ⟨rfl, S2.out.nth 1 rfl, S2.out.ch⟩
  · by_cases h0 : nu < 0
    · clear he
      go_enter Tryz.func68, Tryz.ntmps68
      go_upto_region 1 with (fail)
      have S1 := hid (HS.boxed (n := 342) (T := 94) hH.hs (ntc nt))
      generalize w.alloc (.cells (FA 342 (ntc nt)) 94) = w1 at *
      generalize w.heap.size = X at *
      have U0 := hid (show ∀ w : World, Fb w X 342 (ntc nt) → w.cell? ⟨X, 0, none⟩ = some (.int .i64 nu) from fun w h => by rw [← HNU.out]; exact h.nt0)
      have U4 := hid (show ∀ w : World, Fb w X 342 (ntc nt) → w.cell? ⟨X, 4, none⟩ = some (.bool true) from fun w h => by rw [← HAK.out]; exact h.nt4)
      have U6 := hid (show ∀ w : World, HeadAt w b c m n h → w.cell? ⟨b, 668, none⟩ = some (.int .i64 (u : Int)) from fun w hh => by rw [← HU.out]; exact hh.c668)
      clear hH
      refine wp_region_held_drew (S := fun (w' : World) => HS [b, c, m] w w' [thB X 342 (ntc nt), thH b c m n h]) (by kernel_rfl) ?_ (fun hHeld => ?_)
      · exact S1.out.drew
      refine tkq 0 hHeld ?_
      refine tkq 1 hHeld ?_ (hy := by intro w hSw; (try dsimp only at hSw); have x0 := U4.out _ (hSw.fb 0 rfl); go_simp; (try with_reducible rfl))
      refine tkq 2 hHeld ?_
      refine tkq 3 hHeld ?_
      refine tkq 4 hHeld ?_
      refine tkq 5 hHeld ?_ (hy := by intro w hSw; (try dsimp only at hSw); have x0 := U0.out _ (hSw.fb 0 rfl); go_simp; (try with_reducible rfl))
      refine tkq 6 hHeld ?_
      refine tkq 7 hHeld ?_
      refine tkq 8 hHeld ?_
      refine tuq 9 hHeld ?_
      refine tuq 10 hHeld ?_
      refine tuq 11 hHeld ?_
      refine tuq 12 hHeld ?_
      refine tuq 13 hHeld ?_
      refine tuq 14 hHeld ?_
      refine tuq 15 hHeld ?_
      refine tkq 16 hHeld ?_
      have S2 := hid hHeld
      clear hHeld S1
      refine wpAnyH_done (by kernel_rfl) ?_ _
      go_wp2_with fail
      exact bodyPost_ret (v := .tuple #[]) (by simp [results, Tryz.results68, go_sem]) rfl ⟨rfl, S2.out.nth 1 rfl, S2.out.ch⟩
    · have h1 : ¬ nu < (u : Int) := fun h2 => by simp [h2] at he; omega
      clear he
      go_enter Tryz.func68, Tryz.ntmps68
      go_upto_region 1 with (fail)
      have S1 := hid (HS.boxed (n := 342) (T := 94) hH.hs (ntc nt))
      generalize w.alloc (.cells (FA 342 (ntc nt)) 94) = w1 at *
      generalize w.heap.size = X at *
      have U0 := hid (show ∀ w : World, Fb w X 342 (ntc nt) → w.cell? ⟨X, 0, none⟩ = some (.int .i64 nu) from fun w h => by rw [← HNU.out]; exact h.nt0)
      have U4 := hid (show ∀ w : World, Fb w X 342 (ntc nt) → w.cell? ⟨X, 4, none⟩ = some (.bool true) from fun w h => by rw [← HAK.out]; exact h.nt4)
      have U6 := hid (show ∀ w : World, HeadAt w b c m n h → w.cell? ⟨b, 668, none⟩ = some (.int .i64 (u : Int)) from fun w hh => by rw [← HU.out]; exact hh.c668)
      clear hH
      have hb1 : decide (nu < 0) = false := by simp; omega
      have hb2 : decide ((u : Int) ≤ nu) = true := by simp; omega
      refine wp_region_held_drew (S := fun (w' : World) => HS [b, c, m] w w' [thB X 342 (ntc nt), thH b c m n h]) (by kernel_rfl) ?_ (fun hHeld => ?_)
      · exact S1.out.drew
      refine tkq 0 hHeld ?_
      refine tkq 1 hHeld ?_ (hy := by intro w hSw; (try dsimp only at hSw); have x0 := U4.out _ (hSw.fb 0 rfl); go_simp; (try with_reducible rfl))
      refine tkq 2 hHeld ?_
      refine tkq 3 hHeld ?_
      refine tkq 4 hHeld ?_
      refine tkq 5 hHeld ?_ (hy := by intro w hSw; (try dsimp only at hSw); have x0 := U0.out _ (hSw.fb 0 rfl); go_simp; (try with_reducible rfl))
      refine tkq 6 hHeld ?_
      refine tkq 7 hHeld ?_
      refine tkq 8 hHeld ?_
      refine tkq 9 hHeld ?_
      refine tkq 10 hHeld ?_ (hy := by intro w hSw; (try dsimp only at hSw); have x0 := U0.out _ (hSw.fb 0 rfl); go_simp; (try with_reducible rfl))
      refine tkq 11 hHeld ?_
      refine tkq 12 hHeld ?_
      refine tkq 13 hHeld ?_
      refine tkq 14 hHeld ?_ (hy := by intro w hSw; (try dsimp only at hSw); have x0 := U6.out _ (hSw.nth 1 rfl); go_simp; (try with_reducible rfl))
      refine tkq 15 hHeld ?_
      refine tkq 16 hHeld ?_
      have S2 := hid hHeld
      clear hHeld S1
      refine wpAnyH_done (by kernel_rfl) ?_ _
      go_wp2_with fail
      exact bodyPost_ret (v := .tuple #[]) (by simp [results, Tryz.results68, go_sem]) rfl ⟨rfl, S2.out.nth 1 rfl, S2.out.ch⟩
set_option maxRecDepth 100000 in
set_option maxHeartbeats 8000000 in
theorem heard_yes (hH : HeadAt w b c m n h) (nt : Nt) (he : earB h nt = true) (hun : h.un ≤ 16) (hn : n ≤ 1000000) : Calls Tryz.prog 68 #[.pointer (some ⟨b, 0, none⟩), .agg (FA 342 (ntc nt))] w fun x w' => x = .returned (.tuple #[]) ∧ HeadAt w' b c m (n + 1) (heardH h nt) ∧ Ch [b, c, m] w w' := by
  obtain ⟨e1, e2, e3⟩ := ear_nat he
  obtain ⟨i, hi⟩ : ∃ i : Nat, nt.u = i := ⟨nt.u.toNat, by omega⟩
  have HI := hid hi
  obtain ⟨ak, hak⟩ : ∃ x, nt.ak = x := ⟨_, rfl⟩
  have HAK := hid hak
  obtain ⟨u, hu⟩ : ∃ x, h.un = x := ⟨_, rfl⟩
  have HU := hid hu
  rw [hak] at e1
  subst e1
  rw [hi, hu] at e3
  rw [hu] at hun
  have HNU := HI
  obtain ⟨nu, hnu⟩ : ∃ x : Int, x = i := ⟨_, rfl⟩
  rw [← hnu] at HNU
  have hnu1 : 0 ≤ nu := by omega
  have hnu2 : nu < u := by omega
  have HNI := hid hnu
  have HHD := hid (show heardH h nt = if cntB (h.wd i) ⟨nt.b, mx nt.v⟩ = true then { h with wd := setW h.wd i ⟨nt.b, mx nt.v⟩ } else h from by unfold heardH; rw [if_pos he, hi]; rfl)
  clear he hak hu hi e2 e3 hnu
  go_enter Tryz.func68, Tryz.ntmps68
  go_upto_region 1 with (fail)
  have S1 := hid (HS.boxed (n := 342) (T := 94) hH.hs (ntc nt))
  generalize w.alloc (.cells (FA 342 (ntc nt)) 94) = w1 at *
  generalize w.heap.size = X at *
  have U0 := hid (show ∀ w : World, Fb w X 342 (ntc nt) → w.cell? ⟨X, 0, none⟩ = some (.int .i64 nu) from fun w h => by rw [← HNU.out]; exact h.nt0)
  have U4 := hid (show ∀ w : World, Fb w X 342 (ntc nt) → w.cell? ⟨X, 4, none⟩ = some (.bool true) from fun w h => by rw [← HAK.out]; exact h.nt4)
  have U6 := hid (show ∀ w : World, HeadAt w b c m n h → w.cell? ⟨b, 668, none⟩ = some (.int .i64 (u : Int)) from fun w hh => by rw [← HU.out]; exact hh.c668)
  clear hH
  have hb1 : decide (nu < 0) = false := by simp; omega
  have hb2 : decide ((u : Int) ≤ nu) = false := by simp; omega
  refine wp_region_held_drew (S := fun (w' : World) => HS [b, c, m] w w' [thB X 342 (ntc nt), thH b c m n h]) (by kernel_rfl) ?_ (fun hHeld => ?_)
  · exact S1.out.drew
  refine tkq 0 hHeld ?_
  refine tkq 1 hHeld ?_ (hy := by intro w hSw; (try dsimp only at hSw); have x0 := U4.out _ (hSw.fb 0 rfl); go_simp; (try with_reducible rfl))
  refine tkq 2 hHeld ?_
  refine tkq 3 hHeld ?_
  refine tkq 4 hHeld ?_
  refine tkq 5 hHeld ?_ (hy := by intro w hSw; (try dsimp only at hSw); have x0 := U0.out _ (hSw.fb 0 rfl); go_simp; (try with_reducible rfl))
  refine tkq 6 hHeld ?_
  refine tkq 7 hHeld ?_
  refine tkq 8 hHeld ?_
  refine tkq 9 hHeld ?_
  refine tkq 10 hHeld ?_ (hy := by intro w hSw; (try dsimp only at hSw); have x0 := U0.out _ (hSw.fb 0 rfl); go_simp; (try with_reducible rfl))
  refine tkq 11 hHeld ?_
  refine tkq 12 hHeld ?_
  refine tkq 13 hHeld ?_
  refine tkq 14 hHeld ?_ (hy := by intro w hSw; (try dsimp only at hSw); have x0 := U6.out _ (hSw.nth 1 rfl); go_simp; (try with_reducible rfl))
  refine tkq 15 hHeld ?_
  refine tkq 16 hHeld ?_
  have S2 := hid hHeld
  clear hHeld S1
  refine wpAnyH_done (by kernel_rfl) ?_ _
  clear hb1 hb2
  go_upto_region 2 with (fail)
  obtain ⟨xb, hxb⟩ : ∃ x, x = (h.wd i).b := ⟨_, rfl⟩
  obtain ⟨xv, hxv⟩ : ∃ x, x = (h.wd i).v := ⟨_, rfl⟩
  obtain ⟨nb, hnb⟩ : ∃ x, x = nt.b := ⟨_, rfl⟩
  obtain ⟨nv, hnv⟩ : ∃ x, x = nt.v := ⟨_, rfl⟩
  have LK := hid (fun (w : World) (hh : HeadAt w b c m n h) => (show (Instr.lookup 108 (.map (some m)) (.int .i64 nu) false).run Tryz.prog w = .ok (.agg #[.int .i64 xb, .int .i64 xv]) w from by rw [HNI.out, hxb, hxv]; exact hd_look hh i (by rw [HU.out]; have := HNI.out; omega) (by rw [HU.out]; omega)))
  replace HHD := hid (show heardH h nt = if cntB ⟨xb, xv⟩ ⟨nb, mx nv⟩ = true then { h with wd := setW h.wd i ⟨nb, mx nv⟩ } else h from by rw [HHD.out, hxb, hxv, hnb, hnv])
  have U1 := hid (show ∀ w : World, Fb w X 342 (ntc nt) → w.cell? ⟨X, 1, none⟩ = some (.int .i64 nb) from fun w h => by rw [hnb]; exact h.nt1)
  have U2 := hid (show ∀ w : World, Fb w X 342 (ntc nt) → w.cell? ⟨X, 2, none⟩ = some (.int .i64 nv) from fun w h => by rw [hnv]; exact h.nt2)
  clear hxb hxv hnb hnv
  refine wp_region_held_drew (S := fun (w' : World) => HS [b, c, m] w w' [thB X 342 (ntc nt), thH b c m n h]) (by kernel_rfl) ?_ (fun hHeld => ?_)
  · exact S2.out.drew
  refine tkq 0 hHeld ?_
  refine tkq 1 hHeld ?_
  refine tkq 2 hHeld ?_
  refine tkq 3 hHeld ?_ (hy := by intro w hSw; (try dsimp only at hSw); have x0 := HeadAt.c669 (hSw.nth 1 rfl : HeadAt w b c m n h); go_simp; (try with_reducible rfl))
  refine tkq 4 hHeld ?_
  refine tkq 5 hHeld ?_ (hy := by intro w hSw; (try dsimp only at hSw); have x0 := U0.out _ (hSw.fb 0 rfl); go_simp; (try with_reducible rfl))
  refine tkq 6 hHeld ?_ (hy := by intro w hSw; (try dsimp only at hSw); have x0 := LK.out _ (hSw.nth 1 rfl); go_simp; (try with_reducible rfl))
  refine only 7 rfl (by kernel_rfl) rfl (fun K hK => ?_)
  refine ow_alloc rfl (zwd_fa _) (by omega) hHeld (fun Y w' hN _ => ?_)
  refine hK.out _ _ (hN.tail) (fun h2 => ?_)
  clear hK
  try simp only [Act.put, List.setIfInBounds_toArray, List.set_cons_zero, List.set_cons_succ]
  refine only 8 rfl (by kernel_rfl) rfl (fun K hK => ?_)
  refine ow_storeW (A := []) zWd ⟨xb, xv⟩ rfl rfl rfl hN (fun w' hN2 => ?_)
  refine hK.out _ _ (hN2.tail) (fun h3 => ?_)
  clear hK
  try simp only [Act.put, List.setIfInBounds_toArray, List.set_cons_zero, List.set_cons_succ]
  have S3 : Hid (HS [b, c, m] w w' [thB Y 2 (wdc ⟨xb, xv⟩), thB X 342 (ntc nt), thH b c m n h]) := hid hN2
  clear hN2 h2 h3 hN hHeld S2
  refine wpAnyH_done (by kernel_rfl) ?_ _
  have c1 := U1.out _ (S3.out.fb 1 rfl)
  have c2 := U2.out _ (S3.out.fb 1 rfl)
  by_cases hm : nv < -1
  · replace HHD := hid (HHD.out.trans (by rw [show mx nv = -1 from by unfold mx; rw [if_pos hm]]))
    have hmx : max nv (-1) = -1 := by omega
    go_upto_region 4 with (fail)
    clear c1 c2
    have S4 := hid (S3.out.cells (T := 112) [.int .i64 nb, .int .i64 (-1)])
    generalize World.alloc _ (.cells #[.int .i64 nb, .int .i64 (-1)] 112) = w4 at *
    have q0 := (S4.out.fb 1 rfl).wd0
    have q1 := (S4.out.fb 1 rfl).wd1
    have p0 := (S4.out.ce 0 rfl).2.1 0 _ rfl
    have p1 := (S4.out.ce 0 rfl).2.1 1 _ rfl
    simp only at q0 q1
    by_cases g1 : xb < nb
    · replace HHD := hid (HHD.out.trans (if_pos (by unfold cntB; simp [g1])))
      have k1 : decide (xb < nb) = true := by simp [g1]
      obtain ⟨E, hE⟩ : ∃ E, E = w'.heap.size := ⟨_, rfl⟩
      rw [← hE] at S4 p0 p1 ⊢
      clear hE
      go_upto_region 5 with (fail)
      clear q0 q1 p0 p1
      have S5 := hid S4.out.drew
      refine wp_region_held_drew (S := fun (w' : World) => HS [b, c, m] w w' [thC E [.int .i64 nb, .int .i64 (-1)], thB Y 2 (wdc ⟨xb, xv⟩), thB X 342 (ntc nt)] ∧ w'.cell? ⟨b, 669, none⟩ = some (.map (some m))) (by kernel_rfl) ?_ (fun hHeld => ?_)
      · exact ⟨S5.out.drop3, HeadAt.c669 (S5.out.nth 3 rfl : HeadAt _ b c m n h)⟩
      refine tkq 0 hHeld ?_
      refine tkq 1 hHeld ?_
      refine tkq 2 hHeld ?_
      refine tkq 3 hHeld ?_ (hy := by intro w hSw; (try dsimp only at hSw); have x0 := hSw.2; go_simp; (try with_reducible rfl))
      refine tkq 4 hHeld ?_
      refine tkq 5 hHeld ?_ (hy := by intro w hSw; (try dsimp only at hSw); have x0 := U0.out _ (hSw.1.fb 2 rfl); go_simp; (try with_reducible rfl))
      refine tkq 6 hHeld ?_ (hy := by intro w hSw; (try dsimp only at hSw); have x0 := (hSw.1.ce 0 rfl).2.1 0 _ rfl; have x1 := (hSw.1.ce 0 rfl).2.1 1 _ rfl; go_simp; (try with_reducible rfl))
      refine only 7 rfl (by kernel_rfl) rfl (fun K hK => ?_)
      obtain ⟨w6, hrun, hH6, hC6⟩ := HeadAt.lay (S5.out.nth 3 rfl : HeadAt _ b c m n h) hn i (by have := HNI.out; omega) nb (-1)
      rw [← HNI.out] at hrun
      have S6 : HS [b, c, m] w w6 [thC E [.int .i64 nb, .int .i64 (-1)], thB Y 2 (wdc ⟨xb, xv⟩), thB X 342 (ntc nt), thH b c m (n + 1) { h with wd := setW h.wd i ⟨nb, -1⟩ }] := HS.upd (A := [thC E [.int .i64 nb, .int .i64 (-1)], thB Y 2 (wdc ⟨xb, xv⟩), thB X 342 (ntc nt)]) (B := []) S5.out (thH b c m (n + 1) { h with wd := setW h.wd i ⟨nb, -1⟩ }) rfl hC6 hH6
      have S7 := hid S6
      have H7 := hid hH6
      clear S6 hH6 hC6
      go_simp
      refine hK.out _ _ (⟨S7.out.drop3, H7.out.c669⟩) (fun hE => ?_)
      clear hK
      try simp only [Act.put, List.setIfInBounds_toArray, List.set_cons_zero, List.set_cons_succ]
      clear hE hHeld
      refine wpAnyH_done (by kernel_rfl) ?_ _
      go_wp2_with fail
      go_end0
      exact ⟨rfl, by rw [HHD.out]; exact H7.out, S7.out.ch⟩
    · by_cases g2 : nb = xb
      · subst g2
        by_cases g3 : xv < -1
        · replace HHD := hid (HHD.out.trans (if_pos (by unfold cntB; simp [g3])))
          have k3 : decide (xv < -1) = true := by simp [g3]
          obtain ⟨E, hE⟩ : ∃ E, E = w'.heap.size := ⟨_, rfl⟩
          rw [← hE] at S4 p0 p1 ⊢
          clear hE
          go_upto_region 5 with (fail)
          clear q0 q1 p0 p1
          have S5 := hid S4.out.drew
          refine wp_region_held_drew (S := fun (w' : World) => HS [b, c, m] w w' [thC E [.int .i64 nb, .int .i64 (-1)], thB Y 2 (wdc ⟨nb, xv⟩), thB X 342 (ntc nt)] ∧ w'.cell? ⟨b, 669, none⟩ = some (.map (some m))) (by kernel_rfl) ?_ (fun hHeld => ?_)
          · exact ⟨S5.out.drop3, HeadAt.c669 (S5.out.nth 3 rfl : HeadAt _ b c m n h)⟩
          refine tkq 0 hHeld ?_
          refine tkq 1 hHeld ?_
          refine tkq 2 hHeld ?_
          refine tkq 3 hHeld ?_ (hy := by intro w hSw; (try dsimp only at hSw); have x0 := hSw.2; go_simp; (try with_reducible rfl))
          refine tkq 4 hHeld ?_
          refine tkq 5 hHeld ?_ (hy := by intro w hSw; (try dsimp only at hSw); have x0 := U0.out _ (hSw.1.fb 2 rfl); go_simp; (try with_reducible rfl))
          refine tkq 6 hHeld ?_ (hy := by intro w hSw; (try dsimp only at hSw); have x0 := (hSw.1.ce 0 rfl).2.1 0 _ rfl; have x1 := (hSw.1.ce 0 rfl).2.1 1 _ rfl; go_simp; (try with_reducible rfl))
          refine only 7 rfl (by kernel_rfl) rfl (fun K hK => ?_)
          obtain ⟨w6, hrun, hH6, hC6⟩ := HeadAt.lay (S5.out.nth 3 rfl : HeadAt _ b c m n h) hn i (by have := HNI.out; omega) nb (-1)
          rw [← HNI.out] at hrun
          have S6 : HS [b, c, m] w w6 [thC E [.int .i64 nb, .int .i64 (-1)], thB Y 2 (wdc ⟨nb, xv⟩), thB X 342 (ntc nt), thH b c m (n + 1) { h with wd := setW h.wd i ⟨nb, -1⟩ }] := HS.upd (A := [thC E [.int .i64 nb, .int .i64 (-1)], thB Y 2 (wdc ⟨nb, xv⟩), thB X 342 (ntc nt)]) (B := []) S5.out (thH b c m (n + 1) { h with wd := setW h.wd i ⟨nb, -1⟩ }) rfl hC6 hH6
          have S7 := hid S6
          have H7 := hid hH6
          clear S6 hH6 hC6
          go_simp
          refine hK.out _ _ (⟨S7.out.drop3, H7.out.c669⟩) (fun hE => ?_)
          clear hK
          try simp only [Act.put, List.setIfInBounds_toArray, List.set_cons_zero, List.set_cons_succ]
          clear hE hHeld
          refine wpAnyH_done (by kernel_rfl) ?_ _
          go_wp2_with fail
          go_end0
          exact ⟨rfl, by rw [HHD.out]; exact H7.out, S7.out.ch⟩
        · replace HHD := hid (HHD.out.trans (if_neg (by unfold cntB; simp; omega)))
          have k3 : decide (xv < -1) = false := by simp; omega
          go_wp2_with fail
          go_end0
          exact ⟨rfl, by rw [HHD.out]; exact HeadAt.mono (S4.out.nth 3 rfl : HeadAt _ b c m n h), S4.out.ch⟩
      · replace HHD := hid (HHD.out.trans (if_neg (by unfold cntB; simp [g1, g2])))
        have k1 : decide (xb < nb) = false := by simp; omega
        have k2 : (nb == xb) = false := by simp [g2]
        go_wp2_with fail
        go_end0
        exact ⟨rfl, by rw [HHD.out]; exact HeadAt.mono (S4.out.nth 3 rfl : HeadAt _ b c m n h), S4.out.ch⟩
  · replace HHD := hid (HHD.out.trans (by rw [show mx nv = nv from by unfold mx; rw [if_neg hm]]))
    have hmx : max nv (-1) = nv := by omega
    go_upto_region 4 with (fail)
    clear c1 c2
    have S4 := hid (S3.out.cells (T := 112) [.int .i64 nb, .int .i64 (nv)])
    generalize World.alloc _ (.cells #[.int .i64 nb, .int .i64 (nv)] 112) = w4 at *
    have q0 := (S4.out.fb 1 rfl).wd0
    have q1 := (S4.out.fb 1 rfl).wd1
    have p0 := (S4.out.ce 0 rfl).2.1 0 _ rfl
    have p1 := (S4.out.ce 0 rfl).2.1 1 _ rfl
    simp only at q0 q1
    by_cases g1 : xb < nb
    · replace HHD := hid (HHD.out.trans (if_pos (by unfold cntB; simp [g1])))
      have k1 : decide (xb < nb) = true := by simp [g1]
      obtain ⟨E, hE⟩ : ∃ E, E = w'.heap.size := ⟨_, rfl⟩
      rw [← hE] at S4 p0 p1 ⊢
      clear hE
      go_upto_region 5 with (fail)
      clear q0 q1 p0 p1
      have S5 := hid S4.out.drew
      refine wp_region_held_drew (S := fun (w' : World) => HS [b, c, m] w w' [thC E [.int .i64 nb, .int .i64 (nv)], thB Y 2 (wdc ⟨xb, xv⟩), thB X 342 (ntc nt)] ∧ w'.cell? ⟨b, 669, none⟩ = some (.map (some m))) (by kernel_rfl) ?_ (fun hHeld => ?_)
      · exact ⟨S5.out.drop3, HeadAt.c669 (S5.out.nth 3 rfl : HeadAt _ b c m n h)⟩
      refine tkq 0 hHeld ?_
      refine tkq 1 hHeld ?_
      refine tkq 2 hHeld ?_
      refine tkq 3 hHeld ?_ (hy := by intro w hSw; (try dsimp only at hSw); have x0 := hSw.2; go_simp; (try with_reducible rfl))
      refine tkq 4 hHeld ?_
      refine tkq 5 hHeld ?_ (hy := by intro w hSw; (try dsimp only at hSw); have x0 := U0.out _ (hSw.1.fb 2 rfl); go_simp; (try with_reducible rfl))
      refine tkq 6 hHeld ?_ (hy := by intro w hSw; (try dsimp only at hSw); have x0 := (hSw.1.ce 0 rfl).2.1 0 _ rfl; have x1 := (hSw.1.ce 0 rfl).2.1 1 _ rfl; go_simp; (try with_reducible rfl))
      refine only 7 rfl (by kernel_rfl) rfl (fun K hK => ?_)
      obtain ⟨w6, hrun, hH6, hC6⟩ := HeadAt.lay (S5.out.nth 3 rfl : HeadAt _ b c m n h) hn i (by have := HNI.out; omega) nb (nv)
      rw [← HNI.out] at hrun
      have S6 : HS [b, c, m] w w6 [thC E [.int .i64 nb, .int .i64 (nv)], thB Y 2 (wdc ⟨xb, xv⟩), thB X 342 (ntc nt), thH b c m (n + 1) { h with wd := setW h.wd i ⟨nb, nv⟩ }] := HS.upd (A := [thC E [.int .i64 nb, .int .i64 (nv)], thB Y 2 (wdc ⟨xb, xv⟩), thB X 342 (ntc nt)]) (B := []) S5.out (thH b c m (n + 1) { h with wd := setW h.wd i ⟨nb, nv⟩ }) rfl hC6 hH6
      have S7 := hid S6
      have H7 := hid hH6
      clear S6 hH6 hC6
      go_simp
      refine hK.out _ _ (⟨S7.out.drop3, H7.out.c669⟩) (fun hE => ?_)
      clear hK
      try simp only [Act.put, List.setIfInBounds_toArray, List.set_cons_zero, List.set_cons_succ]
      clear hE hHeld
      refine wpAnyH_done (by kernel_rfl) ?_ _
      go_wp2_with fail
      go_end0
      exact ⟨rfl, by rw [HHD.out]; exact H7.out, S7.out.ch⟩
    · by_cases g2 : nb = xb
      · subst g2
        by_cases g3 : xv < nv
        · replace HHD := hid (HHD.out.trans (if_pos (by unfold cntB; simp [g3])))
          have k3 : decide (xv < nv) = true := by simp [g3]
          obtain ⟨E, hE⟩ : ∃ E, E = w'.heap.size := ⟨_, rfl⟩
          rw [← hE] at S4 p0 p1 ⊢
          clear hE
          go_upto_region 5 with (fail)
          clear q0 q1 p0 p1
          have S5 := hid S4.out.drew
          refine wp_region_held_drew (S := fun (w' : World) => HS [b, c, m] w w' [thC E [.int .i64 nb, .int .i64 (nv)], thB Y 2 (wdc ⟨nb, xv⟩), thB X 342 (ntc nt)] ∧ w'.cell? ⟨b, 669, none⟩ = some (.map (some m))) (by kernel_rfl) ?_ (fun hHeld => ?_)
          · exact ⟨S5.out.drop3, HeadAt.c669 (S5.out.nth 3 rfl : HeadAt _ b c m n h)⟩
          refine tkq 0 hHeld ?_
          refine tkq 1 hHeld ?_
          refine tkq 2 hHeld ?_
          refine tkq 3 hHeld ?_ (hy := by intro w hSw; (try dsimp only at hSw); have x0 := hSw.2; go_simp; (try with_reducible rfl))
          refine tkq 4 hHeld ?_
          refine tkq 5 hHeld ?_ (hy := by intro w hSw; (try dsimp only at hSw); have x0 := U0.out _ (hSw.1.fb 2 rfl); go_simp; (try with_reducible rfl))
          refine tkq 6 hHeld ?_ (hy := by intro w hSw; (try dsimp only at hSw); have x0 := (hSw.1.ce 0 rfl).2.1 0 _ rfl; have x1 := (hSw.1.ce 0 rfl).2.1 1 _ rfl; go_simp; (try with_reducible rfl))
          refine only 7 rfl (by kernel_rfl) rfl (fun K hK => ?_)
          obtain ⟨w6, hrun, hH6, hC6⟩ := HeadAt.lay (S5.out.nth 3 rfl : HeadAt _ b c m n h) hn i (by have := HNI.out; omega) nb (nv)
          rw [← HNI.out] at hrun
          have S6 : HS [b, c, m] w w6 [thC E [.int .i64 nb, .int .i64 (nv)], thB Y 2 (wdc ⟨nb, xv⟩), thB X 342 (ntc nt), thH b c m (n + 1) { h with wd := setW h.wd i ⟨nb, nv⟩ }] := HS.upd (A := [thC E [.int .i64 nb, .int .i64 (nv)], thB Y 2 (wdc ⟨nb, xv⟩), thB X 342 (ntc nt)]) (B := []) S5.out (thH b c m (n + 1) { h with wd := setW h.wd i ⟨nb, nv⟩ }) rfl hC6 hH6
          have S7 := hid S6
          have H7 := hid hH6
          clear S6 hH6 hC6
          go_simp
          refine hK.out _ _ (⟨S7.out.drop3, H7.out.c669⟩) (fun hE => ?_)
          clear hK
          try simp only [Act.put, List.setIfInBounds_toArray, List.set_cons_zero, List.set_cons_succ]
          clear hE hHeld
          refine wpAnyH_done (by kernel_rfl) ?_ _
          go_wp2_with fail
          go_end0
          exact ⟨rfl, by rw [HHD.out]; exact H7.out, S7.out.ch⟩
        · replace HHD := hid (HHD.out.trans (if_neg (by unfold cntB; simp; omega)))
          have k3 : decide (xv < nv) = false := by simp; omega
          go_wp2_with fail
          go_end0
          exact ⟨rfl, by rw [HHD.out]; exact HeadAt.mono (S4.out.nth 3 rfl : HeadAt _ b c m n h), S4.out.ch⟩
      · replace HHD := hid (HHD.out.trans (if_neg (by unfold cntB; simp [g1, g2])))
        have k1 : decide (xb < nb) = false := by simp; omega
        have k2 : (nb == xb) = false := by simp [g2]
        go_wp2_with fail
        go_end0
        exact ⟨rfl, by rw [HHD.out]; exact HeadAt.mono (S4.out.nth 3 rfl : HeadAt _ b c m n h), S4.out.ch⟩
end
end Go.Proofs.YteefhiniamajkaaGreat
