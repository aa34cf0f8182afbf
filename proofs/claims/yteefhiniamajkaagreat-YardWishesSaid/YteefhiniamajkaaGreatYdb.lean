/- A yard: Pool, Wish; its lane. -/
import Derived.Test.YteefhiniamajkaaGreatYda
import Derived.Test.YteefhiniamajkaaGreatGl
import Derived.Test.YteefhiniamajkaaGreatHdWish
import Derived.Test.YteefhiniamajkaaGreatHdSend
import Derived.BigQuiet
import Derived.Deep.RegionHeld3
import Derived.Deep.Cut
import Derived.IntWalk
namespace Go.Proofs.YteefhiniamajkaaGreat
set_option linter.unusedVariables false
set_option linter.unusedSimpArgs false
open Go.RowKit Go.ChangeShapes Go.WideShapes Go.ChangeAt
theorem ntf_at (l : List Nt) (k j : Nat) (x : Nt) (hx : l[k]? = some x) (hj : j < 342) : ntf l (k * 342 + j) = ntc x j := by
  unfold ntf
  rw [show (k * 342 + j) / 342 = k by omega, show (k * 342 + j) % 342 = j by omega]
  simp [List.getD, hx]
theorem put_mid {α : Type} (x : α) (P N R : List α) : (x :: (P ++ (N ++ R))).Perm (P ++ (N ++ ([x] ++ R))) := by
  rw [← List.append_assoc, ← List.append_assoc P N, List.singleton_append]
  exact List.perm_middle.symm
theorem map_take_next {ns : List (Nat × Nt)} {l : List Nt} {k nb : Nat} {x : Nt} {l0 : List Nt} (h : ns.map Prod.snd = l0 ++ l.take k) (hx : l[k]? = some x) : (ns ++ [(nb, x)]).map Prod.snd = l0 ++ l.take (k + 1) := by
  rw [List.map_append, h, List.take_add_one, hx]
  simp [List.append_assoc]
attribute [local irreducible] FA FL
section
variable {S : List Nat} {W w : World} {D : Yl} {h : Hd} {uf : Nat → Uy} {R : List Th}
theorem YL.hd (hS : HS S W w (YL D h uf R)) : HeadAt w D.hb D.hc D.hm D.hn h := hS.nth 2 rfl
theorem YL.setH {w' : World} (hS : HS S W w (YL D h uf R)) (h' : Hd) (hu : h'.un = h.un) {n' : Nat} (hc : Ch [D.hb, D.hc, D.hm] w w') (hH : HeadAt w' D.hb D.hc D.hm n' h') : HS S W w' (YL { D with hn := n' } h' uf R) := by
  have h1 := HS.upd (A := [thB D.Y 5 (yc D.hb D.U D.V D.ca D.cm), thL D.V D.ns]) hS (thH D.hb D.hc D.hm n' h') rfl hc hH
  unfold YL
  rw [hu]
  exact h1
theorem yd_add (hS : HS S W w (YL D h uf R)) (n : Nt) (hl : D.ns.length ≤ 1000000) : Calls Tryz.prog 45 #[.pointer (some ⟨D.Y, 2, none⟩), .agg (FA 342 (ntc n))] w fun x w' => x = .returned (.tuple #[]) ∧ ∃ nb V', HS S W w' (YL { D with V := V', ns := D.ns ++ [(nb, n)] } h uf R) := lane_add (M := thH D.hb D.hc D.hm D.hn h :: thC1 D.ca [] :: thC1 D.cm [] :: thW 0 72 1 D.U h.un (ubV D) :: (List.range h.un).map (unT D uf)) (R := R) hS n hl
theorem yd_at (hS : HS S W w (YL D h uf R)) (i : Nat) (x : Nat × Nt) (hx : D.ns[i]? = some x) : Calls Tryz.prog 46 #[.pointer (some ⟨D.Y, 2, none⟩), .int .i64 (i : Int)] w fun e w' => e = .returned (.tuple #[.agg (FA 342 (ntc x.2)), .bool true]) ∧ Below w.heap.size w w' := lane_at (M := thH D.hb D.hc D.hm D.hn h :: thC1 D.ca [] :: thC1 D.cm [] :: thW 0 72 1 D.U h.un (ubV D) :: (List.range h.un).map (unT D uf)) (R := R) hS i x hx
theorem YL.c0 (hS : HS S W w (YL D h uf R)) : w.cell? ⟨D.Y, 0, none⟩ = some (.pointer (some ⟨D.hb, 0, none⟩)) := (hS.fb 0 rfl).2.1 0 (by omega)
theorem YL.c3 (hS : HS S W w (YL D h uf R)) : w.cell? ⟨D.Y, 3, none⟩ = some (.chan (some D.ca)) := (hS.fb 0 rfl).2.1 3 (by omega)
theorem YL.c4 (hS : HS S W w (YL D h uf R)) : w.cell? ⟨D.Y, 4, none⟩ = some (.chan (some D.cm)) := (hS.fb 0 rfl).2.1 4 (by omega)
set_option maxRecDepth 100000 in
set_option maxHeartbeats 8000000 in
theorem yd_pool (hS : HS S W w (YL D h uf R)) : Calls Tryz.prog 15 #[.pointer (some ⟨D.Y, 0, none⟩)] w fun x w' => x = .returned (.agg (FA 330 (pc h.pl))) ∧ HS S W w' (YL D h uf R) := by
  have S0 := hid hS
  clear hS
  obtain ⟨p, hp⟩ : ∃ p, p = h.pl := ⟨_, rfl⟩
  have PP := hid (fun (w' : World) (U : Nat) (hZ : HS S W w' (thB U 330 (pc zPl) :: YL D h uf R)) => (show Calls Tryz.prog 37 #[.pointer (some ⟨D.hb, 0, none⟩)] w' fun x w2 => x = .returned (.agg (FA 330 (pc p))) ∧ Below w'.heap.size w' w2 from by rw [hp]; exact pool_fa (YL.hd hZ.tail)))
  rw [← hp]
  clear hp
  go_enter Tryz.func15, Tryz.ntmps15
  go_upto_region 1 with (((with_reducible refine wl_id ?_); refine wl_ow rfl (ow_alloc rfl (zpl_fa _) (by omega) S0.out ?_); intro U w_ hZ _; have S1 := hid hZ; clear hZ))
  have c0 := YL.c0 S1.out.tail
  obtain ⟨Y, hY⟩ : ∃ Y, Y = D.Y := ⟨_, rfl⟩
  go_wp2_with fail
  refine (PP.out _ _ S1.out).mono ?_
  rintro x w2 ⟨rfl, hb⟩
  have S2 := hid (S1.out.below hb)
  clear hb S1 c0
  go_simp
  go_wp2_with ((with_reducible refine wl_id ?_); refine wl_ow rfl (ow_store (A := []) 0 330 (pc p) (pc p) rfl rfl rfl S2.out (by omega) (fun j hj => patch_all _ _ _ j hj) info_pl (pc_one _) ?_); intro w9 hZ; have S9 := hid hZ; clear hZ S2; refine end_then ?_; apply_assumption; refine wp_ret ?_; (repeat refine ret_then ?_); (show bodyPost _ _ _ _ _ _); exact bodyPost_ret (v := .agg (FA 330 (pc p))) (results_cell1 Tryz.results15 _ rfl (S9.out.fb 0 rfl) Tryz.underlying33 rfl info_pl) rfl ⟨rfl, S9.out.tail⟩)
set_option maxRecDepth 100000 in
set_option maxHeartbeats 8000000 in
theorem yd_wish (hS : HS S W w (YL D h uf R)) (g : Nat → En) (A : Option Addr) (k cc : Nat) (hA : Se w A k g) (hd : ∀ ad, A = some ad → 0 < k → ad.block ∉ [D.hb, D.hc, D.hm]) (hr : h.q.length + k ≤ 200) (K : Int) (hp : Pinv h.ah K) (hK : K ≤ 100000) : Calls Tryz.prog 10 #[.pointer (some ⟨D.Y, 0, none⟩), .slice A k cc] w fun x w' =>
    ∃ (q : Pl) (j : Nat) (er : Int), AllOut h.ah g k q j er ∧ x = .returned (.int .i64 er) ∧ HS S W w' (YL D (if er = 0 then { h with ah := q, q := h.q ++ (List.range k).map g } else h) uf R) := by
  have WW := hid (wish_any (YL.hd hS) g A k cc hA hd hr K hp hK)
  have c0 := YL.c0 hS
  have S0 := hid hS
  clear hS hA hd hr hp hK
  go_enter Tryz.func10, Tryz.ntmps10
  go_wp2_with fail
  refine WW.out.mono ?_
  rintro x w2 ⟨q, j, er, ho, rfl, hH, hC⟩
  have S2 := hid (YL.setH S0.out _ (by split <;> rfl) hC hH)
  have HO := hid ho
  clear hH hC ho S0 c0 WW
  go_simp
  go_wp2_with fail
  go_ret
  exact ⟨q, j, er, HO.out, rfl, S2.out⟩
end
end Go.Proofs.YteefhiniamajkaaGreat
