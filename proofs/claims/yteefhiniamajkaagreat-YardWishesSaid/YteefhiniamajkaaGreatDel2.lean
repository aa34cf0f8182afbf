/- slices.Delete of one of a row of pointers: the walk. -/
import Derived.Test.YteefhiniamajkaaGreatDel
import Derived.Lib.SliceRun
import Derived.BigQuiet
import Derived.Deep.RegionHeld3
import Derived.Deep.Cut
import Derived.IntWalk
namespace Go.Proofs.YteefhiniamajkaaGreat
set_option linter.unusedVariables false
set_option linter.unusedSimpArgs false
open Go.RowKit Go.ChangeShapes Go.WideShapes Go.ChangeAt
attribute [local irreducible] FA FL
set_option maxRecDepth 100000 in
set_option maxHeartbeats 8000000 in
theorem del_any {S : List Nat} {W w : World} {A B : List Th} {V : Value} {ns : List (Nat × Nt)} {i : Nat} (hS : HS S W w (A ++ thL V ns :: B)) (hi : i < ns.length) : Calls Tryz.prog 67 #[V, .int .i64 (i : Int), .int .i64 ((i + 1 : Nat) : Int)] w fun x w' => ∃ V', x = .returned V' ∧ HS S W w' (A ++ thL V' (ns.eraseIdx i) :: B) := by
  obtain ⟨m, hm⟩ : ∃ m, ns.length = m + 1 := ⟨ns.length - 1, by omega⟩
  have h1 : Ow w 0 133 1 V ns.length (laf ns) := hS.1 (thL V ns) (by simp)
  obtain ⟨A0, c, rfl, _⟩ := Ow.form_ h1
  obtain ⟨g, cur, rfl, hg, hnc, hcm, hcs, hcu⟩ := Ow.curs h1 (by omega)
  rw [hm] at h1 hnc hcu
  have hrow := row_del (w := w.drew) hg hnc hcm hcs hcu (i := i) (by omega) rfl
  obtain ⟨news, hnews⟩ : ∃ news, news = (List.range (m + 1 - (i + 1))).map fun t => laf ns (i + 1 + t) := ⟨_, rfl⟩
  rw [← hnews] at hrow
  have hlen : news.length = m - i := by rw [hnews, List.length_map, List.length_range]; omega
  obtain ⟨W1, hW1⟩ : ∃ W1, W1 = w.drew.setRow g (cur.toList.take i ++ news ++ cur.toList.drop (i + news.length)).toArray := ⟨_, rfl⟩
  rw [← hW1] at hrow
  have hS1 : HS S W W1 (A ++ thW 0 133 1 (.slice (some ⟨g, 0, none⟩) (m + 1) c) (m + 1) (shf (laf ns) i (m + 1)) :: B) := by
    have h2 : HS S W w.drew (A ++ thW 0 133 1 (.slice (some ⟨g, 0, none⟩) (m + 1) c) (m + 1) (laf ns) :: B) := by have := hS.drew; unfold thL at this; rwa [hm] at this
    exact HS.grownW (w' := W1) h2 (by rw [hW1]; exact grown_setRow _ _ _) hrow (fun g' h' => .inl h')
  have hcl : ∀ ty, (Builtin.clear_ #[67] ty #[.slice (some ⟨g, m, none⟩) 1 (c - m)]).run Tryz.prog W1 = .ok (.tuple #[]) (W1.setCell ⟨g, m, none⟩ (.pointer none)) := fun ty =>
    Go.Lib.run_clear_slice W1 _ _ ty _ Tryz.underlying67 zero_pn rfl rfl g m 1 (c - m) (by omega) (fun j hj => by rw [show m + j = m by omega, World.ownsRow.cellAt hrow m (by omega)]; simp) (fun j hj => World.ownsRow.frozenAt hrow _)
  have hS2 : HS S W (W1.setCell ⟨g, m, none⟩ (.pointer none)) (A ++ thL (.slice (some ⟨g, 0, none⟩) m c) (ns.eraseIdx i) :: B) := by
    have h3 := Ow.store_ hrow m (.pointer none)
    have h4 := (Ow.less h3 m (by omega)).as_ (f2 := laf (ns.eraseIdx i)) (fun j hj => laf_len ns i m j hm (by omega))
    have h5 := HS.grownW (w' := W1.setCell ⟨g, m, none⟩ (.pointer none)) hS1 (World.ownsRow.stored hrow m (.pointer none)).2 h4 (fun g' h' => .inl h')
    unfold thL
    rw [List.length_eraseIdx, if_pos (by omega), hm]
    exact h5
  have hsrc : ∀ j u, news[j]? = some u → ∀ ad : Addr, ad = ⟨g, i + 1, none⟩ → w.drew.cell? (ad.add j) = some u := by
    intro j u hu ad e
    subst e
    rw [hnews, List.getElem?_map] at hu
    by_cases hj : j < m + 1 - (i + 1)
    · rw [List.getElem?_range hj] at hu
      injection hu with hu
      rw [← hu, Addr.add_lit]
      exact (World.ownsRow.cellAt (show w.drew.ownsRow 0 133 1 (.slice (some ⟨g, 0, none⟩) (m + 1) c) (m + 1) ((List.range ((m + 1) * 1)).map (laf ns)) from h1) (i + 1 + j) (by omega)).trans (by rw [List.getElem?_map, List.getElem?_range (by omega)]; rfl)
    · rw [List.getElem?_eq_none (by simp; omega)] at hu
      cases hu
  have hone : ∀ u ∈ news, u.oneCell' = true := by
    intro u hu
    rw [hnews] at hu
    obtain ⟨x, _, rfl⟩ := List.mem_map.1 hu
    rfl
  obtain ⟨ad, hcut, had⟩ := cut_ptr g (m + 1) c (i + 1) (by omega) hnc
  have CUT := hid hcut
  have HEAD := hid (cut_head g (m + 1) c i (by omega) hnc (by omega))
  have SRC := hid (fun j u (hu : news[j]? = some u) => hsrc j u hu ad (had (by have := (List.getElem?_eq_some_iff.1 hu).1; omega)))
  have ONE := hid hone
  have LEN := hid hlen
  have HG := hid (show w.drew.heap[g]? = some (.cells cur 133 (0, 0)) from hg)
  have FIT := hid (show i + news.length ≤ cur.size by omega)
  have HW := hid hW1
  have CL := hid hcl
  have S2 := hid hS2
  obtain ⟨j, hj⟩ : ∃ j, j = i + 1 := ⟨_, rfl⟩
  rw [← hj] at CUT ⊢
  rw [hm]
  rw [hm] at hi
  have i0 : (0 : Int) ≤ i := by omega
  have j0 : (0 : Int) ≤ j := by omega
  have ij : (i : Int) ≤ j := by omega
  have jn : (j : Int) ≤ ((m + 1 : Nat) : Int) := by omega
  have jc : (j : Int) ≤ c := by omega
  have ne : ¬ i = j := by omega
  have hij : i ≤ j := by omega
  have hjn : j ≤ m + 1 := by omega
  have hjc : j ≤ c := by omega
  replace hj := hid hj
  clear hS h1 hg hcm hcs hcu hrow hnews hlen hS1 hcl hS2 hsrc hone hcut had hW1
  go_enter Tryz.func67, Tryz.ntmps67
  go_upto_region 5 with (fail)
  refine wp_region_held_drew (S := fun (w' : World) => True) (by kernel_rfl) ?_ (fun hHeld => ?_)
  · exact trivial
  refine tkq 0 hHeld ?_
  refine tkq 1 hHeld ?_
  refine tk 2 (v := .slice (some ⟨g, 0, none⟩) i c) rfl (by kernel_rfl) (by kernel_rfl) (by kernel_rfl) (fun _ _ _ h => h) rfl (fun w hSw => ex_slice_h rfl rfl rfl Tryz.underlying67 (HEAD.out _)) hHeld ?_; (try simp only [Act.put, List.setIfInBounds_toArray, List.set_cons_zero, List.set_cons_succ])
  refine tkq 3 hHeld ?_
  refine tkq 4 hHeld ?_
  refine tk 5 (v := .slice (some ad) (m + 1 - j) (c - j)) rfl (by kernel_rfl) (by kernel_rfl) (by kernel_rfl) (fun _ _ _ h => h) rfl (fun w hSw => ex_slice_l rfl rfl rfl Tryz.underlying67 (CUT.out _)) hHeld ?_; (try simp only [Act.put, List.setIfInBounds_toArray, List.set_cons_zero, List.set_cons_succ])
  refine only 6 rfl (by kernel_rfl) rfl (fun K hK => ?_)
  refine ow_room (.tmp 22) (.tmp 25) rfl g i c cur HG.out rfl ad (m + 1 - j) (c - j) rfl news (by rw [LEN.out]; have := hj.out; omega) SRC.out ONE.out (by omega) FIT.out ?_
  rw [← HW.out]
  rw [show i + (m + 1 - j) = m by have := hj.out; omega]
  refine hK.out _ _ (trivial) (fun h2 => ?_)
  clear hK
  try simp only [Act.put, List.setIfInBounds_toArray, List.set_cons_zero, List.set_cons_succ]
  clear h2 HW HG FIT SRC ONE LEN CUT HEAD
  refine tkq 7 trivial ?_
  refine wpAnyH_done (by kernel_rfl) ?_ _
  have mc : m ≤ c := by omega
  have mc0 : (0 : Int) ≤ (m : Int) + 1 := by omega
  have mc1 : (m : Int) + 1 ≤ c := by omega
  have mc2 : ¬ c = m := by omega
  have mc3 : (0 : Int) ≤ (m : Int) := by omega
  have mc4 : (m : Int) ≤ (m : Int) + 1 := by omega
  have mc5 : m ≤ m + 1 := by omega
  go_upto_region 6 with (fail)
  apply wp_region_lit
  refine wl_val (v := ?_) rfl ?_ ?_; rotate_left; (focus ( go_simp; (try with_reducible rfl))); (try simp only [Act.put, List.setIfInBounds_toArray, List.set_cons_zero, List.set_cons_succ])
  refine wl_val (v := ?_) rfl ?_ ?_; rotate_left; (focus ( go_simp; (try with_reducible rfl))); (try simp only [Act.put, List.setIfInBounds_toArray, List.set_cons_zero, List.set_cons_succ])
  refine wl_val (v := ?_) rfl ?_ ?_; rotate_left; (focus ( go_simp; (try with_reducible rfl))); (try simp only [Act.put, List.setIfInBounds_toArray, List.set_cons_zero, List.set_cons_succ])
  refine wl_val (v := ?_) rfl ?_ ?_; rotate_left; (focus ( go_simp; (try with_reducible rfl))); (try simp only [Act.put, List.setIfInBounds_toArray, List.set_cons_zero, List.set_cons_succ])
  refine wl_val (v := ?_) rfl ?_ ?_; rotate_left; (focus ( go_simp; (try with_reducible rfl))); (try simp only [Act.put, List.setIfInBounds_toArray, List.set_cons_zero, List.set_cons_succ])
  refine wl_ow rfl (ow_clear (.tmp 31) rfl rfl CL.out ?_)
  try simp only [Act.put, List.setIfInBounds_toArray, List.set_cons_zero, List.set_cons_succ]
  generalize W1.setCell ⟨g, m, none⟩ (.pointer none) = w9 at *
  go_wp2_with fail
  go_ret
  exact ⟨_, rfl, S2.out⟩
end Go.Proofs.YteefhiniamajkaaGreat
