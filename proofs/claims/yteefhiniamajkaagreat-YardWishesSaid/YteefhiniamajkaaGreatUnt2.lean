/- A unit follows a note. -/
import Derived.Test.YteefhiniamajkaaGreatUnt
import Derived.BigQuiet
import Derived.Deep.RegionHeld3
import Derived.Deep.Cut
import Derived.IntWalk
namespace Go.Proofs.YteefhiniamajkaaGreat
set_option linter.unusedVariables false
set_option linter.unusedSimpArgs false
open Go.RowKit Go.ChangeShapes Go.WideShapes Go.ChangeAt
section
variable {S : List Nat} {W w : World} {L : List Th} {a b c d : Th}
theorem HS.rot1 (h : HS S W w (a :: c :: d :: L)) : HS S W w (c :: d :: a :: L) := h.perm ((List.Perm.swap c a (d :: L)).trans (List.Perm.cons c (List.Perm.swap d a L)))
theorem HS.rot2 (h : HS S W w (a :: b :: c :: d :: L)) : HS S W w (c :: d :: a :: b :: L) := by
  have h1 : (a :: b :: c :: d :: L).Perm (c :: d :: a :: b :: L) := by
    have := (List.perm_append_comm (l₁ := [a, b]) (l₂ := [c, d])).append_right L
    exact this
  exact h.perm h1
end
theorem uc_pl (i b : Int) (p : Pl) (pb j : Nat) (hj : j < 330) : uc i b p pb (2 + j) = pc p j := by
  unfold uc
  rw [if_neg (by omega), if_neg (by omega), if_pos (by omega), show 2 + j - 2 = j by omega]
theorem ntc_pl (n : Nt) (j : Nat) (hj : j < 330) : ntc n (12 + j) = pc n.p j := by
  unfold ntc
  rw [if_neg (by omega), show 12 + j - 12 = j by omega]
attribute [local irreducible] FA FL
set_option maxRecDepth 100000 in
set_option maxHeartbeats 8000000 in
theorem unit_fol {S : List Nat} {W w : World} {B : List Th} {ub pb sb : Nat} {i : Int} {u : Uy} (hS : HS S W w (thB ub 333 (uc i u.b u.p pb) :: thP pb sb u.p u.up :: B)) (n : Nt) (hp : PB u.p) (hw : (folU n u).up = true → Pw (folU n u).p) : Calls Tryz.prog 74 #[.pointer (some ⟨ub, 0, none⟩), .agg (FA 342 (ntc n))] w fun x w' => x = .returned (.tuple #[]) ∧ ∃ sb', HS S W w' (thB ub 333 (uc i u.b (folU n u).p pb) :: thP pb sb' (folU n u).p (folU n u).up :: B) := by
  obtain ⟨b, p, up⟩ := u
  simp only at hp hS
  have S0 := hid hS
  have HPB := hid hp
  clear hS hp
  obtain ⟨v, hv⟩ : ∃ v, v = ver ⟨b, p, up⟩ := ⟨_, rfl⟩
  have FE := hid (show folU n ⟨b, p, up⟩ = if n.wh = true ∧ v < n.p.v then ⟨b, n.p, true⟩ else if n.wh = false ∧ v ≠ -1 ∧ n.v = v + 1 then (if (apR p n.e).2 = 0 then ⟨b, (apR p n.e).1, true⟩ else ⟨b, p, up⟩) else ⟨b, p, up⟩ from by rw [hv]; rfl)
  have hvb : -1152921504606846976 ≤ v ∧ v ≤ 1152921504606846976 := by
    rw [hv]
    unfold ver
    have := HPB.out.1
    split
    · exact this
    · omega
  have HV := hid (show (if up = true then p.v else -1) = v from hv.symm)
  have HW := hid hw
  clear hv hw
  go_enter Tryz.func74, Tryz.ntmps74
  go_upto_region 1 with (fail)
  have S1 := hid (S0.out.boxed (n := 342) (T := 94) (ntc n))
  generalize w.alloc (.cells (FA 342 (ntc n)) 94) = w1 at *
  obtain ⟨X, hX⟩ : ∃ X, X = w.heap.size := ⟨_, rfl⟩
  rw [← hX] at S1 ⊢
  replace hX := hid hX
  clear S0
  go_wp2_with fail
  refine (unit_ver (S1.out.fb 1 rfl) (S1.out.nth 2 rfl)).mono ?_
  rintro x w2 ⟨rfl, hb⟩
  have S2 := hid (S1.out.below hb)
  clear hb S1
  rw [HV.out]
  have c3 : w2.cell? ⟨X, 3, none⟩ = some (.bool n.wh) := (S2.out.fb 0 rfl).2.1 3 (by omega)
  have c2 : w2.cell? ⟨X, 2, none⟩ = some (.int .i64 n.v) := (S2.out.fb 0 rfl).2.1 2 (by omega)
  have c12 : w2.cell? ⟨X, 12, none⟩ = some (.int .i64 n.p.v) := (S2.out.fb 0 rfl).2.1 12 (by omega)
  go_simp
  cases hwh : n.wh
  · rw [hwh] at c3
    have HWH := hid hwh
    clear hwh c12
    by_cases hv1 : v = -1
    · have dv : (v != -1) = false := by simp [hv1]
      have HN := hid (show folU n ⟨b, p, up⟩ = ⟨b, p, up⟩ from by rw [FE.out, if_neg (by rw [HWH.out]; simp), if_neg (by intro h; exact h.2.1 hv1)])
      have HV1 := hid hv1
      clear hv1
      go_wp2_with fail
      go_end0
      rw [HN.out]
      exact ⟨rfl, sb, S2.out.tail⟩
    · have dv : (v != -1) = true := by simp [hv1]
      have x9 : IntKind.i64.wrap (v + 1) = v + 1 := IntWalk.i64_in _ (by omega)
      have HV1 := hid hv1
      clear hv1
      by_cases hv2 : n.v = v + 1
      · have d2 : (n.v == v + 1) = true := by simp [hv2]
        have FE2 := hid (show folU n ⟨b, p, up⟩ = if (apR p n.e).2 = 0 then ⟨b, (apR p n.e).1, true⟩ else ⟨b, p, up⟩ from by rw [FE.out, if_neg (by rw [HWH.out]; simp), if_pos ⟨HWH.out, HV1.out, hv2⟩])
        clear hv2 FE
        have RP0 := fun w => apply_faU p n.e HPB.out w
        generalize apR p n.e = ar at *
        obtain ⟨q2, er⟩ := ar
        simp only at RP0
        have RP := hid RP0
        clear RP0
        obtain ⟨nn, hnn⟩ : ∃ x, x = n.v := ⟨_, rfl⟩
        rw [← hnn] at c2 d2
        clear hnn
        go_upto_region 5 with (fail)
        clear c2 c3 d2 dv x9
        go_cut [5, 6] from 38 to 47 (fun x y wx => ∃ U : Nat, x = .pointer (some ⟨U, 0, none⟩) ∧ y = .int .i64 er ∧ HS S W wx (thB U 330 (pc q2) :: thB X 342 (ntc n) :: thB ub 333 (uc i b p pb) :: thP pb sb p up :: B))
        case first =>
          refine wp_region_held_drew (S := fun (w' : World) => HS S W w' (thB X 342 (ntc n) :: thB ub 333 (uc i b p pb) :: thP pb sb p up :: B)) (by kernel_rfl) ?_ (fun hHeld => ?_)
          · exact S2.out.drew
          refine tkq 0 hHeld ?_
          refine tkq 1 hHeld ?_
          refine tkq 2 hHeld ?_
          refine tk 3 (v := .agg (FA 330 (pc p))) rfl (by kernel_rfl) (by kernel_rfl) (by kernel_rfl) (fun _ _ _ h => h) rfl (fun w hSw => ex_load rfl rfl ((hSw.fb 1 rfl).load 2 330 (pc p) (by omega) (fun j hj => uc_pl _ _ _ _ j hj) Tryz.underlying33 rfl info_pl)) hHeld ?_; (try simp only [Act.put, List.setIfInBounds_toArray, List.set_cons_zero, List.set_cons_succ])
          refine tkq 4 hHeld ?_
          refine tkq 5 hHeld ?_ (hy := by intro w hSw; (try dsimp only at hSw); have x0 : w.cell? ⟨X, 5, none⟩ = some (.int .i64 n.e.k) := (hSw.fb 0 rfl).2.1 5 (by omega); have x1 : w.cell? ⟨X, 6, none⟩ = some (.int .i64 n.e.s) := (hSw.fb 0 rfl).2.1 6 (by omega); have x2 : w.cell? ⟨X, 7, none⟩ = some (.int .i64 n.e.a) := (hSw.fb 0 rfl).2.1 7 (by omega); have x3 : w.cell? ⟨X, 8, none⟩ = some (.int .i64 n.e.p) := (hSw.fb 0 rfl).2.1 8 (by omega); have x4 : w.cell? ⟨X, 9, none⟩ = some (.int .i64 n.e.w) := (hSw.fb 0 rfl).2.1 9 (by omega); have x5 : w.cell? ⟨X, 10, none⟩ = some (.int .u64 n.e.y.a) := (hSw.fb 0 rfl).2.1 10 (by omega); have x6 : w.cell? ⟨X, 11, none⟩ = some (.int .u64 n.e.y.b) := (hSw.fb 0 rfl).2.1 11 (by omega); go_simp; (try with_reducible rfl))
          refine twoUp 6 10 rfl rfl (by kernel_rfl) rfl rfl (fun K hK => ?_) (fun K hK => ?_)
          · go_simp
            refine (RP.out _).mono ?_
            rintro e' w' ⟨rfl, hb⟩
            try go_wp2_with fail
            refine hK.out _ _ (hHeld.below hb) (fun hz0 => ?_)
            clear hK
            try simp only [Act.put, List.setIfInBounds_toArray, List.set_cons_zero, List.set_cons_succ]
            refine tkq 7 hz0 ?_
            refine tkq 8 hz0 ?_
            refine tkq 9 hz0 ?_
            refine only 10 rfl (by kernel_rfl) rfl (fun K hK => ?_)
            refine ow_alloc rfl (zpl_fa _) (by omega) hz0 (fun U w' hN hU => ?_)
            refine hK.out _ _ (hN.tail) (fun hz1 => ?_)
            clear hK
            try simp only [Act.put, List.setIfInBounds_toArray, List.set_cons_zero, List.set_cons_succ]
            refine only 11 rfl (by kernel_rfl) rfl (fun K hK => ?_)
            refine ow_store (A := []) 0 330 (pc q2) (pc q2) rfl rfl rfl hN (by omega) (fun j hj => patch_all _ _ _ j hj) info_pl (pc_one q2) (fun w' hN2 => ?_)
            refine hK.out _ _ (hN2.tail) (fun hE => ?_)
            clear hK
            try simp only [Act.put, List.setIfInBounds_toArray, List.set_cons_zero, List.set_cons_succ]
            refine tkq 12 hE ?_
            refine wpAnyH_done (by kernel_rfl) ?_ _
            go_wp2_with fail
            go_meet
            exact ⟨U, rfl, rfl, hN2⟩
          · refine ow_alloc rfl (zpl_fa _) (by omega) hHeld (fun U w' hN hU => ?_)
            refine hK.out _ _ (hN.tail) (fun hz0 => ?_)
            clear hK
            try simp only [Act.put, List.setIfInBounds_toArray, List.set_cons_zero, List.set_cons_succ]
            refine only 6 rfl (by kernel_rfl) rfl (fun K hK => ?_)
            go_simp
            refine (RP.out _).mono ?_
            rintro e' w' ⟨rfl, hb⟩
            try go_wp2_with fail
            have hN := hN.below hb
            refine hK.out _ _ (hz0.below hb) (fun hz1 => ?_)
            clear hK
            try simp only [Act.put, List.setIfInBounds_toArray, List.set_cons_zero, List.set_cons_succ]
            refine tkq 7 hz1 ?_
            refine tkq 8 hz1 ?_
            refine tkq 9 hz1 ?_
            refine only 11 rfl (by kernel_rfl) rfl (fun K hK => ?_)
            refine ow_store (A := []) 0 330 (pc q2) (pc q2) rfl rfl rfl hN (by omega) (fun j hj => patch_all _ _ _ j hj) info_pl (pc_one q2) (fun w' hN2 => ?_)
            refine hK.out _ _ (hN2.tail) (fun hE => ?_)
            clear hK
            try simp only [Act.put, List.setIfInBounds_toArray, List.set_cons_zero, List.set_cons_succ]
            refine tkq 12 hE ?_
            refine wpAnyH_done (by kernel_rfl) ?_ _
            go_wp2_with fail
            go_meet
            exact ⟨U, rfl, rfl, hN2⟩
        case rest =>
          obtain ⟨U, rfl, rfl, hZ⟩ := hcut
          have S3 := hid hZ
          clear hZ S2
          by_cases her : er = 0
          · subst her
            have FE3 := hid (FE2.out.trans (if_pos rfl))
            go_upto_region 7 with (fail)
            apply wp_region_lit
            refine wl_val (v := ?_) rfl ?_ ?_; rotate_left; (focus ( go_simp; (try with_reducible rfl))); (try simp only [Act.put, List.setIfInBounds_toArray, List.set_cons_zero, List.set_cons_succ])
            refine wl_ow rfl (ow_load 0 rfl 0 330 (pc q2) rfl rfl S3.out (by omega) (fun j hj => by rw [Nat.zero_add]) Tryz.underlying33 rfl info_pl ?_)
            try simp only [Act.put, List.setIfInBounds_toArray, List.set_cons_zero, List.set_cons_succ]
            go_wp2_with fail
            refine (unit_load S3.out.rot2 q2 (by have := HW.out; rw [FE3.out] at this; exact this rfl)).mono ?_
            rintro x w5 ⟨rfl, sb', hZ⟩
            have S9 := hid hZ.drop2.drop2
            clear hZ S3
            go_simp
            go_wp2_with fail
            go_end0
            rw [FE3.out]
            exact ⟨rfl, sb', S9.out⟩
          · have FE3 := hid (FE2.out.trans (if_neg her))
            go_wp2_with fail
            go_end0
            rw [FE3.out]
            exact ⟨rfl, sb, S3.out.tail.tail⟩
      · have d2 : (n.v == v + 1) = false := by simp [hv2]
        have HN := hid (show folU n ⟨b, p, up⟩ = ⟨b, p, up⟩ from by rw [FE.out, if_neg (by rw [HWH.out]; simp), if_neg (by intro h; exact hv2 h.2.2)])
        clear hv2
        go_wp2_with fail
        go_end0
        rw [HN.out]
        exact ⟨rfl, sb, S2.out.tail⟩
  · rw [hwh] at c3
    have HWH := hid hwh
    clear hwh c2
    by_cases hlt : v < n.p.v
    · have FE3 := hid (show folU n ⟨b, p, up⟩ = ⟨b, n.p, true⟩ from by rw [FE.out, if_pos ⟨HWH.out, hlt⟩])
      go_upto_region 3 with (fail)
      clear c3 c12
      apply wp_region_lit
      refine wl_val (v := ?_) rfl ?_ ?_; rotate_left; (focus ( go_simp; (try with_reducible rfl))); (try simp only [Act.put, List.setIfInBounds_toArray, List.set_cons_zero, List.set_cons_succ])
      refine wl_val (v := ?_) rfl ?_ ?_; rotate_left; (focus ( go_simp; (try with_reducible rfl))); (try simp only [Act.put, List.setIfInBounds_toArray, List.set_cons_zero, List.set_cons_succ])
      refine wl_ow rfl (ow_load 0 rfl 12 330 (pc n.p) rfl rfl S2.out (by omega) (fun j hj => ntc_pl n j hj) Tryz.underlying33 rfl info_pl ?_)
      try simp only [Act.put, List.setIfInBounds_toArray, List.set_cons_zero, List.set_cons_succ]
      go_wp2_with fail
      refine (unit_load S2.out.rot1 n.p (by have := HW.out; rw [FE3.out] at this; exact this rfl)).mono ?_
      rintro x w5 ⟨rfl, sb', hZ⟩
      have S9 := hid hZ.drop2
      clear hZ S2
      go_simp
      go_wp2_with fail
      go_end0
      rw [FE3.out]
      exact ⟨rfl, sb', S9.out⟩
    · have HN := hid (show folU n ⟨b, p, up⟩ = ⟨b, p, up⟩ from by rw [FE.out, if_neg (by intro h; exact hlt h.2), if_neg (by rw [HWH.out]; simp)])
      go_wp2_with fail
      go_end0
      rw [HN.out]
      exact ⟨rfl, sb, S2.out.tail⟩
end Go.Proofs.YteefhiniamajkaaGreat
