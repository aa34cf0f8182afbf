/- What a head sends. -/
import Derived.Test.YteefhiniamajkaaGreatGn
import Derived.BigQuiet
import Derived.Deep.RegionHeld3
import Derived.Deep.Cut
import Derived.IntWalk
namespace Go.Proofs.YteefhiniamajkaaGreat
set_option linter.unusedVariables false
set_option linter.unusedSimpArgs false
open Go.RowKit Go.ChangeShapes Go.WideShapes Go.ChangeAt
section
variable {w : World} {b c m n : Nat} {h : Hd}
attribute [local irreducible] FA FL
set_option maxRecDepth 100000 in
set_option maxHeartbeats 8000000 in
theorem send_any (hH : HeadAt w b c m n h) (hu : h.un ≤ 16) (hp : PB h.pl) (hv2 : 0 ≤ (sendH h).pl.v ∧ (sendH h).pl.v ≤ 1000000000) : Calls Tryz.prog 44 #[.pointer (some ⟨b, 0, none⟩)] w (SentOk w b c m n h) := by
  obtain ⟨H, hHH⟩ : ∃ H, H = sendH h := ⟨_, rfl⟩
  have HP := hid (show ∀ x w', SentOk w b c m n h x w' ↔ ∃ (A : Option Addr) (cc : Nat), x = .returned (.slice A (notesK H h.un).length cc) ∧ (notesK H h.un).length ≤ cc ∧ HeadAt w' b c m n H ∧ Ch [b, c, m] w w' ∧ (0 < (notesK H h.un).length → ∃ g : Nat, A = some ⟨g, 0, none⟩ ∧ w.heap.size ≤ g ∧ Fb w' g ((notesK H h.un).length * 342) (ntf (notesK H h.un))) from fun x w' => by rw [hHH]; exact Iff.rfl)
  have HUN := hid (show H.un = h.un from by rw [hHH]; exact send_un h)
  rw [← hHH] at hv2
  obtain ⟨u, hun⟩ : ∃ u, u = h.un := ⟨_, rfl⟩
  rw [← hun] at HP HUN hu
  have HLT := hid (⟨hH.lt, hH.ltc, hH.ltm⟩ : b < w.heap.size ∧ c < w.heap.size ∧ m < w.heap.size)
  have AH := hid (allHold_any hH (by rw [← hun]; omega))
  have HH := hid hH
  clear hH
  go_enter Tryz.func44, Tryz.ntmps44
  go_wp2_with fail
  refine AH.out.mono ?_
  rintro x w1 ⟨rfl, hb⟩
  have H1 := hid (HH.out.below hb)
  have C1 := hid (Ch.of_below (S := [b, c, m]) hb)
  clear hb AH
  cases ab : allB h
  · have HE := hid (show H = h from by rw [hHH]; unfold sendH; rw [ab]; rfl)
    clear hHH hun hp
    have AB := hid ab
    clear ab
    have H2 := hid (show HeadAt w1 b c m n H from by rw [HE.out]; exact H1.out)
    have C2 := C1
    clear C1 H1
    obtain ⟨w2, hw2⟩ : ∃ w2, w2 = w1 := ⟨_, rfl⟩
    subst hw2
    have c668 := H2.out.c668
    rw [HUN.out] at c668
    go_wp2_with fail
    clear c668
    obtain ⟨B, hB⟩ : ∃ B, B = w2.heap.size := ⟨_, rfl⟩
    have HB := hid hB
    clear hB
    have HBW := hid (show w.heap.size ≤ B from by rw [HB.out]; exact C2.out.2.1)
    go_loopw [3, 13] (fun v i wx => ∃ k : Nat, k ≤ u ∧ i = .int .i64 (k : Int) ∧ OwN wx B v (notesK H k) ∧ HeadAt wx b c m n H ∧ Below B w2 wx) (fun _ i _ => u - (intOf i).toNat)
    case atStart => exact ⟨0, Nat.zero_le _, rfl, Ow.none_, H2.out, Below.refl _ _⟩
    case round =>
      obtain ⟨k, hk, rfl, hO, hH3, hBl⟩ := hrel
      have HO := hid hO
      have H3 := hid hH3
      have BL := hid hBl
      clear hO hH3 hBl
      have BS := hid (show B ≤ wr.heap.size from by rw [HB.out]; exact BL.out.size)
      by_cases hlt : (k : Int) < u
      · have LK := hid (fun (w : World) (hh : HeadAt w b c m n H) => hd_look hh k (by rw [HUN.out]; omega) (by rw [HUN.out]; omega))
        have VA := hid (fun w (hh : HeadAt w b c m n H) => version_any hh)
        have NT := hid (fun w (hh : HeadAt w b c m n H) => note_any hh (by rw [HUN.out]; omega) k (by rw [HUN.out]; omega) hv2)
        have NS := hid (notesK_succ H k)
        have NL := notesK_len H k
        obtain ⟨l, hl⟩ : ∃ l, l = notesK H k := ⟨_, rfl⟩
        rw [← hl] at HO NS NL
        clear hl
        obtain ⟨nt, hnt⟩ : ∃ x, x = noteH H k := ⟨_, rfl⟩
        rw [← hnt] at NT NS
        clear hnt
        obtain ⟨v1, hv1⟩ : ∃ x, x = (H.wd k).v := ⟨_, rfl⟩
        obtain ⟨v0, hv0⟩ : ∃ x, x = (H.wd k).b := ⟨_, rfl⟩
        obtain ⟨pv, hpv⟩ : ∃ x, x = H.pl.v := ⟨_, rfl⟩
        rw [← hv1, ← hv0] at LK
        rw [← hpv] at VA
        rw [← hv1, ← hpv] at NS
        clear hv1 hv0 hpv
        by_cases hvv : v1 < pv
        · replace NS := hid (NS.out.trans (if_pos hvv))
          go_upto_region 7 with (fail)
          refine wp_region_held_drew (S := fun (w' : World) => HeadAt w' b c m n H ∧ Below wr.heap.size wr w') (by kernel_rfl) ?_ (fun hHeld => ?_)
          · exact ⟨H3.out.drew, below_drew _⟩
          refine tkq 0 hHeld ?_
          refine tkq 1 hHeld ?_
          refine tkq 2 hHeld ?_
          refine tkq 3 hHeld ?_ (hy := by intro w hSw; (try dsimp only at hSw); have x0 := hSw.1.c669; go_simp; (try with_reducible rfl))
          refine tkq 4 hHeld ?_
          refine tkq 5 hHeld ?_ (hy := by intro w hSw; (try dsimp only at hSw); have x1 := LK.out _ hSw.1; go_simp; (try with_reducible rfl))
          refine tkq 6 hHeld ?_ (hy := by intro w hSw; (try dsimp only at hSw); have x2 := fld_wd v0 v1; go_simp; (try with_reducible rfl))
          refine tkq 7 hHeld ?_
          refine only 8 rfl (by kernel_rfl) rfl (fun K hK => ?_)
          go_simp
          refine (VA.out _ hHeld.1).mono ?_
          rintro e' w' ⟨rfl, rfl⟩
          try go_wp2_with fail
          refine hK.out _ _ (hHeld) (fun h2 => ?_)
          clear hK
          try simp only [Act.put, List.setIfInBounds_toArray, List.set_cons_zero, List.set_cons_succ]
          refine tkq 9 h2 ?_
          have H4 := hid h2.1
          have B4 := hid h2.2
          clear h2 hHeld
          refine wpAnyH_done (by kernel_rfl) ?_ _
          go_wp2_with fail
          refine (NT.out _ H4.out).mono ?_
          rintro x w5 ⟨rfl, hb⟩
          have S5 := hid (HS.below (L := []) (S := []) (W := wr) (w := wr.drew) (HS.start.drew) hb)
          clear hb
          go_simp
          go_wp2_with (first | ((with_reducible refine wl_id ?_); refine wl_ow rfl (ow_bs rfl rfl S5.out ?_); intro U w6 hZ; have S6 := hid hZ; have O6 := hid (HO.out.keep hZ.bl (Nat.le_refl _)); clear hZ) | ((with_reducible refine wl_id ?_); refine wp_app_n rfl _ _ rfl B u3 l nt rfl O6.out U 1 rfl (S6.out.fb 0 rfl) (by omega) (Nat.le_trans BS.out S6.out.bl.size) ?_; intro A' c' w7 hO7 hB7; have O7 := hid hO7; have B7 := hid hB7; clear hO7 hB7))
          have B8 := hid ((S6.out.bl.mono BS.out).trans B7.out)
          have H8 := hid (H3.out.bel B8.out (Nat.lt_of_lt_of_le HLT.out.1 HBW.out) (Nat.lt_of_lt_of_le HLT.out.2.1 HBW.out) (Nat.lt_of_lt_of_le HLT.out.2.2 HBW.out))
          go_roundw
          case rel => exact ⟨k + 1, by omega, by go_num, by rw [NS.out]; exact O7.out, H8.out, BL.out.trans B8.out⟩
          case measure => simp [intOf]; omega
        · replace NS := hid (NS.out.trans (if_neg hvv))
          go_upto_region 7 with (fail)
          refine wp_region_held_drew (S := fun (w' : World) => HeadAt w' b c m n H ∧ Below wr.heap.size wr w') (by kernel_rfl) ?_ (fun hHeld => ?_)
          · exact ⟨H3.out.drew, below_drew _⟩
          refine tkq 0 hHeld ?_
          refine tkq 1 hHeld ?_
          refine tkq 2 hHeld ?_
          refine tkq 3 hHeld ?_ (hy := by intro w hSw; (try dsimp only at hSw); have x0 := hSw.1.c669; go_simp; (try with_reducible rfl))
          refine tkq 4 hHeld ?_
          refine tkq 5 hHeld ?_ (hy := by intro w hSw; (try dsimp only at hSw); have x1 := LK.out _ hSw.1; go_simp; (try with_reducible rfl))
          refine tkq 6 hHeld ?_ (hy := by intro w hSw; (try dsimp only at hSw); have x2 := fld_wd v0 v1; go_simp; (try with_reducible rfl))
          refine tkq 7 hHeld ?_
          refine only 8 rfl (by kernel_rfl) rfl (fun K hK => ?_)
          go_simp
          refine (VA.out _ hHeld.1).mono ?_
          rintro e' w' ⟨rfl, rfl⟩
          try go_wp2_with fail
          refine hK.out _ _ (hHeld) (fun h2 => ?_)
          clear hK
          try simp only [Act.put, List.setIfInBounds_toArray, List.set_cons_zero, List.set_cons_succ]
          refine tkq 9 h2 ?_
          have H4 := hid h2.1
          have B4 := hid h2.2
          clear h2 hHeld
          refine wpAnyH_done (by kernel_rfl) ?_ _
          go_wp2_with fail
          go_roundw
          case rel => exact ⟨k + 1, by omega, by go_num, by rw [NS.out]; exact HO.out.keep B4.out (Nat.le_refl _), H4.out, BL.out.trans (B4.out.mono BS.out)⟩
          case measure => simp [intOf]; omega
      · have hku : k = u := by omega
        have O9 := hid (show OwN wr B u3 (notesK H u) from by rw [← hku]; exact HO.out)
        clear HO hku
        obtain ⟨A', c', hv', hlc, _, _⟩ := Ow.form_ O9.out
        subst hv'
        go_wp2_with fail
        go_ret
        refine (HP.out _ _).2 ⟨A', c', rfl, hlc, H3.out, C2.out.step (T := []) ⟨⟨BL.out.os, BL.out.tape, BL.out.output⟩, BL.out.size, fun i hi _ => BL.out.block i (by rw [HB.out]; exact hi)⟩ (by simp), fun h0 => ?_⟩
        obtain ⟨g, e, hg, hgl, hcell, hfr⟩ := Ow.block_ O9.out h0
        exact ⟨g, e, Nat.le_trans HBW.out hg, hgl, fun j hj => hcell j hj, hfr⟩
  · have PU := hid (publish_any H1.out hp)
    have HE := hid (show H = pubH h from by rw [hHH]; unfold sendH; rw [if_pos ab])
    clear hHH hun hp
    have AB := hid ab
    clear ab
    go_wp2_with fail
    refine PU.out.mono ?_
    rintro x w2 ⟨rfl, hq, hc⟩
    rw [← HE.out] at hq
    have H2 := hid hq
    have C2 := hid (C1.out.trans hc)
    clear hq hc PU C1 H1
    have c668 := H2.out.c668
    rw [HUN.out] at c668
    go_wp2_with fail
    clear c668
    obtain ⟨B, hB⟩ : ∃ B, B = w2.heap.size := ⟨_, rfl⟩
    have HB := hid hB
    clear hB
    have HBW := hid (show w.heap.size ≤ B from by rw [HB.out]; exact C2.out.2.1)
    go_loopw [3, 13] (fun v i wx => ∃ k : Nat, k ≤ u ∧ i = .int .i64 (k : Int) ∧ OwN wx B v (notesK H k) ∧ HeadAt wx b c m n H ∧ Below B w2 wx) (fun _ i _ => u - (intOf i).toNat)
    case atStart => exact ⟨0, Nat.zero_le _, rfl, Ow.none_, H2.out, Below.refl _ _⟩
    case round =>
      obtain ⟨k, hk, rfl, hO, hH3, hBl⟩ := hrel
      have HO := hid hO
      have H3 := hid hH3
      have BL := hid hBl
      clear hO hH3 hBl
      have BS := hid (show B ≤ wr.heap.size from by rw [HB.out]; exact BL.out.size)
      by_cases hlt : (k : Int) < u
      · have LK := hid (fun (w : World) (hh : HeadAt w b c m n H) => hd_look hh k (by rw [HUN.out]; omega) (by rw [HUN.out]; omega))
        have VA := hid (fun w (hh : HeadAt w b c m n H) => version_any hh)
        have NT := hid (fun w (hh : HeadAt w b c m n H) => note_any hh (by rw [HUN.out]; omega) k (by rw [HUN.out]; omega) hv2)
        have NS := hid (notesK_succ H k)
        have NL := notesK_len H k
        obtain ⟨l, hl⟩ : ∃ l, l = notesK H k := ⟨_, rfl⟩
        rw [← hl] at HO NS NL
        clear hl
        obtain ⟨nt, hnt⟩ : ∃ x, x = noteH H k := ⟨_, rfl⟩
        rw [← hnt] at NT NS
        clear hnt
        obtain ⟨v1, hv1⟩ : ∃ x, x = (H.wd k).v := ⟨_, rfl⟩
        obtain ⟨v0, hv0⟩ : ∃ x, x = (H.wd k).b := ⟨_, rfl⟩
        obtain ⟨pv, hpv⟩ : ∃ x, x = H.pl.v := ⟨_, rfl⟩
        rw [← hv1, ← hv0] at LK
        rw [← hpv] at VA
        rw [← hv1, ← hpv] at NS
        clear hv1 hv0 hpv
        by_cases hvv : v1 < pv
        · replace NS := hid (NS.out.trans (if_pos hvv))
          go_upto_region 7 with (fail)
          refine wp_region_held_drew (S := fun (w' : World) => HeadAt w' b c m n H ∧ Below wr.heap.size wr w') (by kernel_rfl) ?_ (fun hHeld => ?_)
          · exact ⟨H3.out.drew, below_drew _⟩
          refine tkq 0 hHeld ?_
          refine tkq 1 hHeld ?_
          refine tkq 2 hHeld ?_
          refine tkq 3 hHeld ?_ (hy := by intro w hSw; (try dsimp only at hSw); have x0 := hSw.1.c669; go_simp; (try with_reducible rfl))
          refine tkq 4 hHeld ?_
          refine tkq 5 hHeld ?_ (hy := by intro w hSw; (try dsimp only at hSw); have x1 := LK.out _ hSw.1; go_simp; (try with_reducible rfl))
          refine tkq 6 hHeld ?_ (hy := by intro w hSw; (try dsimp only at hSw); have x2 := fld_wd v0 v1; go_simp; (try with_reducible rfl))
          refine tkq 7 hHeld ?_
          refine only 8 rfl (by kernel_rfl) rfl (fun K hK => ?_)
          go_simp
          refine (VA.out _ hHeld.1).mono ?_
          rintro e' w' ⟨rfl, rfl⟩
          try go_wp2_with fail
          refine hK.out _ _ (hHeld) (fun h2 => ?_)
          clear hK
          try simp only [Act.put, List.setIfInBounds_toArray, List.set_cons_zero, List.set_cons_succ]
          refine tkq 9 h2 ?_
          have H4 := hid h2.1
          have B4 := hid h2.2
          clear h2 hHeld
          refine wpAnyH_done (by kernel_rfl) ?_ _
          go_wp2_with fail
          refine (NT.out _ H4.out).mono ?_
          rintro x w5 ⟨rfl, hb⟩
          have S5 := hid (HS.below (L := []) (S := []) (W := wr) (w := wr.drew) (HS.start.drew) hb)
          clear hb
          go_simp
          go_wp2_with (first | ((with_reducible refine wl_id ?_); refine wl_ow rfl (ow_bs rfl rfl S5.out ?_); intro U w6 hZ; have S6 := hid hZ; have O6 := hid (HO.out.keep hZ.bl (Nat.le_refl _)); clear hZ) | ((with_reducible refine wl_id ?_); refine wp_app_n rfl _ _ rfl B u3 l nt rfl O6.out U 1 rfl (S6.out.fb 0 rfl) (by omega) (Nat.le_trans BS.out S6.out.bl.size) ?_; intro A' c' w7 hO7 hB7; have O7 := hid hO7; have B7 := hid hB7; clear hO7 hB7))
          have B8 := hid ((S6.out.bl.mono BS.out).trans B7.out)
          have H8 := hid (H3.out.bel B8.out (Nat.lt_of_lt_of_le HLT.out.1 HBW.out) (Nat.lt_of_lt_of_le HLT.out.2.1 HBW.out) (Nat.lt_of_lt_of_le HLT.out.2.2 HBW.out))
          go_roundw
          case rel => exact ⟨k + 1, by omega, by go_num, by rw [NS.out]; exact O7.out, H8.out, BL.out.trans B8.out⟩
          case measure => simp [intOf]; omega
        · replace NS := hid (NS.out.trans (if_neg hvv))
          go_upto_region 7 with (fail)
          refine wp_region_held_drew (S := fun (w' : World) => HeadAt w' b c m n H ∧ Below wr.heap.size wr w') (by kernel_rfl) ?_ (fun hHeld => ?_)
          · exact ⟨H3.out.drew, below_drew _⟩
          refine tkq 0 hHeld ?_
          refine tkq 1 hHeld ?_
          refine tkq 2 hHeld ?_
          refine tkq 3 hHeld ?_ (hy := by intro w hSw; (try dsimp only at hSw); have x0 := hSw.1.c669; go_simp; (try with_reducible rfl))
          refine tkq 4 hHeld ?_
          refine tkq 5 hHeld ?_ (hy := by intro w hSw; (try dsimp only at hSw); have x1 := LK.out _ hSw.1; go_simp; (try with_reducible rfl))
          refine tkq 6 hHeld ?_ (hy := by intro w hSw; (try dsimp only at hSw); have x2 := fld_wd v0 v1; go_simp; (try with_reducible rfl))
          refine tkq 7 hHeld ?_
          refine only 8 rfl (by kernel_rfl) rfl (fun K hK => ?_)
          go_simp
          refine (VA.out _ hHeld.1).mono ?_
          rintro e' w' ⟨rfl, rfl⟩
          try go_wp2_with fail
          refine hK.out _ _ (hHeld) (fun h2 => ?_)
          clear hK
          try simp only [Act.put, List.setIfInBounds_toArray, List.set_cons_zero, List.set_cons_succ]
          refine tkq 9 h2 ?_
          have H4 := hid h2.1
          have B4 := hid h2.2
          clear h2 hHeld
          refine wpAnyH_done (by kernel_rfl) ?_ _
          go_wp2_with fail
          go_roundw
          case rel => exact ⟨k + 1, by omega, by go_num, by rw [NS.out]; exact HO.out.keep B4.out (Nat.le_refl _), H4.out, BL.out.trans (B4.out.mono BS.out)⟩
          case measure => simp [intOf]; omega
      · have hku : k = u := by omega
        have O9 := hid (show OwN wr B u3 (notesK H u) from by rw [← hku]; exact HO.out)
        clear HO hku
        obtain ⟨A', c', hv', hlc, _, _⟩ := Ow.form_ O9.out
        subst hv'
        go_wp2_with fail
        go_ret
        refine (HP.out _ _).2 ⟨A', c', rfl, hlc, H3.out, C2.out.step (T := []) ⟨⟨BL.out.os, BL.out.tape, BL.out.output⟩, BL.out.size, fun i hi _ => BL.out.block i (by rw [HB.out]; exact hi)⟩ (by simp), fun h0 => ?_⟩
        obtain ⟨g, e, hg, hgl, hcell, hfr⟩ := Ow.block_ O9.out h0
        exact ⟨g, e, Nat.le_trans HBW.out hg, hgl, fun j hj => hcell j hj, hfr⟩
end
end Go.Proofs.YteefhiniamajkaaGreat
