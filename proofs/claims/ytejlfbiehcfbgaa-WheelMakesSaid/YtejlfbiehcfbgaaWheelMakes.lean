/- roundhouselaw7.WheelMakes answers true for every row, any two numbers; no condition. -/
import Derived.Test.YtejlfbiehcfbgaaWhlLaw3
import Derived.Test.YtejlfbiehcfbgaaWhlRmake
import Derived.Deep.CutRange
import Derived.BigQuiet
import Derived.Deep.RegionHeld3
import Derived.Deep.Cut
namespace Go.Proofs.Ytejlfbiehcfbgaa.wheelMakes
set_option linter.unusedVariables false
set_option linter.unusedSimpArgs false
open Go.RowKit Go.ChangeShapes Go.WideShapes Go.ChangeAt

attribute [local irreducible] PA ia cAt cBy atP byP wtP S3 sumW S5 pkW
set_option maxRecDepth 100000 in
set_option maxHeartbeats 8000000 in
theorem walk (W : World) (A1 : Option Addr) (n1 c1 : Nat) (g1 : Nat → Int) (hn1 : n1 ≤ c1) (hc1 : c1 ≤ maxLen) (hr1 : Is W A1 n1 g1) (hg1 : IsI g1) (hl1 : ∀ ad, A1 = some ad → 0 < n1 → ad.block < W.heap.size) (re1 : c1 * 8 ≤ 140737488351232) (a0 : Int) (r_a0 : -9223372036854775808 ≤ a0 ∧ a0 ≤ 9223372036854775807) (b0 : Int) (r_b0 : -9223372036854775808 ≤ b0 ∧ b0 ≤ 9223372036854775807) :
    Calls Try.prog 3 #[.slice A1 n1 c1, .int .i64 a0, .int .i64 b0] W fun e w' => e = .returned (.bool true) ∧ Below W.heap.size W w' := by
  have hz : ∀ w : World, (zeroValue 33).run Try.prog w = .ok (.agg (PA zPl)) w := fun w => zero_pl w
  have hz1 := pa_size zPl
  have hz2 := pa_ne zPl
  unfold maxLen at hc1
  have hnm : (n1 : Int) ≤ 9223372036854775807 := by have := hn1; omega
  have HL := hid hl1
  clear hl1 re1
  obtain ⟨p, hp⟩ : ∃ p, p = mkP g1 (min n1 60) := ⟨_, rfl⟩
  have HQ := hid (show Pinv p 60 from by rw [hp]; exact (mkP_inv g1 _).mono (by omega))
  have HPW := hid (show Pw p from by rw [hp]; exact mk_pw g1 _)
  have MK := hid (fun (w : World) (h : Is w A1 n1 g1) (hl : ∀ ad, A1 = some ad → 0 < n1 → ad.block < w.heap.size) => (show Calls Try.prog 14 #[.slice A1 n1 c1, .int .i64 60] w fun x w' => x = .returned (.agg (PA p)) ∧ Below w.heap.size w w' from by rw [hp]; exact make_any w A1 n1 c1 g1 h hl hnm 60 (by omega)))
  clear hp
  have M7 := hid (show ∀ w, Calls Try.prog 15 #[.agg (PA p)] w fun x w' => ∃ B : Nat, x = .returned (.slice (some ⟨B, 0, none⟩) 127 127) ∧ w.heap.size ≤ B ∧ IA w' B 127 (whlW p) ∧ Below w.heap.size w w' from fun w => make7_any p HPW.out w)
  have R7 := hid (show ∀ w, Calls Try.prog 16 #[.agg (PA p)] w fun x w' => ∃ B : Nat, x = .returned (.slice (some ⟨B, 0, none⟩) 127 127) ∧ w.heap.size ≤ B ∧ IA w' B 127 (whlW p) ∧ Below w.heap.size w w' from fun w => rmake7_any p HPW.out w)
  obtain ⟨u, hu⟩ : ∃ x, x = wi a0 70 := ⟨_, rfl⟩
  have bu := wi_bd a0 70 (by omega)
  rw [← hu] at bu
  have Wu := hid (fun w => re_i64 (within_any a0 70 w (by omega) (by omega)) hu.symm)
  clear hu
  obtain ⟨bu1, bu2⟩ := bu
  obtain ⟨f, hf⟩ : ∃ f, f = flN a0 b0 := ⟨_, rfl⟩
  have FOK := fl_ok a0 b0
  have LF0 := fun w => lflow_any a0 b0 w ⟨by omega, by omega⟩ ⟨by omega, by omega⟩
  rw [← hf] at FOK LF0
  clear hf
  obtain ⟨pv, hpv⟩ : ∃ pv, pv = whlW p (pkW f).toNat := ⟨_, rfl⟩
  have PK := fun (B : Nat) (w : World) (h : IA w B 127 (whlW p)) => pick_any (some ⟨B, 0, none⟩) 127 _ f FOK w h.slice
  have RK := fun (B : Nat) (w : World) (h : IA w B 127 (whlW p)) => rpick_any (some ⟨B, 0, none⟩) 127 _ f FOK w h.slice
  rw [← hpv] at PK RK
  clear hpv FOK
  obtain ⟨fa, fp, ft, fq⟩ := f
  unfold flV at LF0 PK RK
  simp only at LF0 PK RK
  have LF := hid LF0
  have PKH := hid PK
  have RKH := hid RK
  clear LF0 PK RK
  have SH := hid (fun (B : Nat) (w : World) (h : IA w B 127 (whlW p)) => share_any (some ⟨B, 0, none⟩) 127 127 (whlW p) (u - 1) ⟨by omega, by omega⟩ w h.slice (by decide))
  have RH := hid (fun (B : Nat) (w : World) (h : IA w B 127 (whlW p)) => rshare_any (some ⟨B, 0, none⟩) 127 127 (whlW p) (u - 1) ⟨by omega, by omega⟩ w h.slice (by decide))
  go_enter Try.func3, Try.ntmps3
  go_wp2_with fail
  refine (known7_any _).mono ?_
  rintro x w1 ⟨rfl, hB⟩
  have R1 := hid (hr1.below hB (Nat.le_refl _))
  have B1 := hid hB
  clear hr1 hB
  go_wp2_with fail
  refine (MK.out _ R1.out (fun ad e h => Nat.lt_of_lt_of_le (HL.out ad e h) B1.out.size)).mono ?_
  rintro x w2 ⟨rfl, hb⟩
  have S2 := hid ((SG.start B1.out).below hb)
  clear hb R1 B1 MK
  have ST := hid ((sg_new (w := w2) (T := 33)).storeA p)
  have S3 := hid (SG.put S2.out (T := 33) zPl p (by simp))
  go_upto_region 4 with ((with_reducible refine wl_id ?_); refine wl_store rfl rfl rfl rfl ST.out ?_)
  clear ST S2
  generalize (w2.alloc (.cells (PA zPl) 33)).setCells w2.heap.size 0 (PA p).toList = w3 at *
  generalize w2.heap.size = P at *
  try simp only [Act.put, List.setIfInBounds_toArray, List.set_cons_zero, List.set_cons_succ]
  go_cut [8, 9] from 14 to 17 (fun x y wx => ∃ B1 B2 : Nat, x = .slice (some ⟨B1, 0, none⟩) 127 127 ∧ y = .slice (some ⟨B2, 0, none⟩) 127 127 ∧ IA wx B1 127 (whlW p) ∧ IA wx B2 127 (whlW p) ∧ Below W.heap.size W wx)
  case first =>
    refine wp_region_held_drew (S := fun w' => SG W w' [(P, p)] []) (by kernel_rfl) ?_ (fun hHeld => ?_)
    · exact S3.out.drew
    refine tk 0 (v := .agg (PA p)) rfl (by kernel_rfl) (by kernel_rfl) (by kernel_rfl) (fun _ _ _ h => h) rfl (fun w hSw => ex_load rfl rfl (SG.get hSw (b := P) (p := p) (by simp)).loadA) hHeld ?_; (try simp only [Act.put, List.setIfInBounds_toArray, List.set_cons_zero, List.set_cons_succ])
    refine tk 2 (v := .agg (PA p)) rfl (by kernel_rfl) (by kernel_rfl) (by kernel_rfl) (fun _ _ _ h => h) rfl (fun w hSw => ex_load rfl rfl (SG.get hSw (b := P) (p := p) (by simp)).loadA) hHeld ?_; (try simp only [Act.put, List.setIfInBounds_toArray, List.set_cons_zero, List.set_cons_succ])
    refine only 1 rfl (by kernel_rfl) rfl (fun K hK => ?_)
    go_simp
    refine (M7.out _).mono ?_
    rintro e' w' ⟨B1, rfl, l1, hI1, hb⟩
    try go_wp2_with fail
    refine hK.out _ _ (SG.below hHeld hb) (fun h1 => ?_)
    clear hK hb
    try simp only [Act.put, List.setIfInBounds_toArray, List.set_cons_zero, List.set_cons_succ]
    refine only 3 rfl (by kernel_rfl) rfl (fun K hK => ?_)
    go_simp
    refine (R7.out _).mono ?_
    rintro e' w' ⟨B2, rfl, l2, hI2, hb⟩
    try go_wp2_with fail
    have hI3 := hI1.below hb
    refine hK.out _ _ (SG.below h1 hb) (fun h2 => ?_)
    clear hK hb
    try simp only [Act.put, List.setIfInBounds_toArray, List.set_cons_zero, List.set_cons_succ]
    refine tk 4 (v := ?_) rfl (by kernel_rfl) (by kernel_rfl) (by kernel_rfl) (fun _ _ _ h => h) rfl ?_ h2 ?_; rotate_left; (focus (intro w hSw; (try dsimp only at hSw);  go_simp; (try with_reducible rfl))); (try simp only [Act.put, List.setIfInBounds_toArray, List.set_cons_zero, List.set_cons_succ])
    refine tk 5 (v := ?_) rfl (by kernel_rfl) (by kernel_rfl) (by kernel_rfl) (fun _ _ _ h => h) rfl ?_ h2 ?_; rotate_left; (focus (intro w hSw; (try dsimp only at hSw);  go_simp; (try with_reducible rfl))); (try simp only [Act.put, List.setIfInBounds_toArray, List.set_cons_zero, List.set_cons_succ])
    refine wpAnyH_done (by kernel_rfl) ?_ _
    go_wp2_with fail
    go_meet
    exact ⟨B1, B2, rfl, rfl, hI3, hI2, h2.bl⟩
  case rest =>
    obtain ⟨B1, B2, rfl, rfl, hI1, hI2, hB⟩ := hcut
    have I1 := hid hI1
    have I2 := hid hI2
    have BB := hid hB
    clear hI1 hI2 hB S3 M7 R7
    go_wp2_with fail
    refine (same_any (some ⟨B1, 0, none⟩) (some ⟨B2, 0, none⟩) 127 127 127 _ _ _ I1.out.slice I2.out.slice (fun j _ => rfl) (by decide)).mono ?_
    rintro x w' ⟨rfl, hb⟩
    have J1 := hid (I1.out.below hb)
    have J2 := hid (I2.out.below hb)
    have CB := hid (BB.out.trans (hb.mono BB.out.size))
    clear hb I1 I2 BB
    go_wp2_with fail
    refine (LF.out _).mono ?_
    rintro x wn0 ⟨rfl, hb⟩
    have K1 := hid (J1.out.below hb)
    have K2 := hid (J2.out.below hb)
    have DB := hid (CB.out.trans (hb.mono CB.out.size))
    clear hb J1 J2 CB
    have J1 := K1
    have J2 := K2
    have CB := DB
    clear K1 K2 DB
    go_wp2_with fail
    refine (PKH.out B1 _ J1.out).mono ?_
    rintro x wn1 ⟨rfl, hb⟩
    have K1 := hid (J1.out.below hb)
    have K2 := hid (J2.out.below hb)
    have DB := hid (CB.out.trans (hb.mono CB.out.size))
    clear hb J1 J2 CB
    have J1 := K1
    have J2 := K2
    have CB := DB
    clear K1 K2 DB
    go_wp2_with fail
    refine (LF.out _).mono ?_
    rintro x wn2 ⟨rfl, hb⟩
    have K1 := hid (J1.out.below hb)
    have K2 := hid (J2.out.below hb)
    have DB := hid (CB.out.trans (hb.mono CB.out.size))
    clear hb J1 J2 CB
    have J1 := K1
    have J2 := K2
    have CB := DB
    clear K1 K2 DB
    go_wp2_with fail
    refine (RKH.out B2 _ J2.out).mono ?_
    rintro x wn3 ⟨rfl, hb⟩
    have K1 := hid (J1.out.below hb)
    have K2 := hid (J2.out.below hb)
    have DB := hid (CB.out.trans (hb.mono CB.out.size))
    clear hb J1 J2 CB
    have J1 := K1
    have J2 := K2
    have CB := DB
    clear K1 K2 DB
    go_wp2_with fail
    refine (Wu.out _).mono ?_
    rintro x w' ⟨rfl, rfl⟩
    go_wp2_with fail
    refine (SH.out B1 _ J1.out).mono ?_
    rintro x w' ⟨rfl, rfl⟩
    go_wp2_with fail
    refine (Wu.out _).mono ?_
    rintro x w' ⟨rfl, rfl⟩
    go_wp2_with fail
    refine (RH.out B2 _ J2.out).mono ?_
    rintro x w' ⟨rfl, rfl⟩
    go_wp2_with fail
    go_ret
    exact ⟨rfl, CB.out⟩

set_option maxRecDepth 100000 in
theorem lifted (os : Os) (started : os.Started) (H : Type) (enc : TypeId × Value → H) :
    ReturnsInHanded {} Try.checked os 3 .any (Rows.wheelMakesSpec.pre6 enc Try.prog Try.f3 [] false) (Rows.wheelMakesSpec.post enc Try.prog Try.f3 false true false false) :=
  law_step (s := Rows.wheelMakesSpec) started (by kernel_rfl) Try.func3
    (ChangeSpec.witness6 (s := Rows.wheelMakesSpec) (enc := enc) (C := Try.checked) false ⟨#[], #[.slice none 0 0, .int .i64 0, .int .i64 0], []⟩ 8 (by kernel_rfl) (by kernel_rfl) (by kernel_rfl) (by kernel_rfl))
    rfl (by rw [Try.params3]; decide +kernel) rfl Try.underlying4
    (fun ds h => by
      rw [Try.params3] at h
      match ds, h with
      | [_, _, _], _ => rfl)
    (fun W base args ds ps hval hA hsz => by
      rw [Try.params3] at hA hval hsz
      obtain ⟨v0, vs0, d0, ds0, p0, q0, hargs, rfl, rfl, h0, r0⟩ := trodAll_cons hA
      obtain ⟨v1, vs1, d1, ds1, p1, q1, rfl, rfl, rfl, h1, r1⟩ := trodAll_cons r0
      obtain ⟨v2, vs2, d2, ds2, p2, q2, rfl, rfl, rfl, h2, r2⟩ := trodAll_cons r1
      obtain ⟨rfl, rfl, rfl⟩ := trodAll_nil r2
      obtain rfl : args = #[v0, v1, v2] := by cases args; simp_all
      obtain ⟨A0, n0, c0, g0, rfl, hn0, hc0, hs0, hw0, hl0, hd0⟩ := open_row Try.underlying22 Try.underlying3 (by kernel_rfl) (hval 0 22 v0 rfl rfl) h0
      have re0 : c0 * 8 ≤ 140737488351232 := by
        rcases hd0 with ⟨_, h0⟩ | ⟨xs, ys, h1, h2⟩
        · omega
        · have := sized_slice hsz (j := 0) (t := 22) (e := 3) rfl (by rw [h1]; rfl) Try.underlying22
          rw [h2, show Try.prog.bytesOf 3 = 8 from by kernel_rfl] at this
          simpa [reachBytes] using this
      obtain ⟨a1, rfl, rfl, rfl, w1⟩ := open_int Try.underlying3 (hval 1 3 v1 rfl rfl) h1
      obtain ⟨a2, rfl, rfl, rfl, w2⟩ := open_int Try.underlying3 (hval 2 3 v2 rfl rfl) h2
      exact walk W A0 n0 c0 g0 hn0 hc0 hs0 (fun j => bounds_i64 (hw0 j)) hl0 re0 a1 (bounds_i64 w1) a2 (bounds_i64 w2))

theorem proved : Rows.WheelMakesSaid :=
  OpenClaim.holds_of_wide 3 Try.f3 rfl rfl rfl rfl rfl rfl rfl ⟨rfl, rfl, rfl, rfl, rfl⟩ rfl rfl rfl rfl rfl (by kernel_rfl) Try.func3 (by kernel_rfl)
    (of_decide_eq_true (by kernel_rfl)) (by unfold Func.isWrapper; first | (rw [if_pos (by decide +kernel)]; kernel_rfl) | (rw [if_neg (by decide +kernel)]; exact ⟨rfl, rfl⟩))
    (fun os started H enc _ => lifted os started H enc)
end Go.Proofs.Ytejlfbiehcfbgaa.wheelMakes
