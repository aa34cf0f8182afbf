/- roundhouselaw6.PoolAlls answers true for every two rows; no condition. -/
import Derived.Test.YtdobcdhdeagekaaPolRow
import Derived.BigQuiet
import Derived.Deep.RegionHeld3
import Derived.Deep.Cut
namespace Go.Proofs.Ytdobcdhdeagekaa.poolAlls
set_option linter.unusedVariables false
set_option linter.unusedSimpArgs false
open Go.RowKit Go.ChangeShapes Go.WideShapes Go.ChangeAt

attribute [local irreducible] PA
set_option maxRecDepth 100000 in
set_option maxHeartbeats 8000000 in
theorem walk (W : World) (A1 : Option Addr) (n1 c1 : Nat) (g1 : Nat → Int) (hn1 : n1 ≤ c1) (hc1 : c1 ≤ maxLen) (hr1 : Is W A1 n1 g1) (hg1 : IsI g1) (hl1 : ∀ ad, A1 = some ad → 0 < n1 → ad.block < W.heap.size) (re1 : c1 * 8 ≤ 140737488351232) (A2 : Option Addr) (n2 c2 : Nat) (g2 : Nat → Int) (hn2 : n2 ≤ c2) (hc2 : c2 ≤ maxLen) (hr2 : Is W A2 n2 g2) (hg2 : IsI g2) (hl2 : ∀ ad, A2 = some ad → 0 < n2 → ad.block < W.heap.size) (re2 : c2 * 8 ≤ 140737488351232) :
    Calls Try.prog 5 #[.slice A1 n1 c1, .slice A2 n2 c2] W fun e w' => e = .returned (.bool true) ∧ Below W.heap.size W w' := by
  have hz : ∀ w : World, (zeroValue 34).run Try.prog w = .ok (.agg (PA zPl)) w := fun w => zero_pl w
  have hz1 := pa_size zPl
  have hz2 := pa_ne zPl
  unfold maxLen at hc1 hc2
  have hnm : (n1 : Int) ≤ 9223372036854775807 := by have := hn1; omega
  have HL := hid hl1
  have hn2m : (n2 : Int) ≤ 9223372036854775807 := by have := hn2; omega
  have HR2 := hid hr2
  clear hl1 re1 hl2 re2 hr2
  obtain ⟨p, hp⟩ : ∃ p, p = mkP g1 (min n1 40) := ⟨_, rfl⟩
  have HQ := hid (show Pinv p 40 from by rw [hp]; exact (mkP_inv g1 _).mono (by omega))
  have MK := hid (fun (w : World) (h : Is w A1 n1 g1) (hl : ∀ ad, A1 = some ad → 0 < n1 → ad.block < w.heap.size) => (show Calls Try.prog 24 #[.slice A1 n1 c1, .int .i64 40] w fun x w' => x = .returned (.agg (PA p)) ∧ Below w.heap.size w w' from by rw [hp]; exact make_any w A1 n1 c1 g1 h hl hnm 40 (by omega)))
  clear hp
  go_enter Try.func5, Try.ntmps5
  go_wp2_with fail
  refine (known_any _).mono ?_
  rintro x w1 ⟨rfl, hB⟩
  have R1 := hid (hr1.below hB (Nat.le_refl _))
  have B1 := hid hB
  clear hr1 hB
  go_wp2_with fail
  refine (MK.out _ R1.out (fun ad e h => Nat.lt_of_lt_of_le (HL.out ad e h) B1.out.size)).mono ?_
  rintro x w2 ⟨rfl, hb⟩
  have S2 := hid ((SG.start B1.out).below hb)
  clear hb R1 B1 MK
  have ST := hid ((sg_new (w := w2) (T := 34)).storeA p)
  have S3 := hid (SG.put S2.out (T := 34) zPl p (by simp))
  go_upto_region 4 with ((with_reducible refine wl_id ?_); refine wl_store rfl rfl rfl rfl ST.out ?_)
  clear ST S2
  generalize (w2.alloc (.cells (PA zPl) 34)).setCells w2.heap.size 0 (PA p).toList = w3 at *
  generalize w2.heap.size = P at *
  have lD := S3.out.bl.size
  have dP := (SG.get S3.out (b := P) (p := p) (by simp)).1
  obtain ⟨D, hD⟩ : ∃ D, D = w3.heap.size := ⟨_, rfl⟩
  rw [← hD] at lD dP
  have HD := hid hD
  clear hD
  obtain ⟨GG, hG⟩ : ∃ GG : Nat → En, GG = fun k => enN (g2 k) := ⟨_, rfl⟩
  have HG := hid (fun k => (show GG k = enN (g2 k) from by rw [hG]))
  clear hG
  have lDD := hid (show D ≤ w3.heap.size from by rw [HD.out]; exact Nat.le_refl _)
  clear HD
  go_wp2_with fail
  go_loopw [6, 7] (fun v i wr => ∃ (k : Nat) (A : Option Addr) (d : Nat), k ≤ n2 ∧ k ≤ 20 ∧ v = .slice A k d ∧ i = .int .i64 (k : Int) ∧ D ≤ wr.heap.size ∧ OwE wr D (.slice A k d) k GG ∧ SG W wr [(P, p)] []) (fun _ i _ => 20 - (intOf i).toNat)
  case atStart => exact ⟨0, none, 0, by omega, by omega, rfl, rfl, lDD.out, OwE.nil, S3.out⟩
  case round =>
    clear S3 lDD
    obtain ⟨k, A, d, hk, hk20, rfl, rfl, hDr, hO, hS⟩ := hrel
    have S := hid hS
    have HO := hid hO
    clear hS hO
    by_cases hlt : k < n2 ∧ k < 20
    · obtain ⟨hlt1, hlt2⟩ := hlt
      have i0 : (0 : Int) ≤ k := by omega
      have i1 : (k : Int) < n2 := by omega
      have i2 : (k : Int) < 20 := by omega
      have R2 := Sl.below HR2.out S.out.bl (Nat.le_refl _)
      obtain ⟨bb, off, rfl⟩ := Sl.addr R2 (by omega)
      have xc := Sl.at_ R2 (j := k) hlt1
      clear R2
      have EN0 := fun w => entry_any (g2 k) w
      obtain ⟨en, hen⟩ : ∃ en, en = enN (g2 k) := ⟨_, rfl⟩
      have HE := hid ((HG.out k).trans hen.symm)
      rw [← hen] at EN0
      clear hen
      obtain ⟨e1, e2, e3, e4, e5, e6, e7⟩ := en
      unfold enV at EN0
      simp only at EN0
      have EN := hid EN0
      clear EN0
      go_wp2_with fail
      clear xc
      refine (EN.out _).mono ?_
      rintro x w4 ⟨rfl, hb⟩
      have S4 := hid (S.out.below hb)
      have HO4 := hid (HO.out.keep hb (Nat.le_refl _))
      have l4 := Nat.le_trans hDr hb.size
      clear hb S HO EN
      have hne := hid (HO4.out.ge dP)
      go_wp2_with (at_builtin; refine wp_app_e rfl (.tmp 31) (.tmp 37) rfl D _ k GG rfl (Ow.alloc HO4.out _) w4.heap.size 1 rfl (by rw [HE.out]; exact Ce.made rfl) (by omega) (by simp; omega) ?_; intro A' d' w5 hown hbel hgr; have S5 := hid (SG.grown (S4.out.alloc _) hgr (fun x hx => by simp at hx; subst hx; exact hne.out) hbel lD); have HO5 := hid hown; have l5 := Nat.le_trans (Nat.le_succ_of_le l4) (by have := hbel.size; simpa using this); clear hown hbel hgr hne S4 HO4)
      go_roundw
      case rel => exact ⟨k + 1, A', d', by omega, by omega, rfl, by go_num, l5, HO5.out, S5.out⟩
      case measure => simp [intOf]; omega
    · have hk3 : (k : Int) ≤ 20 := by omega
      have hdec : ¬ (k : Int) < n2 ∨ ¬ (k : Int) < 20 := by omega
      have SE := hid HO.out.se
      have S0 := hid S.out
      clear HO S
      by_cases hkn : (k : Int) < n2
      · have hk8 : ¬ (k : Int) < 20 := by omega
        clear hdec hlt
        have AL := hid (fun A d w (h : Se w A k GG) => (show Calls Try.prog 25 #[.agg (PA p), .slice A k d] w fun x w' => ∃ (q : Pl) (m : Nat) (er : Int), x = .returned (.tuple #[.agg (PA q), .int .i64 (m : Int), .int .i64 er]) ∧ AllOut p GG k q m er ∧ Below w.heap.size w w' from all_any p GG A k d w h (by omega) 40 HQ.out (by omega)))
        have RL := hid (fun A d w (h : Se w A k GG) => (show Calls Try.prog 26 #[.agg (PA p), .slice A k d] w fun x w' => ∃ (q : Pl) (m : Nat) (er : Int), x = .returned (.tuple #[.agg (PA q), .int .i64 (m : Int), .int .i64 er]) ∧ AllOut p GG k q m er ∧ Below w.heap.size w w' from rall_any p GG A k d w h (by omega) 40 HQ.out (by omega)))
        have NL := hid (fun A d w (h : Se w A 0 GG) => (show Calls Try.prog 25 #[.agg (PA p), .slice A 0 d] w fun x w' => ∃ (q : Pl) (m : Nat) (er : Int), x = .returned (.tuple #[.agg (PA q), .int .i64 (m : Int), .int .i64 er]) ∧ AllOut p GG 0 q m er ∧ Below w.heap.size w w' from all_any p GG A 0 d w h (by omega) 40 HQ.out (by omega)))
        go_upto_region 9 with (fail)
        have LP := (SG.get S0.out (b := P) (p := p) (by simp)).loadA
        go_wp2_with ((with_reducible refine wl_id ?_); refine wl_load rfl rfl rfl LP ?_)
        refine (AL.out _ _ _ SE.out).mono ?_
        rintro x w6 ⟨q, m, er, rfl, hout, hb⟩
        have AO := hid hout
        have S6 := hid (S0.out.below hb)
        have SE6 := hid (Se.below SE.out hb (Nat.le_refl _))
        clear hb hout S0 SE LP AL
        have ST := hid ((sg_new (w := w6) (T := 34)).storeA q)
        have S7 := hid (SG.put S6.out (T := 34) zPl q (by simp))
        have SE7 := hid (Se.below SE6.out (below_put (T := 34) zPl q) (Nat.le_refl _))
        go_upto_region 10 with ((with_reducible refine wl_id ?_); refine wl_store rfl rfl rfl rfl ST.out ?_)
        clear ST S6 SE6
        generalize (w6.alloc (.cells (PA zPl) 34)).setCells w6.heap.size 0 (PA q).toList = w7 at *
        generalize w6.heap.size = Q1 at *
        have LP := (SG.get S7.out (b := P) (p := p) (by simp)).loadA
        go_wp2_with ((with_reducible refine wl_id ?_); refine wl_load rfl rfl rfl LP ?_)
        refine (RL.out _ _ _ SE7.out).mono ?_
        rintro x w8 ⟨q', m', er', rfl, hout, hb⟩
        obtain ⟨rfl, rfl, rfl⟩ := AO.out.uniq hout
        have S8 := hid (S7.out.below hb)
        have SE8 := hid (Se.below SE7.out hb (Nat.le_refl _))
        clear hb hout S7 SE7 LP RL
        have ST := hid ((sg_new (w := w8) (T := 34)).storeA q)
        have S9 := hid (SG.put S8.out (T := 34) zPl q (by simp))
        have SE9 := hid (Se.below SE8.out (below_put (T := 34) zPl q) (Nat.le_refl _))
        go_upto_region 11 with ((with_reducible refine wl_id ?_); refine wl_store rfl rfl rfl rfl ST.out ?_)
        clear ST S8 SE8
        generalize (w8.alloc (.cells (PA zPl) 34)).setCells w8.heap.size 0 (PA q).toList = w9 at *
        generalize w8.heap.size = Q2 at *
        have LP := (SG.get S9.out (b := P) (p := p) (by simp)).loadA
        go_wp2_with ((with_reducible refine wl_id ?_); refine wl_load rfl rfl rfl LP ?_)
        refine (NL.out none 0 _ (Sl.nil _ _ _)).mono ?_
        rintro x w10 ⟨q', m', er', rfl, hout, hb⟩
        obtain ⟨rfl, rfl, rfl⟩ := (show AllOut p GG 0 p 0 0 from ⟨rfl, .inl ⟨rfl, rfl⟩⟩).uniq hout
        have S10 := hid (S9.out.below hb)
        have SE10 := hid (Se.below SE9.out hb (Nat.le_refl _))
        clear hb hout S9 SE9 LP NL
        have ST := hid ((sg_new (w := w10) (T := 34)).storeA p)
        have S11 := hid (SG.put S10.out (T := 34) zPl p (by simp))
        have SE11 := hid (Se.below SE10.out (below_put (T := 34) zPl p) (Nat.le_refl _))
        go_upto_region 12 with ((with_reducible refine wl_id ?_); refine wl_store rfl rfl rfl rfl ST.out ?_)
        clear ST S10 SE10
        generalize (w10.alloc (.cells (PA zPl) 34)).setCells w10.heap.size 0 (PA p).toList = w11 at *
        generalize w10.heap.size = Q3 at *
        have hv := runP_v AO.out.1
        have hm := AO.out.le
        obtain ⟨v1, v2⟩ := HQ.out.1
        have cp := (SG.get S11.out (b := P) (p := p) (by simp)).c0
        have cq := (SG.get S11.out (b := Q1) (p := q) (by simp)).c0
        rw [hv] at cq
        clear hv
        have m0 : (0 : Int) ≤ m := by omega
        have m1 : (m : Int) ≤ 20 := by omega
        have LP := (SG.get S11.out (b := P) (p := p) (by simp)).loadA
        have LQ1 := (SG.get S11.out (b := Q1) (p := q) (by simp)).loadA
        have LQ2 := (SG.get S11.out (b := Q2) (p := q) (by simp)).loadA
        have LQ3 := (SG.get S11.out (b := Q3) (p := p) (by simp)).loadA
        go_wp2_with (first | ((with_reducible refine wl_id ?_); refine wl_load rfl rfl rfl LP ?_) | ((with_reducible refine wl_id ?_); refine wl_load rfl rfl rfl LQ1 ?_) | ((with_reducible refine wl_id ?_); refine wl_load rfl rfl rfl LQ2 ?_) | ((with_reducible refine wl_id ?_); refine wl_load rfl rfl rfl LQ3 ?_) | ((with_reducible refine wl_id ?_); refine wl_val rfl (ex_eql _ _ rfl q rfl rfl _) ?_) | ((with_reducible refine wl_id ?_); refine wl_val rfl (ex_eql _ _ rfl p rfl rfl _) ?_))
        go_ret
        exact ⟨rfl, S11.out.bl⟩
      · clear hdec hlt
        have AL := hid (fun A d w (h : Se w A k GG) => (show Calls Try.prog 25 #[.agg (PA p), .slice A k d] w fun x w' => ∃ (q : Pl) (m : Nat) (er : Int), x = .returned (.tuple #[.agg (PA q), .int .i64 (m : Int), .int .i64 er]) ∧ AllOut p GG k q m er ∧ Below w.heap.size w w' from all_any p GG A k d w h (by omega) 40 HQ.out (by omega)))
        have RL := hid (fun A d w (h : Se w A k GG) => (show Calls Try.prog 26 #[.agg (PA p), .slice A k d] w fun x w' => ∃ (q : Pl) (m : Nat) (er : Int), x = .returned (.tuple #[.agg (PA q), .int .i64 (m : Int), .int .i64 er]) ∧ AllOut p GG k q m er ∧ Below w.heap.size w w' from rall_any p GG A k d w h (by omega) 40 HQ.out (by omega)))
        have NL := hid (fun A d w (h : Se w A 0 GG) => (show Calls Try.prog 25 #[.agg (PA p), .slice A 0 d] w fun x w' => ∃ (q : Pl) (m : Nat) (er : Int), x = .returned (.tuple #[.agg (PA q), .int .i64 (m : Int), .int .i64 er]) ∧ AllOut p GG 0 q m er ∧ Below w.heap.size w w' from all_any p GG A 0 d w h (by omega) 40 HQ.out (by omega)))
        go_upto_region 9 with (fail)
        have LP := (SG.get S0.out (b := P) (p := p) (by simp)).loadA
        go_wp2_with ((with_reducible refine wl_id ?_); refine wl_load rfl rfl rfl LP ?_)
        refine (AL.out _ _ _ SE.out).mono ?_
        rintro x w6 ⟨q, m, er, rfl, hout, hb⟩
        have AO := hid hout
        have S6 := hid (S0.out.below hb)
        have SE6 := hid (Se.below SE.out hb (Nat.le_refl _))
        clear hb hout S0 SE LP AL
        have ST := hid ((sg_new (w := w6) (T := 34)).storeA q)
        have S7 := hid (SG.put S6.out (T := 34) zPl q (by simp))
        have SE7 := hid (Se.below SE6.out (below_put (T := 34) zPl q) (Nat.le_refl _))
        go_upto_region 10 with ((with_reducible refine wl_id ?_); refine wl_store rfl rfl rfl rfl ST.out ?_)
        clear ST S6 SE6
        generalize (w6.alloc (.cells (PA zPl) 34)).setCells w6.heap.size 0 (PA q).toList = w7 at *
        generalize w6.heap.size = Q1 at *
        have LP := (SG.get S7.out (b := P) (p := p) (by simp)).loadA
        go_wp2_with ((with_reducible refine wl_id ?_); refine wl_load rfl rfl rfl LP ?_)
        refine (RL.out _ _ _ SE7.out).mono ?_
        rintro x w8 ⟨q', m', er', rfl, hout, hb⟩
        obtain ⟨rfl, rfl, rfl⟩ := AO.out.uniq hout
        have S8 := hid (S7.out.below hb)
        have SE8 := hid (Se.below SE7.out hb (Nat.le_refl _))
        clear hb hout S7 SE7 LP RL
        have ST := hid ((sg_new (w := w8) (T := 34)).storeA q)
        have S9 := hid (SG.put S8.out (T := 34) zPl q (by simp))
        have SE9 := hid (Se.below SE8.out (below_put (T := 34) zPl q) (Nat.le_refl _))
        go_upto_region 11 with ((with_reducible refine wl_id ?_); refine wl_store rfl rfl rfl rfl ST.out ?_)
        clear ST S8 SE8
        generalize (w8.alloc (.cells (PA zPl) 34)).setCells w8.heap.size 0 (PA q).toList = w9 at *
        generalize w8.heap.size = Q2 at *
        have LP := (SG.get S9.out (b := P) (p := p) (by simp)).loadA
        go_wp2_with ((with_reducible refine wl_id ?_); refine wl_load rfl rfl rfl LP ?_)
        refine (NL.out none 0 _ (Sl.nil _ _ _)).mono ?_
        rintro x w10 ⟨q', m', er', rfl, hout, hb⟩
        obtain ⟨rfl, rfl, rfl⟩ := (show AllOut p GG 0 p 0 0 from ⟨rfl, .inl ⟨rfl, rfl⟩⟩).uniq hout
        have S10 := hid (S9.out.below hb)
        have SE10 := hid (Se.below SE9.out hb (Nat.le_refl _))
        clear hb hout S9 SE9 LP NL
        have ST := hid ((sg_new (w := w10) (T := 34)).storeA p)
        have S11 := hid (SG.put S10.out (T := 34) zPl p (by simp))
        have SE11 := hid (Se.below SE10.out (below_put (T := 34) zPl p) (Nat.le_refl _))
        go_upto_region 12 with ((with_reducible refine wl_id ?_); refine wl_store rfl rfl rfl rfl ST.out ?_)
        clear ST S10 SE10
        generalize (w10.alloc (.cells (PA zPl) 34)).setCells w10.heap.size 0 (PA p).toList = w11 at *
        generalize w10.heap.size = Q3 at *
        have hv := runP_v AO.out.1
        have hm := AO.out.le
        obtain ⟨v1, v2⟩ := HQ.out.1
        have cp := (SG.get S11.out (b := P) (p := p) (by simp)).c0
        have cq := (SG.get S11.out (b := Q1) (p := q) (by simp)).c0
        rw [hv] at cq
        clear hv
        have m0 : (0 : Int) ≤ m := by omega
        have m1 : (m : Int) ≤ 20 := by omega
        have LP := (SG.get S11.out (b := P) (p := p) (by simp)).loadA
        have LQ1 := (SG.get S11.out (b := Q1) (p := q) (by simp)).loadA
        have LQ2 := (SG.get S11.out (b := Q2) (p := q) (by simp)).loadA
        have LQ3 := (SG.get S11.out (b := Q3) (p := p) (by simp)).loadA
        go_wp2_with (first | ((with_reducible refine wl_id ?_); refine wl_load rfl rfl rfl LP ?_) | ((with_reducible refine wl_id ?_); refine wl_load rfl rfl rfl LQ1 ?_) | ((with_reducible refine wl_id ?_); refine wl_load rfl rfl rfl LQ2 ?_) | ((with_reducible refine wl_id ?_); refine wl_load rfl rfl rfl LQ3 ?_) | ((with_reducible refine wl_id ?_); refine wl_val rfl (ex_eql _ _ rfl q rfl rfl _) ?_) | ((with_reducible refine wl_id ?_); refine wl_val rfl (ex_eql _ _ rfl p rfl rfl _) ?_))
        go_ret
        exact ⟨rfl, S11.out.bl⟩

set_option maxRecDepth 100000 in
theorem lifted (os : Os) (started : os.Started) (H : Type) (enc : TypeId × Value → H) :
    ReturnsInHanded {} Try.checked os 5 .any (Rows.poolAllsSpec.pre6 enc Try.prog Try.f5 [] false) (Rows.poolAllsSpec.post enc Try.prog Try.f5 false true false false) :=
  law_step (s := Rows.poolAllsSpec) started (by kernel_rfl) Try.func5
    (ChangeSpec.witness6 (s := Rows.poolAllsSpec) (enc := enc) (C := Try.checked) false ⟨#[], #[.slice none 0 0, .slice none 0 0], []⟩ 8 (by kernel_rfl) (by kernel_rfl) (by kernel_rfl) (by kernel_rfl))
    rfl (by rw [Try.params5]; decide +kernel) rfl Try.underlying4
    (fun ds h => by
      rw [Try.params5] at h
      match ds, h with
      | [_, _], _ => rfl)
    (fun W base args ds ps hval hA hsz => by
      rw [Try.params5] at hA hval hsz
      obtain ⟨v0, vs0, d0, ds0, p0, q0, hargs, rfl, rfl, h0, r0⟩ := trodAll_cons hA
      obtain ⟨v1, vs1, d1, ds1, p1, q1, rfl, rfl, rfl, h1, r1⟩ := trodAll_cons r0
      obtain ⟨rfl, rfl, rfl⟩ := trodAll_nil r1
      obtain rfl : args = #[v0, v1] := by cases args; simp_all
      obtain ⟨A0, n0, c0, g0, rfl, hn0, hc0, hs0, hw0, hl0, hd0⟩ := open_row Try.underlying22 Try.underlying3 (by kernel_rfl) (hval 0 22 v0 rfl rfl) h0
      have re0 : c0 * 8 ≤ 140737488351232 := by
        rcases hd0 with ⟨_, h0⟩ | ⟨xs, ys, h1, h2⟩
        · omega
        · have := sized_slice hsz (j := 0) (t := 22) (e := 3) rfl (by rw [h1]; rfl) Try.underlying22
          rw [h2, show Try.prog.bytesOf 3 = 8 from by kernel_rfl] at this
          simpa [reachBytes] using this
      obtain ⟨A1, n1, c1, g1, rfl, hn1, hc1, hs1, hw1, hl1, hd1⟩ := open_row Try.underlying22 Try.underlying3 (by kernel_rfl) (hval 1 22 v1 rfl rfl) h1
      have re1 : c1 * 8 ≤ 140737488351232 := by
        rcases hd1 with ⟨_, h0⟩ | ⟨xs, ys, h1, h2⟩
        · omega
        · have := sized_slice hsz (j := 1) (t := 22) (e := 3) rfl (by rw [h1]; rfl) Try.underlying22
          rw [h2, show Try.prog.bytesOf 3 = 8 from by kernel_rfl] at this
          simpa [reachBytes] using this
      exact walk W A0 n0 c0 g0 hn0 hc0 hs0 (fun j => bounds_i64 (hw0 j)) hl0 re0 A1 n1 c1 g1 hn1 hc1 hs1 (fun j => bounds_i64 (hw1 j)) hl1 re1)

theorem proved : Rows.PoolAllsSaid :=
  OpenClaim.holds_of_wide 5 Try.f5 rfl rfl rfl rfl rfl rfl rfl ⟨rfl, rfl, rfl, rfl, rfl⟩ rfl rfl rfl rfl rfl (by kernel_rfl) Try.func5 (by kernel_rfl)
    (of_decide_eq_true (by kernel_rfl)) (by unfold Func.isWrapper; first | (rw [if_pos (by decide +kernel)]; kernel_rfl) | (rw [if_neg (by decide +kernel)]; exact ⟨rfl, rfl⟩))
    (fun os started H enc _ => lifted os started H enc)
end Go.Proofs.Ytdobcdhdeagekaa.poolAlls
