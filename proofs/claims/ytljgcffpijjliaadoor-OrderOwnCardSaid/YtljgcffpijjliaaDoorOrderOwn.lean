/- roundhouselaw10.OrderOwn answers true for every row, any three numbers; no condition. -/
import Derived.Test.YtljgcffpijjliaaDoorOrdRot
import Derived.Test.YtljgcffpijjliaaDoorOrdRrot
import Derived.Test.YtljgcffpijjliaaDoorOrdRadd
import Derived.Test.YtljgcffpijjliaaDoorOrdSame
import Derived.Test.YtljgcffpijjliaaDoorOrdAp
import Derived.Test.YtljgcffpijjliaaDoorPolEq
import Derived.Test.YtljgcffpijjliaaDoorOrdKnown10
import Derived.Test.YtljgcffpijjliaaDoorDoor
import Derived.BigQuiet
import Derived.Deep.RegionHeld3
import Derived.Deep.Cut
namespace Go.Proofs.YtljgcffpijjliaaDoor.orderOwn
set_option linter.unusedVariables false
set_option linter.unusedSimpArgs false
open Go.RowKit Go.ChangeShapes Go.WideShapes Go.ChangeAt

theorem add_len (p : Pl) (a q m : Int) : (addR p a q m).1.length ≤ 2 := by
  unfold addR
  split
  · simp
  · cases heldB p a q
    · simp only [cond_false]
      split <;> simp
    · simp
/-- A block of the call's own, whatever its cells hold. -/
def RW (w : World) (b n : Nat) : Prop := b < w.heap.size ∧ (∀ j, j < n → ∃ v, w.cell? ⟨b, j, none⟩ = some v) ∧ ∀ j, w.frozen? ⟨b, j, none⟩ = false
theorem RW.set {w : World} {b n : Nat} (h : RW w b n) (i : Nat) (v : Value) : RW (w.setCell ⟨b, i, none⟩ v) b n := by
  refine ⟨by simpa using h.1, fun j hj => ?_, fun j => by rw [World.frozen?_setCell]; exact h.2.2 j⟩
  obtain ⟨u, hu⟩ := h.2.1 j hj
  by_cases e : j = i
  · subst e
    obtain ⟨u', hu'⟩ := h.2.1 j hj
    exact ⟨v, World.cell?_setCell_same _ _ _ hu'⟩
  · exact ⟨u, by rw [World.cell?_setCell_other _ _ _ _ (fun e2 => e (by cases e2; rfl))]; exact hu⟩
theorem rw_of2 {w : World} {D N d : Nat} {A : Option Addr} {g : Nat → En} (h : OwE w D (.slice A N d) N g) : 0 < N → ∃ b, A = some ⟨b, 0, none⟩ ∧ D ≤ b ∧ RW w b (N * 7) := fun h0 => by
  obtain ⟨b, e, h1, h2, h3, h4⟩ := Ow.block_ h h0
  exact ⟨b, e, h1, h2, fun j hj => ⟨_, h3 j hj⟩, h4⟩
theorem rw_of {w w' : World} {N d : Nat} {A : Option Addr} {g : Nat → En} (h : OwE w' w.heap.size (.slice A N d) N g) : 0 < N → ∃ b, A = some ⟨b, 0, none⟩ ∧ w.heap.size ≤ b ∧ RW w' b (N * 7) := rw_of2 h
theorem sg_lt {W w : World} {L : List (Nat × Pl)} {E : List (Nat × Nat × (Nat → En))} (h : SG W w L E) : ∀ x, x ∈ L → x.1 < w.heap.size := fun x hx => (h.1 x hx).1
attribute [local irreducible] PA
set_option maxRecDepth 100000 in
set_option maxHeartbeats 8000000 in
theorem walk (W : World) (hsh : W.ShapedOpen Tryd.prog) (A1 : Option Addr) (n1 c1 : Nat) (g1 : Nat → Int) (hn1 : n1 ≤ c1) (hc1 : c1 ≤ maxLen) (hr1 : Is W A1 n1 g1) (hg1 : IsI g1) (hl1 : ∀ ad, A1 = some ad → 0 < n1 → ad.block < W.heap.size) (re1 : c1 * 8 ≤ 140737488351232) (a0 : Int) (r_a0 : -9223372036854775808 ≤ a0 ∧ a0 ≤ 9223372036854775807) (b0 : Int) (r_b0 : -9223372036854775808 ≤ b0 ∧ b0 ≤ 9223372036854775807) (k0 : Int) (r_k0 : -9223372036854775808 ≤ k0 ∧ k0 ≤ 9223372036854775807) :
    Calls Tryd.prog 13 #[.slice A1 n1 c1, .int .i64 a0, .int .i64 b0, .int .i64 k0] W fun e w' => e = .returned (.bool true) ∧ Below W.heap.size W w' := by
  have hz : ∀ w : World, (zeroValue 33).run Tryd.prog w = .ok (.agg (PA zPl)) w := fun w => zero_pl w
  have hz1 := pa_size zPl
  have hz2 := pa_ne zPl
  unfold maxLen at hc1
  have hnm : (n1 : Int) ≤ 9223372036854775807 := by have := hn1; omega
  have HL := hid hl1
  clear hl1 re1
  obtain ⟨p, hp⟩ : ∃ p, p = mkP g1 (min n1 40) := ⟨_, rfl⟩
  have HQ := hid (show Pinv p 40 from by rw [hp]; exact (mkP_inv g1 _).mono (by omega))
  have MK := hid (fun (w : World) (h : Is w A1 n1 g1) (hl : ∀ ad, A1 = some ad → 0 < n1 → ad.block < w.heap.size) => (show Calls Tryd.prog 15 #[.slice A1 n1 c1, .int .i64 40] w fun x w' => x = .returned (.agg (PA p)) ∧ Below w.heap.size w w' from by rw [hp]; exact make_any w A1 n1 c1 g1 h hl hnm 40 (by omega)))
  clear hp
  obtain ⟨ml, hml⟩ := Tryd.laysM147.s1_3 W hsh
  have HML := hid hml
  clear hml hsh
  obtain ⟨xa, hxa⟩ : ∃ x, x = wi a0 6 := ⟨_, rfl⟩
  have bxa := wi_bd a0 6 (by omega)
  rw [← hxa] at bxa
  have Wxa := hid (fun w => re_i64 (within_any a0 6 w (by omega) (by omega)) hxa.symm)
  clear hxa
  obtain ⟨bxa1, bxa2⟩ := bxa
  obtain ⟨yc, hyc⟩ : ∃ x, x = wi b0 4 := ⟨_, rfl⟩
  have byc := wi_bd b0 4 (by omega)
  rw [← hyc] at byc
  have Wyc := hid (fun w => re_i64 (within_any b0 4 w (by omega) (by omega)) hyc.symm)
  clear hyc
  obtain ⟨byc1, byc2⟩ := byc
  have ST := hid HQ.out.st
  have PBp := hid (HQ.out.pb (by omega))
  have HR2 := hid hr1
  obtain ⟨R1, hR1⟩ : ∃ r, r = addR p xa yc 1 := ⟨_, rfl⟩
  have L1 := add_len p xa yc 1
  rw [← hR1] at L1
  have AD := hid (fun (w : World) => (show Calls Tryd.prog 17 #[.agg (PA p), .int .i64 xa, .int .i64 yc, .int .i64 1] w fun e w' => ∃ (A : Option Addr) (d : Nat), e = .returned (.tuple #[.slice A R1.1.length d, .int .i64 R1.2]) ∧ OwE w' w.heap.size (.slice A R1.1.length d) R1.1.length (gl R1.1) ∧ Below w.heap.size w w' from by have := add_any p xa yc 1 w; rw [← hR1] at this; exact this))
  have RA := hid (fun (w : World) => (show Calls Tryd.prog 18 #[.agg (PA p), .int .i64 xa, .int .i64 yc, .int .i64 1] w fun e w' => ∃ (A : Option Addr) (d : Nat), e = .returned (.tuple #[.slice A R1.1.length d, .int .i64 R1.2]) ∧ OwE w' w.heap.size (.slice A R1.1.length d) R1.1.length (gl R1.1) ∧ Below w.heap.size w w' from by have := radd_any p xa yc 1 w; rw [← hR1] at this; exact this))
  clear hR1
  obtain ⟨l1, no1⟩ := R1
  simp only at L1 AD RA
  obtain ⟨N1, hN1⟩ : ∃ n, n = l1.length := ⟨_, rfl⟩
  obtain ⟨ky, hky⟩ : ∃ y, y = kyN k0 := ⟨_, rfl⟩
  have LK0 := fun w => lkey_any k0 w
  rw [← hky] at LK0
  clear hky
  obtain ⟨L2, hL2⟩ : ∃ l, l = rotL p ky 64 := ⟨_, rfl⟩
  have LT := (rot_len p ky 64).2
  have LT1 := (rot_len p ky 64).1
  rw [← hL2] at LT LT1
  have TO := (fun (w : World) => (show Calls Tryd.prog 22 #[.agg (PA p), kyV ky] w fun e w' => ∃ (A : Option Addr) (d : Nat), e = .returned (.slice A L2.length d) ∧ OwE w' w.heap.size (.slice A L2.length d) L2.length (gl L2) ∧ Below w.heap.size w w' from by have := rotate_any p PBp.out ky w; rw [← hL2] at this; exact this))
  have TR := (fun (w : World) => (show Calls Tryd.prog 24 #[.agg (PA p), kyV ky] w fun e w' => ∃ (A : Option Addr) (d : Nat), e = .returned (.slice A L2.length d) ∧ OwE w' w.heap.size (.slice A L2.length d) L2.length (gl L2) ∧ Below w.heap.size w w' from by have := rrotate_any p PBp.out ky w; rw [← hL2] at this; exact this))
  clear hL2
  obtain ⟨N2, hN2⟩ : ∃ n, n = L2.length := ⟨_, rfl⟩
  obtain ⟨ka, kb⟩ := ky
  unfold kyV at LK0 TO TR
  simp only at LK0 TO TR
  rw [← hN1] at L1 AD RA
  rw [← hN2] at LT LT1 TO TR
  have LK := hid LK0
  replace TO := hid TO
  replace TR := hid TR
  clear LK0 ST PBp HQ
  have SM1 := hid (fun (A B : Option Addr) (c d : Nat) (w : World) (h1 : Se w A N1 (gl l1)) (h2 : Se w B N1 (gl l1)) => same_eq A B N1 c d (gl l1) w h1 h2 (by omega))
  have SM2 := hid (fun (A B : Option Addr) (c d : Nat) (w : World) (h1 : Se w A N2 (gl L2)) (h2 : Se w B N2 (gl L2)) => same_eq A B N2 c d (gl L2) w h1 h2 (by omega))
  clear hN1 hN2
  go_enter Tryd.func13, Tryd.ntmps13
  go_wp2_with fail
  refine (known10_any ml _ HML.out).mono ?_
  rintro x w1 ⟨rfl, hB⟩
  have R1 := hid (hr1.below hB (Nat.le_refl _))
  have B1 := hid hB
  clear hr1 hB HML
  go_wp2_with fail
  refine (MK.out _ R1.out (fun ad e h => Nat.lt_of_lt_of_le (HL.out ad e h) B1.out.size)).mono ?_
  rintro x w2 ⟨rfl, hb⟩
  have B2 := hid (B1.out.trans (hb.mono B1.out.size))
  have R2 := hid (HR2.out.below B2.out (Nat.le_refl _))
  clear hb R1 B1 HR2
  go_wp2_with fail
  refine (MK.out _ R2.out (fun ad e h => Nat.lt_of_lt_of_le (HL.out ad e h) B2.out.size)).mono ?_
  rintro x w3 ⟨rfl, hb⟩
  have B3 := hid (B2.out.trans (hb.mono B2.out.size))
  clear hb R2 B2 MK
  have P1 := (PoolAt.made (w := w3) (p := zPl) (T := 33) rfl).alloc (.cells (PA zPl) 33)
  have O1 := (PoolAt.made (w := w3.alloc (.cells (PA zPl) 33)) (p := zPl) (T := 33) (g := w3.heap.size + 1) (by simp)).others (c := w3.heap.size) (o := 0) (vs := (PA p).toList) (by omega)
  have ST1 := hid (P1.storeA p)
  have ST2 := hid (O1.storeA p)
  have S4 : Hid (SG W (((w3.alloc (.cells (PA zPl) 33)).alloc (.cells (PA zPl) 33)).setCells w3.heap.size 0 (PA p).toList |>.setCells (w3.heap.size + 1) 0 (PA p).toList) [(w3.heap.size + 1, p), (w3.heap.size, p)] []) := hid (((SG.start ((((B3.out.alloc B3.out.size (.cells (PA zPl) 33)).alloc (by have := B3.out.size; simp; omega) (.cells (PA zPl) 33)).trans (keeps_setCells _ _ _ _ _ B3.out.size)).trans (keeps_setCells _ _ _ _ _ (by have := B3.out.size; omega)))).cons ((P1.whole p).others (by omega))).cons (O1.whole p))
  clear P1 O1
  go_upto_region 4 with (first | ((with_reducible refine wl_id ?_); refine wl_store rfl rfl rfl rfl ST1.out ?_) | ((with_reducible refine wl_id ?_); refine wl_store rfl rfl rfl rfl ST2.out ?_))
  clear ST1 ST2
  have lP := B3.out.size
  generalize (((w3.alloc (.cells (PA zPl) 33)).alloc (.cells (PA zPl) 33)).setCells w3.heap.size 0 (PA p).toList).setCells (w3.heap.size + 1) 0 (PA p).toList = w4 at *
  obtain ⟨O, hO⟩ : ∃ O, O = w3.heap.size + 1 := ⟨_, rfl⟩
  obtain ⟨P, hP⟩ : ∃ P, P = w3.heap.size := ⟨_, rfl⟩
  rw [← hO, ← hP] at S4 ⊢
  clear hO hP B3 lP
  go_wp2_with fail
  refine (Wxa.out _).mono ?_
  rintro e w' ⟨rfl, rfl⟩
  go_wp2_with fail
  refine (Wyc.out _).mono ?_
  rintro e w' ⟨rfl, rfl⟩
  go_upto_region 5 with (fail)
  have LP := (SG.get S4.out (b := P) (p := p) (by simp)).loadA
  go_wp2_with ((with_reducible refine wl_id ?_); refine wl_load rfl rfl rfl LP ?_)
  clear LP
  refine (AD.out _).mono ?_
  rintro e w5 ⟨A5, d5, rfl, ho, hb⟩
  have S5 := hid (S4.out.below hb)
  have RW5 := hid (rw_of ho)
  have D5 := hid (show W.heap.size ≤ w4.heap.size from S4.out.bl.size)
  have G5 := hid (sg_lt S4.out)
  clear ho hb S4
  go_wp2_with fail
  go_loopw [15] (fun i wr => ∃ k : Nat, k ≤ N1 ∧ i = .int .i64 (k : Int) ∧ SG W wr [(O, p), (P, p)] [] ∧ (0 < N1 → ∃ b, A5 = some ⟨b, 0, none⟩ ∧ w4.heap.size ≤ b ∧ RW wr b (N1 * 7))) (fun i _ => N1 - (intOf i).toNat)
  case atStart => exact ⟨0, by omega, rfl, S5.out, RW5.out⟩
  case round =>
    clear S5 RW5
    obtain ⟨k, hk, rfl, hS, hR⟩ := hrel
    have S6 := hid hS
    have RW6 := hid hR
    clear hS hR
    by_cases hlt : k < N1
    · have i0 : (0 : Int) ≤ k := by omega
      have i1 : (k : Int) < N1 := by omega
      obtain ⟨b, rfl, hbb, hrw⟩ := RW6.out (by omega)
      obtain ⟨u, hu⟩ := hrw.2.1 (k * 7 + 1) (by omega)
      have hf := hrw.2.2 (k * 7 + 1)
      have HRW := hid (hrw.set (k * 7 + 1) (.int .i64 99))
      have S9 := hid (show SG W (wr.setCell ⟨b, k * 7 + 1, none⟩ (.int .i64 99)) [(O, p), (P, p)] [] from SG.sets S6.out (c := b) (o := k * 7 + 1) (vs := [.int .i64 99]) (fun x hx => by have h1 := G5.out x hx; omega) (by simp) (Nat.le_trans D5.out hbb))
      clear hrw S6 RW6
      go_wp2_with fail
      go_roundw
      case rel => exact ⟨k + 1, by omega, by go_num, S9.out, fun _ => ⟨b, rfl, hbb, HRW.out⟩⟩
      case measure => simp [intOf]; omega
    · have e : N1 = k := by omega
      clear RW6 hlt
      have S7 := S6
      clear S6
      obtain ⟨w7, hw7⟩ : ∃ x, x = wr := ⟨_, rfl⟩
      rw [← hw7] at S7 ⊢
      clear hw7
      subst e
      go_upto_region 10 with (fail)
      go_cut [16] from 49 to 53 (fun l wx => ∃ (A : Option Addr) (d : Nat) (D : Nat), l = .slice A N2 d ∧ SG W wx [(O, p), (P, p)] [] ∧ OwE wx D (.slice A N2 d) N2 (gl L2) ∧ W.heap.size ≤ D ∧ ∀ x, x ∈ [(O, p), (P, p)] → x.1 < D)
      case first =>
        refine wp_region_held_drew (S := fun w' => SG W w' [(O, p), (P, p)] []) (by kernel_rfl) ?_ (fun hHeld => ?_)
        · exact S7.out.drew
        refine tk 0 (v := .agg (PA p)) rfl (by kernel_rfl) (by kernel_rfl) (by kernel_rfl) (fun _ _ _ h => h) rfl (fun w hSw => ex_load rfl rfl (SG.get hSw (b := P) (p := p) (by simp)).loadA) hHeld ?_; (try simp only [Act.put, List.setIfInBounds_toArray, List.set_cons_zero, List.set_cons_succ])
        refine tk 1 (v := ?_) rfl (by kernel_rfl) (by kernel_rfl) (by kernel_rfl) (fun _ _ _ h => h) rfl ?_ hHeld ?_; rotate_left; (focus (intro w hSw; (try dsimp only at hSw);  go_simp; (try with_reducible rfl))); (try simp only [Act.put, List.setIfInBounds_toArray, List.set_cons_zero, List.set_cons_succ])
        refine only 2 rfl (by kernel_rfl) rfl (fun K hK => ?_)
        go_simp
        refine (LK.out _).mono ?_
        rintro e' w' ⟨rfl, hb⟩
        try go_wp2_with fail
        refine hK.out _ _ (SG.below hHeld hb) (fun h1 => ?_)
        clear hK hb
        try simp only [Act.put, List.setIfInBounds_toArray, List.set_cons_zero, List.set_cons_succ]
        refine only 3 rfl (by kernel_rfl) rfl (fun K hK => ?_)
        go_simp
        have GL := sg_lt h1
        have GD := h1.bl.size
        refine (TO.out _).mono ?_
        rintro e' w' ⟨A, d, rfl, T1, hb⟩
        try go_wp2_with fail
        refine hK.out _ _ (SG.below h1 hb) (fun h2 => ?_)
        clear hK hb
        try simp only [Act.put, List.setIfInBounds_toArray, List.set_cons_zero, List.set_cons_succ]
        refine tk 4 (v := ?_) rfl (by kernel_rfl) (by kernel_rfl) (by kernel_rfl) (fun _ _ _ h => h) rfl ?_ h2 ?_; rotate_left; (focus (intro w hSw; (try dsimp only at hSw);  go_simp; (try with_reducible rfl))); (try simp only [Act.put, List.setIfInBounds_toArray, List.set_cons_zero, List.set_cons_succ])
        refine wpAnyH_done (by kernel_rfl) ?_ _
        go_wp2_with fail
        go_meet
        exact ⟨A, d, _, rfl, h2, T1, GD, GL⟩
      case rest =>
        obtain ⟨A8, d8, DD, rfl, hS, hT, hD, hG⟩ := hcut
        have S8 := hid hS
        have RW8 := hid (rw_of2 hT)
        have D8 := hid hD
        have G8 := hid hG
        clear hS hT hD hG S7 D5 G5
        go_wp2_with fail
        go_loopw [17] (fun i wr => ∃ k : Nat, k ≤ N2 ∧ i = .int .i64 (k : Int) ∧ SG W wr [(O, p), (P, p)] [] ∧ (0 < N2 → ∃ b, A8 = some ⟨b, 0, none⟩ ∧ DD ≤ b ∧ RW wr b (N2 * 7))) (fun i _ => N2 - (intOf i).toNat)
        case atStart => exact ⟨0, by omega, rfl, S8.out, RW8.out⟩
        case round =>
          clear S8 RW8
          obtain ⟨k, hk, rfl, hS, hR⟩ := hrel
          have S9 := hid hS
          have RW9 := hid hR
          clear hS hR
          by_cases hlt : k < N2
          · have i0 : (0 : Int) ≤ k := by omega
            have i1 : (k : Int) < N2 := by omega
            obtain ⟨b, rfl, hbb, hrw⟩ := RW9.out (by omega)
            obtain ⟨u, hu⟩ := hrw.2.1 (k * 7) (by omega)
            have hf := hrw.2.2 (k * 7)
            have HRW := hid (hrw.set (k * 7) (.int .i64 99))
            have S0 := hid (show SG W (wr.setCell ⟨b, k * 7, none⟩ (.int .i64 99)) [(O, p), (P, p)] [] from SG.sets S9.out (c := b) (o := k * 7) (vs := [.int .i64 99]) (fun x hx => by have h1 := G8.out x hx; omega) (by simp) (Nat.le_trans D8.out hbb))
            clear hrw S9 RW9
            go_wp2_with fail
            go_roundw
            case rel => exact ⟨k + 1, by omega, by go_num, S0.out, fun _ => ⟨b, rfl, hbb, HRW.out⟩⟩
            case measure => simp [intOf]; omega
          · have e : k = N2 := by omega
            clear RW9 hlt D8 G8
            subst e
            go_upto_region 15 with (fail)
            have LP := (SG.get S9.out (b := P) (p := p) (by simp)).loadA
            go_wp2_with ((with_reducible refine wl_id ?_); refine wl_load rfl rfl rfl LP ?_)
            clear LP
            refine (AD.out _).mono ?_
            rintro e wA ⟨Aa, da, rfl, ho, hb⟩
            have S10 := hid (S9.out.below hb)
            have Ta := hid ho.se
            clear ho hb S9
            go_upto_region 16 with (fail)
            have LP := (SG.get S10.out (b := O) (p := p) (by simp)).loadA
            go_wp2_with ((with_reducible refine wl_id ?_); refine wl_load rfl rfl rfl LP ?_)
            clear LP
            refine (RA.out _).mono ?_
            rintro e wB ⟨Ab, db, rfl, ho, hb⟩
            have S11 := hid (S10.out.below hb)
            have Tb := hid ho.se
            have Tc := hid (Se.below Ta.out hb (Nat.le_refl _))
            clear ho hb S10 Ta
            have en : (no1 == no1) = true := by simp
            go_upto_region 17 with (fail)
            refine wp_region_held_drew (S := fun w' => SG W w' [(O, p), (P, p)] [] ∧ Se w' Aa N1 (gl l1) ∧ Se w' Ab N1 (gl l1)) (by kernel_rfl) ?_ (fun hH0 => ?_)
            · exact ⟨S11.out.drew, Sl.drew Tc.out, Sl.drew Tb.out⟩
            refine tk 0 (v := .agg (PA p)) rfl (by kernel_rfl) (by kernel_rfl) (by kernel_rfl) (fun _ _ _ h => h) rfl (fun w (hSw : SG W w [(O, p), (P, p)] [] ∧ Se w Aa N1 (gl l1) ∧ Se w Ab N1 (gl l1)) => ex_load rfl rfl (SG.get hSw.1 (b := P) (p := p) (by simp)).loadA) hH0 ?_; (try simp only [Act.put, List.setIfInBounds_toArray, List.set_cons_zero, List.set_cons_succ])
            refine tk 1 (v := .agg (PA p)) rfl (by kernel_rfl) (by kernel_rfl) (by kernel_rfl) (fun _ _ _ h => h) rfl (fun w (hSw : SG W w [(O, p), (P, p)] [] ∧ Se w Aa N1 (gl l1) ∧ Se w Ab N1 (gl l1)) => ex_load rfl rfl (SG.get hSw.1 (b := O) (p := p) (by simp)).loadA) hH0 ?_; (try simp only [Act.put, List.setIfInBounds_toArray, List.set_cons_zero, List.set_cons_succ])
            refine tk 2 (v := .bool true) rfl (by kernel_rfl) (by kernel_rfl) (by kernel_rfl) (fun _ _ _ h => h) rfl (fun w (hSw : SG W w [(O, p), (P, p)] [] ∧ Se w Aa N1 (gl l1) ∧ Se w Ab N1 (gl l1)) => ex_eql _ _ rfl p rfl rfl _) hH0 ?_; (try simp only [Act.put, List.setIfInBounds_toArray, List.set_cons_zero, List.set_cons_succ])
            refine tk 3 (v := ?_) rfl (by kernel_rfl) (by kernel_rfl) (by kernel_rfl) (fun _ _ _ h => h) rfl ?_ hH0 ?_; rotate_left; (focus (intro w hSw; (try dsimp only at hSw);  go_simp; (try with_reducible rfl))); (try simp only [Act.put, List.setIfInBounds_toArray, List.set_cons_zero, List.set_cons_succ])
            refine tk 4 (v := ?_) rfl (by kernel_rfl) (by kernel_rfl) (by kernel_rfl) (fun _ _ _ h => h) rfl ?_ hH0 ?_; rotate_left; (focus (intro w hSw; (try dsimp only at hSw);  go_simp; (try with_reducible rfl))); (try simp only [Act.put, List.setIfInBounds_toArray, List.set_cons_zero, List.set_cons_succ])
            refine tk 5 (v := ?_) rfl (by kernel_rfl) (by kernel_rfl) (by kernel_rfl) (fun _ _ _ h => h) rfl ?_ hH0 ?_; rotate_left; (focus (intro w hSw; (try dsimp only at hSw);  go_simp; (try with_reducible rfl))); (try simp only [Act.put, List.setIfInBounds_toArray, List.set_cons_zero, List.set_cons_succ])
            refine tk 6 (v := ?_) rfl (by kernel_rfl) (by kernel_rfl) (by kernel_rfl) (fun _ _ _ h => h) rfl ?_ hH0 ?_; rotate_left; (focus (intro w hSw; (try dsimp only at hSw);  go_simp; (try with_reducible rfl))); (try simp only [Act.put, List.setIfInBounds_toArray, List.set_cons_zero, List.set_cons_succ])
            refine tk 7 (v := ?_) rfl (by kernel_rfl) (by kernel_rfl) (by kernel_rfl) (fun _ _ _ h => h) rfl ?_ hH0 ?_; rotate_left; (focus (intro w hSw; (try dsimp only at hSw);  go_simp; (try with_reducible rfl))); (try simp only [Act.put, List.setIfInBounds_toArray, List.set_cons_zero, List.set_cons_succ])
            refine tk 8 (v := ?_) rfl (by kernel_rfl) (by kernel_rfl) (by kernel_rfl) (fun _ _ _ h => h) rfl ?_ hH0 ?_; rotate_left; (focus (intro w hSw; (try dsimp only at hSw);  go_simp; (try with_reducible rfl))); (try simp only [Act.put, List.setIfInBounds_toArray, List.set_cons_zero, List.set_cons_succ])
            refine tk 9 (v := ?_) rfl (by kernel_rfl) (by kernel_rfl) (by kernel_rfl) (fun _ _ _ h => h) rfl ?_ hH0 ?_; rotate_left; (focus (intro w hSw; (try dsimp only at hSw);  go_simp; (try with_reducible rfl))); (try simp only [Act.put, List.setIfInBounds_toArray, List.set_cons_zero, List.set_cons_succ])
            refine tk 10 (v := ?_) rfl (by kernel_rfl) (by kernel_rfl) (by kernel_rfl) (fun _ _ _ h => h) rfl ?_ hH0 ?_; rotate_left; (focus (intro w hSw; (try dsimp only at hSw);  go_simp; (try with_reducible rfl))); (try simp only [Act.put, List.setIfInBounds_toArray, List.set_cons_zero, List.set_cons_succ])
            refine only 11 rfl (by kernel_rfl) rfl (fun K hK => ?_)
            go_simp
            refine (SM1.out Aa Ab _ _ _ hH0.2.1 hH0.2.2).mono ?_
            rintro e' w' ⟨rfl, hb⟩
            try go_wp2_with fail
            refine hK.out _ _ ⟨SG.below hH0.1 hb, Se.below hH0.2.1 hb (Nat.le_refl _), Se.below hH0.2.2 hb (Nat.le_refl _)⟩ (fun h1 => ?_)
            clear hK
            clear hb
            try simp only [Act.put, List.setIfInBounds_toArray, List.set_cons_zero, List.set_cons_succ]
            refine tk 12 (v := ?_) rfl (by kernel_rfl) (by kernel_rfl) (by kernel_rfl) (fun _ _ _ h => h) rfl ?_ h1 ?_; rotate_left; (focus (intro w hSw; (try dsimp only at hSw);  go_simp; (try with_reducible rfl))); (try simp only [Act.put, List.setIfInBounds_toArray, List.set_cons_zero, List.set_cons_succ])
            refine tk 13 (v := ?_) rfl (by kernel_rfl) (by kernel_rfl) (by kernel_rfl) (fun _ _ _ h => h) rfl ?_ h1 ?_; rotate_left; (focus (intro w hSw; (try dsimp only at hSw);  go_simp; (try with_reducible rfl))); (try simp only [Act.put, List.setIfInBounds_toArray, List.set_cons_zero, List.set_cons_succ])
            refine tk 14 (v := .agg (PA p)) rfl (by kernel_rfl) (by kernel_rfl) (by kernel_rfl) (fun _ _ _ h => h) rfl (fun w (hSw : SG W w [(O, p), (P, p)] [] ∧ Se w Aa N1 (gl l1) ∧ Se w Ab N1 (gl l1)) => ex_load rfl rfl (SG.get hSw.1 (b := P) (p := p) (by simp)).loadA) h1 ?_; (try simp only [Act.put, List.setIfInBounds_toArray, List.set_cons_zero, List.set_cons_succ])
            refine tk 15 (v := ?_) rfl (by kernel_rfl) (by kernel_rfl) (by kernel_rfl) (fun _ _ _ h => h) rfl ?_ h1 ?_; rotate_left; (focus (intro w hSw; (try dsimp only at hSw);  go_simp; (try with_reducible rfl))); (try simp only [Act.put, List.setIfInBounds_toArray, List.set_cons_zero, List.set_cons_succ])
            refine tk 18 (v := .agg (PA p)) rfl (by kernel_rfl) (by kernel_rfl) (by kernel_rfl) (fun _ _ _ h => h) rfl (fun w (hSw : SG W w [(O, p), (P, p)] [] ∧ Se w Aa N1 (gl l1) ∧ Se w Ab N1 (gl l1)) => ex_load rfl rfl (SG.get hSw.1 (b := O) (p := p) (by simp)).loadA) h1 ?_; (try simp only [Act.put, List.setIfInBounds_toArray, List.set_cons_zero, List.set_cons_succ])
            refine tk 19 (v := ?_) rfl (by kernel_rfl) (by kernel_rfl) (by kernel_rfl) (fun _ _ _ h => h) rfl ?_ h1 ?_; rotate_left; (focus (intro w hSw; (try dsimp only at hSw);  go_simp; (try with_reducible rfl))); (try simp only [Act.put, List.setIfInBounds_toArray, List.set_cons_zero, List.set_cons_succ])
            refine only 16 rfl (by kernel_rfl) rfl (fun K hK => ?_)
            go_simp
            refine (LK.out _).mono ?_
            rintro e' w' ⟨rfl, hb⟩
            try go_wp2_with fail
            refine hK.out _ _ ⟨SG.below h1.1 hb, Se.below h1.2.1 hb (Nat.le_refl _), Se.below h1.2.2 hb (Nat.le_refl _)⟩ (fun h2 => ?_)
            clear hK
            clear hb
            try simp only [Act.put, List.setIfInBounds_toArray, List.set_cons_zero, List.set_cons_succ]
            refine only 17 rfl (by kernel_rfl) rfl (fun K hK => ?_)
            go_simp
            refine (TO.out _).mono ?_
            rintro e' w' ⟨B1, x1, rfl, T1, hb⟩
            try go_wp2_with fail
            refine hK.out _ _ ⟨SG.below h2.1 hb, Se.below h2.2.1 hb (Nat.le_refl _), Se.below h2.2.2 hb (Nat.le_refl _)⟩ (fun h3 => ?_)
            clear hK
            have T2 := OwE.se T1
            clear hb
            try simp only [Act.put, List.setIfInBounds_toArray, List.set_cons_zero, List.set_cons_succ]
            refine only 20 rfl (by kernel_rfl) rfl (fun K hK => ?_)
            go_simp
            refine (LK.out _).mono ?_
            rintro e' w' ⟨rfl, hb⟩
            try go_wp2_with fail
            have T2 := Se.below T2 hb (Nat.le_refl _)
            refine hK.out _ _ ⟨SG.below h3.1 hb, Se.below h3.2.1 hb (Nat.le_refl _), Se.below h3.2.2 hb (Nat.le_refl _)⟩ (fun h4 => ?_)
            clear hK
            clear hb
            try simp only [Act.put, List.setIfInBounds_toArray, List.set_cons_zero, List.set_cons_succ]
            refine only 21 rfl (by kernel_rfl) rfl (fun K hK => ?_)
            go_simp
            refine (TR.out _).mono ?_
            rintro e' w' ⟨B2, x2, rfl, T3, hb⟩
            try go_wp2_with fail
            have T2 := Se.below T2 hb (Nat.le_refl _)
            refine hK.out _ _ ⟨SG.below h4.1 hb, Se.below h4.2.1 hb (Nat.le_refl _), Se.below h4.2.2 hb (Nat.le_refl _)⟩ (fun h5 => ?_)
            clear hK
            have T4 := OwE.se T3
            clear hb
            try simp only [Act.put, List.setIfInBounds_toArray, List.set_cons_zero, List.set_cons_succ]
            refine only 22 rfl (by kernel_rfl) rfl (fun K hK => ?_)
            go_simp
            refine (SM2.out B1 B2 _ _ _ T2 T4).mono ?_
            rintro e' w' ⟨rfl, hb⟩
            try go_wp2_with fail
            refine hK.out _ _ ⟨SG.below h5.1 hb, Se.below h5.2.1 hb (Nat.le_refl _), Se.below h5.2.2 hb (Nat.le_refl _)⟩ (fun h6 => ?_)
            clear hK
            clear hb
            try simp only [Act.put, List.setIfInBounds_toArray, List.set_cons_zero, List.set_cons_succ]
            clear T1 T2 T3 T4
            refine tk 23 (v := ?_) rfl (by kernel_rfl) (by kernel_rfl) (by kernel_rfl) (fun _ _ _ h => h) rfl ?_ h6 ?_; rotate_left; (focus (intro w hSw; (try dsimp only at hSw);  go_simp; (try with_reducible rfl))); (try simp only [Act.put, List.setIfInBounds_toArray, List.set_cons_zero, List.set_cons_succ])
            refine tk 24 (v := ?_) rfl (by kernel_rfl) (by kernel_rfl) (by kernel_rfl) (fun _ _ _ h => h) rfl ?_ h6 ?_; rotate_left; (focus (intro w hSw; (try dsimp only at hSw);  go_simp; (try with_reducible rfl))); (try simp only [Act.put, List.setIfInBounds_toArray, List.set_cons_zero, List.set_cons_succ])
            refine wpAnyH_done (by kernel_rfl) ?_ _
            go_wp2_with fail
            go_ret
            exact ⟨rfl, h6.1.bl⟩

set_option maxRecDepth 100000 in
theorem lifted (os : Os) (started : os.Started) (H : Type) (enc : TypeId × Value → H) :
    ReturnsInHanded {} Tryd.checked os 13 .any (fun w args => (Rows.orderOwnSpec.pre enc Tryd.prog Tryd.f13 [] false w args ∧ laidMetH Tryd.prog Rows.orderOwnRow.laid w) ∧ sizedMet enc Tryd.prog Tryd.f13 (OpenSpec.ofChange Rows.orderOwnSpec) false w args) (Rows.orderOwnSpec.post enc Tryd.prog Tryd.f13 false true false false) :=
  law_door (s := Rows.orderOwnSpec) (laid := Rows.orderOwnRow.laid) started (by kernel_rfl) Tryd.func13
    (ChangeSpec.witness_shaped (enc := enc) (C := Tryd.checked) (os := os) (X := fun w _ => laidMetH Tryd.prog Rows.orderOwnRow.laid w) false (World.laidAll Tryd.prog os Rows.orderOwnRow.laid) #[.slice none 0 0, .int .i64 0, .int .i64 0, .int .i64 0] 8 (World.laidAll_os _ _ _)
      (World.shaped_of_ZipB (by kernel_rfl) (by kernel_rfl)) (by kernel_rfl) (by kernel_rfl) (by kernel_rfl)
      (by rw [MakeChecks.laidMetH_plain _ _ _ (by kernel_rfl)]; exact laidMet_laidAll _ (by kernel_rfl) (by kernel_rfl)))
    rfl (by rw [Tryd.params13]; decide +kernel) rfl Tryd.underlying4
    (fun ds h => by
      rw [Tryd.params13] at h
      match ds, h with
      | [_, _, _, _], _ => rfl)
    (fun W base args ds ps hsh hval hA hsz => by
      rw [Tryd.params13] at hA hval hsz
      obtain ⟨v0, vs0, d0, ds0, p0, q0, hargs, rfl, rfl, h0, r0⟩ := trodAll_cons hA
      obtain ⟨v1, vs1, d1, ds1, p1, q1, rfl, rfl, rfl, h1, r1⟩ := trodAll_cons r0
      obtain ⟨v2, vs2, d2, ds2, p2, q2, rfl, rfl, rfl, h2, r2⟩ := trodAll_cons r1
      obtain ⟨v3, vs3, d3, ds3, p3, q3, rfl, rfl, rfl, h3, r3⟩ := trodAll_cons r2
      obtain ⟨rfl, rfl, rfl⟩ := trodAll_nil r3
      obtain rfl : args = #[v0, v1, v2, v3] := by cases args; simp_all
      obtain ⟨A0, n0, c0, g0, rfl, hn0, hc0, hs0, hw0, hl0, hd0⟩ := open_row Tryd.underlying22 Tryd.underlying3 (by kernel_rfl) (hval 0 22 v0 rfl rfl) h0
      have re0 : c0 * 8 ≤ 140737488351232 := by
        rcases hd0 with ⟨_, h0⟩ | ⟨xs, ys, h1, h2⟩
        · omega
        · have := sized_slice hsz (j := 0) (t := 22) (e := 3) rfl (by rw [h1]; rfl) Tryd.underlying22
          rw [h2, show Tryd.prog.bytesOf 3 = 8 from by kernel_rfl] at this
          simpa [reachBytes] using this
      obtain ⟨a1, rfl, rfl, rfl, w1⟩ := open_int Tryd.underlying3 (hval 1 3 v1 rfl rfl) h1
      obtain ⟨a2, rfl, rfl, rfl, w2⟩ := open_int Tryd.underlying3 (hval 2 3 v2 rfl rfl) h2
      obtain ⟨a3, rfl, rfl, rfl, w3⟩ := open_int Tryd.underlying3 (hval 3 3 v3 rfl rfl) h3
      exact walk W hsh A0 n0 c0 g0 hn0 hc0 hs0 (fun j => bounds_i64 (hw0 j)) hl0 re0 a1 (bounds_i64 w1) a2 (bounds_i64 w2) a3 (bounds_i64 w3))

theorem holds : Rows.OrderOwnSaid :=
  OpenClaim.holds_of_wide 13 Tryd.f13 rfl rfl rfl rfl rfl rfl rfl ⟨rfl, rfl, rfl, rfl, rfl⟩ rfl rfl rfl rfl rfl (by kernel_rfl) Tryd.func13 (by kernel_rfl)
    (of_decide_eq_true (by kernel_rfl)) (by unfold Func.isWrapper; first | (rw [if_pos (by decide +kernel)]; kernel_rfl) | (rw [if_neg (by decide +kernel)]; exact ⟨rfl, rfl⟩))
    (fun os started H enc _ => lifted os started H enc)
theorem proved : Rows.OrderOwnCardSaid :=
  Claim7.holds_tied_plain_at .later [] Rows.orderOwnCard.laidKinds true Rows.orderOwnCard.stood.harness false holds (fun _ h => by cases h) (by kernel_rfl) (fun _ h => by cases h) orderOwn_row_tie rfl ⟨rfl, rfl⟩ (by kernel_rfl) rfl
    (fun f fn hf hfn => by
      obtain rfl : f = 13 := Option.some.inj ((show Tryd.prog.funcNamed Rows.orderOwnRow.func = some 13 by kernel_rfl).symm.trans hf) |>.symm
      obtain rfl : fn = Tryd.f13 := (Option.some.inj (Tryd.func13.symm.trans hfn)).symm
      exact ⟨by kernel_rfl, fun j t ht => by
        rw [Tryd.params13] at ht
        have hm : t ∈ [22, 3, 3, 3] := by simpa using Array.mem_of_getElem? ht
        have hall : ([22, 3, 3, 3].all fun u => !Tryd.prog.wantsStandIn u) = true := by kernel_rfl
        exact (show Tryd.prog.wantsStandIn t = false by simpa using List.all_eq_true.1 hall t hm)⟩)
    (by kernel_rfl)
end Go.Proofs.YtljgcffpijjliaaDoor.orderOwn
