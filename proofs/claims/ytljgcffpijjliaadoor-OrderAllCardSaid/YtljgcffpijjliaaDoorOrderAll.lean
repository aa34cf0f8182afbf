/- roundhouselaw10.OrderAll answers true for every row, any nine numbers; no condition. -/
import Derived.Test.YtljgcffpijjliaaDoorOrdMark
import Derived.Test.YtljgcffpijjliaaDoorOrdRot
import Derived.Test.YtljgcffpijjliaaDoorOrdRrot
import Derived.Test.YtljgcffpijjliaaDoorOrdRem
import Derived.Test.YtljgcffpijjliaaDoorOrdRrem
import Derived.Test.YtljgcffpijjliaaDoorOrdRadd
import Derived.Test.YtljgcffpijjliaaDoorOrdSame
import Derived.Test.YtljgcffpijjliaaDoorOrdAp
import Derived.Test.YtljgcffpijjliaaDoorOrdKnown10
import Derived.Test.YtljgcffpijjliaaDoorDoor
import Derived.BigQuiet
import Derived.Deep.RegionHeld3
import Derived.Deep.Cut
namespace Go.Proofs.YtljgcffpijjliaaDoor.orderAll
set_option linter.unusedVariables false
set_option linter.unusedSimpArgs false
open Go.RowKit Go.ChangeShapes Go.WideShapes Go.ChangeAt

def RS (w : World) (l : List (Option Addr × Nat × (Nat → En))) : Prop := ∀ x, x ∈ l → Se w x.1 x.2.1 x.2.2
theorem RS.nil (w : World) : RS w [] := fun x hx => absurd hx (by simp)
theorem RS.below {w w' : World} {l : List (Option Addr × Nat × (Nat → En))} (h : RS w l) (hb : Below w.heap.size w w') : RS w' l := fun x hx => Se.below (h x hx) hb (Nat.le_refl _)
theorem RS.cons {w : World} {l : List (Option Addr × Nat × (Nat → En))} (h : RS w l) {A : Option Addr} {n : Nat} {g : Nat → En} (hs : Se w A n g) : RS w ((A, n, g) :: l) := fun x hx => by rcases List.mem_cons.1 hx with e | hx; (rw [e]; exact hs); exact h x hx
theorem RS.get {w : World} {l : List (Option Addr × Nat × (Nat → En))} (h : RS w l) {A : Option Addr} {n : Nat} {g : Nat → En} (hx : (A, n, g) ∈ l) : Se w A n g := h (A, n, g) hx
theorem add_len (p : Pl) (a q m : Int) : (addR p a q m).1.length ≤ 2 := by
  unfold addR
  split
  · simp
  · cases heldB p a q
    · simp only [cond_false]
      split <;> simp
    · simp
theorem rem_len (p : Pl) (a q : Int) : (remR p a q).1.length ≤ 2 := by
  unfold remR
  split
  · simp
  · simp only
    split <;> simp
attribute [local irreducible] PA
set_option maxRecDepth 100000 in
set_option maxHeartbeats 8000000 in
theorem walk (W : World) (hsh : W.ShapedOpen Tryd.prog) (A1 : Option Addr) (n1 c1 : Nat) (g1 : Nat → Int) (hn1 : n1 ≤ c1) (hc1 : c1 ≤ maxLen) (hr1 : Is W A1 n1 g1) (hg1 : IsI g1) (hl1 : ∀ ad, A1 = some ad → 0 < n1 → ad.block < W.heap.size) (re1 : c1 * 8 ≤ 140737488351232) (a0 : Int) (r_a0 : -9223372036854775808 ≤ a0 ∧ a0 ≤ 9223372036854775807) (b0 : Int) (r_b0 : -9223372036854775808 ≤ b0 ∧ b0 ≤ 9223372036854775807) (c0 : Int) (r_c0 : -9223372036854775808 ≤ c0 ∧ c0 ≤ 9223372036854775807) (d0 : Int) (r_d0 : -9223372036854775808 ≤ d0 ∧ d0 ≤ 9223372036854775807) (e0 : Int) (r_e0 : -9223372036854775808 ≤ e0 ∧ e0 ≤ 9223372036854775807) (f0 : Int) (r_f0 : -9223372036854775808 ≤ f0 ∧ f0 ≤ 9223372036854775807) (k0 : Int) (r_k0 : -9223372036854775808 ≤ k0 ∧ k0 ≤ 9223372036854775807) (s0 : Int) (r_s0 : -9223372036854775808 ≤ s0 ∧ s0 ≤ 9223372036854775807) (v0 : Int) (r_v0 : -9223372036854775808 ≤ v0 ∧ v0 ≤ 9223372036854775807) :
    Calls Tryd.prog 3 #[.slice A1 n1 c1, .int .i64 a0, .int .i64 b0, .int .i64 c0, .int .i64 d0, .int .i64 e0, .int .i64 f0, .int .i64 k0, .int .i64 s0, .int .i64 v0] W fun e w' => e = .returned (.bool true) ∧ Below W.heap.size W w' := by
  have hz : ∀ w : World, (zeroValue 33).run Tryd.prog w = .ok (.agg (PA zPl)) w := fun w => zero_pl w
  have hz1 := pa_size zPl
  have hz2 := pa_ne zPl
  unfold maxLen at hc1
  have hnm : (n1 : Int) ≤ 9223372036854775807 := by have := hn1; omega
  have HL := hid hl1
  clear hl1 re1
  obtain ⟨p, hp⟩ : ∃ p, p = mkP g1 (min n1 60) := ⟨_, rfl⟩
  have HQ := hid (show Pinv p 60 from by rw [hp]; exact (mkP_inv g1 _).mono (by omega))
  have MK := hid (fun (w : World) (h : Is w A1 n1 g1) (hl : ∀ ad, A1 = some ad → 0 < n1 → ad.block < w.heap.size) => (show Calls Tryd.prog 15 #[.slice A1 n1 c1, .int .i64 60] w fun x w' => x = .returned (.agg (PA p)) ∧ Below w.heap.size w w' from by rw [hp]; exact make_any w A1 n1 c1 g1 h hl hnm 60 (by omega)))
  clear hp
  obtain ⟨ml, hml⟩ := Tryd.laysM147.s1_3 W hsh
  have HML := hid hml
  clear hml hsh
  obtain ⟨xa, hxa⟩ : ∃ x, x = wi a0 6 := ⟨_, rfl⟩
  have bxa := wi_bd a0 6 (by omega)
  rw [← hxa] at bxa
  have Wxa := hid (fun w => re_i64 (within_any a0 6 w (by omega) (by omega)) hxa.symm)
  clear hxa
  obtain ⟨bxa1, bxa2⟩ := bxa
  obtain ⟨yc, hyc⟩ : ∃ x, x = wi b0 4 := ⟨_, rfl⟩
  have byc := wi_bd b0 4 (by omega)
  rw [← hyc] at byc
  have Wyc := hid (fun w => re_i64 (within_any b0 4 w (by omega) (by omega)) hyc.symm)
  clear hyc
  obtain ⟨byc1, byc2⟩ := byc
  obtain ⟨ua, hua⟩ : ∃ x, x = wi c0 8 := ⟨_, rfl⟩
  have bua := wi_bd c0 8 (by omega)
  rw [← hua] at bua
  have Wua := hid (fun w => re_i64 (within_any c0 8 w (by omega) (by omega)) hua.symm)
  clear hua
  obtain ⟨bua1, bua2⟩ := bua
  obtain ⟨za, hza⟩ : ∃ x, x = wi a0 9 := ⟨_, rfl⟩
  have bza := wi_bd a0 9 (by omega)
  rw [← hza] at bza
  have Wza := hid (fun w => re_i64 (within_any a0 9 w (by omega) (by omega)) hza.symm)
  clear hza
  obtain ⟨bza1, bza2⟩ := bza
  obtain ⟨qa, hqa⟩ : ∃ x, x = wi s0 66 := ⟨_, rfl⟩
  have bqa := wi_bd s0 66 (by omega)
  rw [← hqa] at bqa
  have Wqa := hid (fun w => re_i64 (within_any s0 66 w (by omega) (by omega)) hqa.symm)
  clear hqa
  obtain ⟨bqa1, bqa2⟩ := bqa
  obtain ⟨va, hva⟩ : ∃ x, x = wi v0 4 := ⟨_, rfl⟩
  have bva := wi_bd v0 4 (by omega)
  rw [← hva] at bva
  have Wva := hid (fun w => re_i64 (within_any v0 4 w (by omega) (by omega)) hva.symm)
  clear hva
  obtain ⟨bva1, bva2⟩ := bva
  have w1_ : IntKind.i64.wrap (1 + ua) = 1 + ua := IntWalk.i64_in _ (by omega)
  have w2_ : IntKind.i64.wrap (qa - 1) = qa - 1 := IntWalk.i64_in _ (by omega)
  have ST := hid HQ.out.st
  have PBp := hid (HQ.out.pb (by omega))
  have AD := hid (fun (i j m : Int) (w : World) => (show Calls Tryd.prog 17 #[.agg (PA p), .int .i64 i, .int .i64 j, .int .i64 m] w fun e w' => ∃ (A : Option Addr) (d : Nat), e = .returned (.tuple #[.slice A (addR p i j m).1.length d, .int .i64 (addR p i j m).2]) ∧ Se w' A (addR p i j m).1.length (gl (addR p i j m).1) ∧ Below w.heap.size w w' from (add_any p i j m w).mono (fun e w' h => by obtain ⟨A, d, e1, e2, e3⟩ := h; exact ⟨A, d, e1, e2.se, e3⟩)))
  have RA := hid (fun (i j m : Int) (w : World) => (show Calls Tryd.prog 18 #[.agg (PA p), .int .i64 i, .int .i64 j, .int .i64 m] w fun e w' => ∃ (A : Option Addr) (d : Nat), e = .returned (.tuple #[.slice A (addR p i j m).1.length d, .int .i64 (addR p i j m).2]) ∧ Se w' A (addR p i j m).1.length (gl (addR p i j m).1) ∧ Below w.heap.size w w' from (radd_any p i j m w).mono (fun e w' h => by obtain ⟨A, d, e1, e2, e3⟩ := h; exact ⟨A, d, e1, e2.se, e3⟩)))
  have RM := hid (fun (i j : Int) (w : World) => (show Calls Tryd.prog 19 #[.agg (PA p), .int .i64 i, .int .i64 j] w fun e w' => ∃ (A : Option Addr) (d : Nat), e = .returned (.tuple #[.slice A (remR p i j).1.length d, .int .i64 (remR p i j).2]) ∧ Se w' A (remR p i j).1.length (gl (remR p i j).1) ∧ Below w.heap.size w w' from (remove_any p ST.out i j w).mono (fun e w' h => by obtain ⟨A, d, e1, e2, e3⟩ := h; exact ⟨A, d, e1, e2.se, e3⟩)))
  have RR := hid (fun (i j : Int) (w : World) => (show Calls Tryd.prog 20 #[.agg (PA p), .int .i64 i, .int .i64 j] w fun e w' => ∃ (A : Option Addr) (d : Nat), e = .returned (.tuple #[.slice A (remR p i j).1.length d, .int .i64 (remR p i j).2]) ∧ Se w' A (remR p i j).1.length (gl (remR p i j).1) ∧ Below w.heap.size w w' from (rremove_any p i j w).mono (fun e w' h => by obtain ⟨A, d, e1, e2, e3⟩ := h; exact ⟨A, d, e1, e2.se, e3⟩)))
  obtain ⟨ky, hky⟩ : ∃ y, y = kyN k0 := ⟨_, rfl⟩
  have LK0 := fun w => lkey_any k0 w
  rw [← hky] at LK0
  clear hky
  have MO := hid (fun (i j : Int) (w : World) => (show Calls Tryd.prog 25 #[.agg (PA p), .int .i64 i, .int .i64 j] w fun e w' => ∃ (A : Option Addr) (d : Nat), e = .returned (.slice A (mrkL p i j).length d) ∧ Se w' A (mrkL p i j).length (gl (mrkL p i j)) ∧ Below w.heap.size w w' from (mark_any p i j w).mono (fun e w' h => by obtain ⟨A, d, e1, e2, e3⟩ := h; exact ⟨A, d, e1, e2.se, e3⟩)))
  have MR := hid (fun (i j : Int) (w : World) => (show Calls Tryd.prog 26 #[.agg (PA p), .int .i64 i, .int .i64 j] w fun e w' => ∃ (A : Option Addr) (d : Nat), e = .returned (.slice A (mrkL p i j).length d) ∧ Se w' A (mrkL p i j).length (gl (mrkL p i j)) ∧ Below w.heap.size w w' from (rmark_any p i j w).mono (fun e w' h => by obtain ⟨A, d, e1, e2, e3⟩ := h; exact ⟨A, d, e1, e2.se, e3⟩)))
  have TO := hid (fun  (w : World) => (show Calls Tryd.prog 22 #[.agg (PA p), kyV ky] w fun e w' => ∃ (A : Option Addr) (d : Nat), e = .returned (.slice A (rotL p ky 64).length d) ∧ Se w' A (rotL p ky 64).length (gl (rotL p ky 64)) ∧ Below w.heap.size w w' from (rotate_any p PBp.out ky w).mono (fun e w' h => by obtain ⟨A, d, e1, e2, e3⟩ := h; exact ⟨A, d, e1, e2.se, e3⟩)))
  have TR := hid (fun  (w : World) => (show Calls Tryd.prog 24 #[.agg (PA p), kyV ky] w fun e w' => ∃ (A : Option Addr) (d : Nat), e = .returned (.slice A (rotL p ky 64).length d) ∧ Se w' A (rotL p ky 64).length (gl (rotL p ky 64)) ∧ Below w.heap.size w w' from (rrotate_any p PBp.out ky w).mono (fun e w' h => by obtain ⟨A, d, e1, e2, e3⟩ := h; exact ⟨A, d, e1, e2.se, e3⟩)))
  have LT := (rot_len p ky 64).2
  obtain ⟨ka, kb⟩ := ky
  replace TO := TO.out
  replace TR := TR.out
  unfold kyV at LK0 TO TR
  simp only at LK0 TO TR
  have LK := hid LK0
  replace TO := hid TO
  replace TR := hid TR
  clear LK0 ST PBp HQ
  have SM := hid (fun (A B : Option Addr) (l : List En) (c d : Nat) (w : World) (h1 : Se w A l.length (gl l)) (h2 : Se w B l.length (gl l)) (hl : l.length ≤ 1000) => same_eq A B l.length c d (gl l) w h1 h2 hl)
  have LA := hid (fun i j m => add_len p i j m)
  have LR := hid (fun i j => rem_len p i j)
  have LM := hid (fun i j => (Nat.le_trans (mrk_len p i j) (by decide) : (mrkL p i j).length ≤ 1000))
  go_enter Tryd.func3, Tryd.ntmps3
  go_wp2_with fail
  refine (known10_any ml _ HML.out).mono ?_
  rintro x w1 ⟨rfl, hB⟩
  have R1 := hid (hr1.below hB (Nat.le_refl _))
  have B1 := hid hB
  clear hr1 hB HML
  go_wp2_with fail
  refine (MK.out _ R1.out (fun ad e h => Nat.lt_of_lt_of_le (HL.out ad e h) B1.out.size)).mono ?_
  rintro x w2 ⟨rfl, hb⟩
  have S2 := hid ((SG.start B1.out).below hb)
  clear hb R1 B1 MK
  have ST := hid ((sg_new (w := w2) (T := 33)).storeA p)
  have S3 := hid (SG.put S2.out (T := 33) zPl p (by simp))
  go_upto_region 4 with ((with_reducible refine wl_id ?_); refine wl_store rfl rfl rfl rfl ST.out ?_)
  clear ST S2
  generalize (w2.alloc (.cells (PA zPl) 33)).setCells w2.heap.size 0 (PA p).toList = w3 at *
  generalize w2.heap.size = P at *
  go_wp2_with fail
  refine (Wxa.out _).mono ?_
  rintro e w' ⟨rfl, rfl⟩
  go_wp2_with fail
  refine (Wyc.out _).mono ?_
  rintro e w' ⟨rfl, rfl⟩
  go_wp2_with fail
  refine (Wua.out _).mono ?_
  rintro e w' ⟨rfl, rfl⟩
  go_wp2_with fail
  refine (Wza.out _).mono ?_
  rintro e w' ⟨rfl, rfl⟩
  cases z0 : (za == 0)
  · go_upto_region 7 with (fail)
    have S4 := S3
    clear S3 Wxa Wyc Wua Wza
    obtain ⟨wc, hwc⟩ : ∃ x, x = w3 := ⟨_, rfl⟩
    rw [← hwc] at S4 ⊢
    clear hwc
    obtain ⟨R1, hR1⟩ : ∃ r, r = addR p xa yc (1 + ua) := ⟨_, rfl⟩
    obtain ⟨R2, hR2⟩ : ∃ r, r = addR p d0 e0 f0 := ⟨_, rfl⟩
    obtain ⟨R3, hR3⟩ : ∃ r, r = remR p xa yc := ⟨_, rfl⟩
    obtain ⟨R4, hR4⟩ : ∃ r, r = remR p d0 e0 := ⟨_, rfl⟩
    have AD1 := hid (AD.out xa yc (1 + ua))
    have RA1 := hid (RA.out xa yc (1 + ua))
    have AD2 := hid (AD.out d0 e0 f0)
    have RA2 := hid (RA.out d0 e0 f0)
    have RM3 := hid (RM.out xa yc)
    have RR3 := hid (RR.out xa yc)
    have RM4 := hid (RM.out d0 e0)
    have RR4 := hid (RR.out d0 e0)
    have L1 := LA.out xa yc (1 + ua)
    have L2 := LA.out d0 e0 f0
    have L3 := LR.out xa yc
    have L4 := LR.out d0 e0
    rw [← hR1] at AD1 RA1 L1
    rw [← hR2] at AD2 RA2 L2
    rw [← hR3] at RM3 RR3 L3
    rw [← hR4] at RM4 RR4 L4
    clear hR1 hR2 hR3 hR4 AD RA RM RR LA LR
    obtain ⟨l1, n1⟩ := R1
    obtain ⟨l2, n2⟩ := R2
    obtain ⟨l3, n3⟩ := R3
    obtain ⟨l4, n4⟩ := R4
    simp only at L1 L2 L3 L4
    have Q4 := hid (RS.nil wc)
    go_upto_region 7 with (fail)
    have LP := (SG.get S4.out (b := P) (p := p) (by simp)).loadA
    go_wp2_with ((with_reducible refine wl_id ?_); refine wl_load rfl rfl rfl LP ?_)
    clear LP
    refine (AD1.out _).mono ?_
    rintro e w5 ⟨A0, d0, rfl, se, hb⟩
    have S5 := hid (S4.out.below hb)
    have Q5 := hid ((Q4.out.below hb).cons se)
    clear se hb S4 Q4 AD1
    go_upto_region 8 with (fail)
    have LP := (SG.get S5.out (b := P) (p := p) (by simp)).loadA
    go_wp2_with ((with_reducible refine wl_id ?_); refine wl_load rfl rfl rfl LP ?_)
    clear LP
    refine (RA1.out _).mono ?_
    rintro e w6 ⟨A1, d1, rfl, se, hb⟩
    have S6 := hid (S5.out.below hb)
    have Q6 := hid ((Q5.out.below hb).cons se)
    clear se hb S5 Q5 RA1
    go_upto_region 9 with (fail)
    have LP := (SG.get S6.out (b := P) (p := p) (by simp)).loadA
    go_wp2_with ((with_reducible refine wl_id ?_); refine wl_load rfl rfl rfl LP ?_)
    clear LP
    refine (AD2.out _).mono ?_
    rintro e w7 ⟨A2, d2, rfl, se, hb⟩
    have S7 := hid (S6.out.below hb)
    have Q7 := hid ((Q6.out.below hb).cons se)
    clear se hb S6 Q6 AD2
    go_upto_region 10 with (fail)
    have LP := (SG.get S7.out (b := P) (p := p) (by simp)).loadA
    go_wp2_with ((with_reducible refine wl_id ?_); refine wl_load rfl rfl rfl LP ?_)
    clear LP
    refine (RA2.out _).mono ?_
    rintro e w8 ⟨A3, d3, rfl, se, hb⟩
    have S8 := hid (S7.out.below hb)
    have Q8 := hid ((Q7.out.below hb).cons se)
    clear se hb S7 Q7 RA2
    go_upto_region 11 with (fail)
    have LP := (SG.get S8.out (b := P) (p := p) (by simp)).loadA
    go_wp2_with ((with_reducible refine wl_id ?_); refine wl_load rfl rfl rfl LP ?_)
    clear LP
    refine (RM3.out _).mono ?_
    rintro e w9 ⟨A4, d4, rfl, se, hb⟩
    have S9 := hid (S8.out.below hb)
    have Q9 := hid ((Q8.out.below hb).cons se)
    clear se hb S8 Q8 RM3
    go_upto_region 12 with (fail)
    have LP := (SG.get S9.out (b := P) (p := p) (by simp)).loadA
    go_wp2_with ((with_reducible refine wl_id ?_); refine wl_load rfl rfl rfl LP ?_)
    clear LP
    refine (RR3.out _).mono ?_
    rintro e w10 ⟨A5, d5, rfl, se, hb⟩
    have S10 := hid (S9.out.below hb)
    have Q10 := hid ((Q9.out.below hb).cons se)
    clear se hb S9 Q9 RR3
    go_upto_region 13 with (fail)
    have LP := (SG.get S10.out (b := P) (p := p) (by simp)).loadA
    go_wp2_with ((with_reducible refine wl_id ?_); refine wl_load rfl rfl rfl LP ?_)
    clear LP
    refine (RM4.out _).mono ?_
    rintro e w11 ⟨A6, d6, rfl, se, hb⟩
    have S11 := hid (S10.out.below hb)
    have Q11 := hid ((Q10.out.below hb).cons se)
    clear se hb S10 Q10 RM4
    go_upto_region 14 with (fail)
    have LP := (SG.get S11.out (b := P) (p := p) (by simp)).loadA
    go_wp2_with ((with_reducible refine wl_id ?_); refine wl_load rfl rfl rfl LP ?_)
    clear LP
    refine (RR4.out _).mono ?_
    rintro e w12 ⟨A7, d7, rfl, se, hb⟩
    have S12 := hid (S11.out.below hb)
    have Q12 := hid ((Q11.out.below hb).cons se)
    clear se hb S11 Q11 RR4
    go_upto_region 15 with (fail)
    go_wp2_with fail
    refine (SM.out A0 A1 l1 _ _ _ (Q12.out.get (by simp)) (Q12.out.get (by simp)) (by omega)).mono ?_
    rintro e w13 ⟨rfl, hb⟩
    have S13 := hid (S12.out.below hb)
    have Q13 := hid (Q12.out.below hb)
    clear hb S12 Q12
    go_wp2_with fail
    refine (SM.out A2 A3 l2 _ _ _ (Q13.out.get (by simp)) (Q13.out.get (by simp)) (by omega)).mono ?_
    rintro e w14 ⟨rfl, hb⟩
    have S14 := hid (S13.out.below hb)
    have Q14 := hid (Q13.out.below hb)
    clear hb S13 Q13
    go_wp2_with fail
    refine (SM.out A4 A5 l3 _ _ _ (Q14.out.get (by simp)) (Q14.out.get (by simp)) (by omega)).mono ?_
    rintro e w15 ⟨rfl, hb⟩
    have S15 := hid (S14.out.below hb)
    have Q15 := hid (Q14.out.below hb)
    clear hb S14 Q14
    go_wp2_with fail
    refine (SM.out A6 A7 l4 _ _ _ (Q15.out.get (by simp)) (Q15.out.get (by simp)) (by omega)).mono ?_
    rintro e w16 ⟨rfl, hb⟩
    have S16 := hid (S15.out.below hb)
    have Q16 := hid (Q15.out.below hb)
    clear hb S15 Q15
    clear Q16 L1 L2 L3 L4
    go_wp2_with fail
    refine (Wqa.out _).mono ?_
    rintro e w' ⟨rfl, rfl⟩
    go_upto_region 18 with (fail)
    refine wp_region_held_drew (S := fun w' => SG W w' [(P, p)] []) (by kernel_rfl) ?_ (fun hHeld => ?_)
    · exact S16.out.drew
    refine tk 0 (v := .agg (PA p)) rfl (by kernel_rfl) (by kernel_rfl) (by kernel_rfl) (fun _ _ _ h => h) rfl (fun w hSw => ex_load rfl rfl (SG.get hSw (b := P) (p := p) (by simp)).loadA) hHeld ?_; (try simp only [Act.put, List.setIfInBounds_toArray, List.set_cons_zero, List.set_cons_succ])
    refine tk 1 (v := ?_) rfl (by kernel_rfl) (by kernel_rfl) (by kernel_rfl) (fun _ _ _ h => h) rfl ?_ hHeld ?_; rotate_left; (focus (intro w hSw; (try dsimp only at hSw);  go_simp; (try with_reducible rfl))); (try simp only [Act.put, List.setIfInBounds_toArray, List.set_cons_zero, List.set_cons_succ])
    refine tk 4 (v := .agg (PA p)) rfl (by kernel_rfl) (by kernel_rfl) (by kernel_rfl) (fun _ _ _ h => h) rfl (fun w hSw => ex_load rfl rfl (SG.get hSw (b := P) (p := p) (by simp)).loadA) hHeld ?_; (try simp only [Act.put, List.setIfInBounds_toArray, List.set_cons_zero, List.set_cons_succ])
    refine tk 5 (v := ?_) rfl (by kernel_rfl) (by kernel_rfl) (by kernel_rfl) (fun _ _ _ h => h) rfl ?_ hHeld ?_; rotate_left; (focus (intro w hSw; (try dsimp only at hSw);  go_simp; (try with_reducible rfl))); (try simp only [Act.put, List.setIfInBounds_toArray, List.set_cons_zero, List.set_cons_succ])
    refine only 2 rfl (by kernel_rfl) rfl (fun K hK => ?_)
    go_simp
    refine (LK.out _).mono ?_
    rintro e' w' ⟨rfl, hb⟩
    try go_wp2_with fail
    refine hK.out _ _ (SG.below hHeld hb) (fun h1 => ?_)
    clear hK hb
    try simp only [Act.put, List.setIfInBounds_toArray, List.set_cons_zero, List.set_cons_succ]
    refine only 3 rfl (by kernel_rfl) rfl (fun K hK => ?_)
    go_simp
    refine (TO.out _).mono ?_
    rintro e' w' ⟨B1, x1, rfl, T1, hb⟩
    try go_wp2_with fail
    refine hK.out _ _ (SG.below h1 hb) (fun h2 => ?_)
    clear hK hb
    try simp only [Act.put, List.setIfInBounds_toArray, List.set_cons_zero, List.set_cons_succ]
    refine only 6 rfl (by kernel_rfl) rfl (fun K hK => ?_)
    go_simp
    refine (LK.out _).mono ?_
    rintro e' w' ⟨rfl, hb⟩
    try go_wp2_with fail
    have T1 := Se.below T1 hb (Nat.le_refl _)
    refine hK.out _ _ (SG.below h2 hb) (fun h3 => ?_)
    clear hK hb
    try simp only [Act.put, List.setIfInBounds_toArray, List.set_cons_zero, List.set_cons_succ]
    refine only 7 rfl (by kernel_rfl) rfl (fun K hK => ?_)
    go_simp
    refine (TR.out _).mono ?_
    rintro e' w' ⟨B2, x2, rfl, T2, hb⟩
    try go_wp2_with fail
    have T1 := Se.below T1 hb (Nat.le_refl _)
    refine hK.out _ _ (SG.below h3 hb) (fun h4 => ?_)
    clear hK hb
    try simp only [Act.put, List.setIfInBounds_toArray, List.set_cons_zero, List.set_cons_succ]
    refine only 8 rfl (by kernel_rfl) rfl (fun K hK => ?_)
    go_simp
    refine (SM.out B1 B2 _ _ _ _ T1 T2 (by omega)).mono ?_
    rintro e' w' ⟨rfl, hb⟩
    try go_wp2_with fail
    refine hK.out _ _ (SG.below h4 hb) (fun h5 => ?_)
    clear hK hb
    try simp only [Act.put, List.setIfInBounds_toArray, List.set_cons_zero, List.set_cons_succ]
    clear T1 T2
    refine tk 9 (v := ?_) rfl (by kernel_rfl) (by kernel_rfl) (by kernel_rfl) (fun _ _ _ h => h) rfl ?_ h5 ?_; rotate_left; (focus (intro w hSw; (try dsimp only at hSw);  go_simp; (try with_reducible rfl))); (try simp only [Act.put, List.setIfInBounds_toArray, List.set_cons_zero, List.set_cons_succ])
    refine tk 10 (v := .agg (PA p)) rfl (by kernel_rfl) (by kernel_rfl) (by kernel_rfl) (fun _ _ _ h => h) rfl (fun w hSw => ex_load rfl rfl (SG.get hSw (b := P) (p := p) (by simp)).loadA) h5 ?_; (try simp only [Act.put, List.setIfInBounds_toArray, List.set_cons_zero, List.set_cons_succ])
    refine tk 11 (v := ?_) rfl (by kernel_rfl) (by kernel_rfl) (by kernel_rfl) (fun _ _ _ h => h) rfl ?_ h5 ?_; rotate_left; (focus (intro w hSw; (try dsimp only at hSw);  go_simp; (try with_reducible rfl))); (try simp only [Act.put, List.setIfInBounds_toArray, List.set_cons_zero, List.set_cons_succ])
    refine tk 12 (v := ?_) rfl (by kernel_rfl) (by kernel_rfl) (by kernel_rfl) (fun _ _ _ h => h) rfl ?_ h5 ?_; rotate_left; (focus (intro w hSw; (try dsimp only at hSw);  go_simp; (try with_reducible rfl))); (try simp only [Act.put, List.setIfInBounds_toArray, List.set_cons_zero, List.set_cons_succ])
    refine tk 15 (v := .agg (PA p)) rfl (by kernel_rfl) (by kernel_rfl) (by kernel_rfl) (fun _ _ _ h => h) rfl (fun w hSw => ex_load rfl rfl (SG.get hSw (b := P) (p := p) (by simp)).loadA) h5 ?_; (try simp only [Act.put, List.setIfInBounds_toArray, List.set_cons_zero, List.set_cons_succ])
    refine tk 16 (v := ?_) rfl (by kernel_rfl) (by kernel_rfl) (by kernel_rfl) (fun _ _ _ h => h) rfl ?_ h5 ?_; rotate_left; (focus (intro w hSw; (try dsimp only at hSw);  go_simp; (try with_reducible rfl))); (try simp only [Act.put, List.setIfInBounds_toArray, List.set_cons_zero, List.set_cons_succ])
    refine tk 17 (v := ?_) rfl (by kernel_rfl) (by kernel_rfl) (by kernel_rfl) (fun _ _ _ h => h) rfl ?_ h5 ?_; rotate_left; (focus (intro w hSw; (try dsimp only at hSw);  go_simp; (try with_reducible rfl))); (try simp only [Act.put, List.setIfInBounds_toArray, List.set_cons_zero, List.set_cons_succ])
    refine only 13 rfl (by kernel_rfl) rfl (fun K hK => ?_)
    go_simp
    refine (Wva.out _).mono ?_
    rintro e' w' ⟨rfl, rfl⟩
    try go_wp2_with fail
    refine hK.out _ _ h5 (fun _ => ?_)
    clear hK
    try simp only [Act.put, List.setIfInBounds_toArray, List.set_cons_zero, List.set_cons_succ]
    refine only 14 rfl (by kernel_rfl) rfl (fun K hK => ?_)
    go_simp
    refine (MO.out _ _ _).mono ?_
    rintro e' w' ⟨B3, x3, rfl, T3, hb⟩
    try go_wp2_with fail
    refine hK.out _ _ (SG.below h5 hb) (fun h6 => ?_)
    clear hK hb
    try simp only [Act.put, List.setIfInBounds_toArray, List.set_cons_zero, List.set_cons_succ]
    refine only 18 rfl (by kernel_rfl) rfl (fun K hK => ?_)
    go_simp
    refine (Wva.out _).mono ?_
    rintro e' w' ⟨rfl, rfl⟩
    try go_wp2_with fail
    refine hK.out _ _ h6 (fun _ => ?_)
    clear hK
    try simp only [Act.put, List.setIfInBounds_toArray, List.set_cons_zero, List.set_cons_succ]
    refine only 19 rfl (by kernel_rfl) rfl (fun K hK => ?_)
    go_simp
    refine (MR.out _ _ _).mono ?_
    rintro e' w' ⟨B4, x4, rfl, T4, hb⟩
    try go_wp2_with fail
    have T3 := Se.below T3 hb (Nat.le_refl _)
    refine hK.out _ _ (SG.below h6 hb) (fun h7 => ?_)
    clear hK hb
    try simp only [Act.put, List.setIfInBounds_toArray, List.set_cons_zero, List.set_cons_succ]
    refine only 20 rfl (by kernel_rfl) rfl (fun K hK => ?_)
    go_simp
    refine (SM.out B3 B4 _ _ _ _ T3 T4 (LM.out _ _)).mono ?_
    rintro e' w' ⟨rfl, hb⟩
    try go_wp2_with fail
    refine hK.out _ _ (SG.below h7 hb) (fun h8 => ?_)
    clear hK hb
    try simp only [Act.put, List.setIfInBounds_toArray, List.set_cons_zero, List.set_cons_succ]
    clear T3 T4
    refine tk 21 (v := ?_) rfl (by kernel_rfl) (by kernel_rfl) (by kernel_rfl) (fun _ _ _ h => h) rfl ?_ h8 ?_; rotate_left; (focus (intro w hSw; (try dsimp only at hSw);  go_simp; (try with_reducible rfl))); (try simp only [Act.put, List.setIfInBounds_toArray, List.set_cons_zero, List.set_cons_succ])
    refine tk 22 (v := ?_) rfl (by kernel_rfl) (by kernel_rfl) (by kernel_rfl) (fun _ _ _ h => h) rfl ?_ h8 ?_; rotate_left; (focus (intro w hSw; (try dsimp only at hSw);  go_simp; (try with_reducible rfl))); (try simp only [Act.put, List.setIfInBounds_toArray, List.set_cons_zero, List.set_cons_succ])
    refine tk 23 (v := .agg (PA p)) rfl (by kernel_rfl) (by kernel_rfl) (by kernel_rfl) (fun _ _ _ h => h) rfl (fun w hSw => ex_load rfl rfl (SG.get hSw (b := P) (p := p) (by simp)).loadA) h8 ?_; (try simp only [Act.put, List.setIfInBounds_toArray, List.set_cons_zero, List.set_cons_succ])
    refine tk 24 (v := ?_) rfl (by kernel_rfl) (by kernel_rfl) (by kernel_rfl) (fun _ _ _ h => h) rfl ?_ h8 ?_; rotate_left; (focus (intro w hSw; (try dsimp only at hSw);  go_simp; (try with_reducible rfl))); (try simp only [Act.put, List.setIfInBounds_toArray, List.set_cons_zero, List.set_cons_succ])
    refine tk 25 (v := ?_) rfl (by kernel_rfl) (by kernel_rfl) (by kernel_rfl) (fun _ _ _ h => h) rfl ?_ h8 ?_; rotate_left; (focus (intro w hSw; (try dsimp only at hSw);  go_simp; (try with_reducible rfl))); (try simp only [Act.put, List.setIfInBounds_toArray, List.set_cons_zero, List.set_cons_succ])
    refine tk 27 (v := .agg (PA p)) rfl (by kernel_rfl) (by kernel_rfl) (by kernel_rfl) (fun _ _ _ h => h) rfl (fun w hSw => ex_load rfl rfl (SG.get hSw (b := P) (p := p) (by simp)).loadA) h8 ?_; (try simp only [Act.put, List.setIfInBounds_toArray, List.set_cons_zero, List.set_cons_succ])
    refine tk 28 (v := ?_) rfl (by kernel_rfl) (by kernel_rfl) (by kernel_rfl) (fun _ _ _ h => h) rfl ?_ h8 ?_; rotate_left; (focus (intro w hSw; (try dsimp only at hSw);  go_simp; (try with_reducible rfl))); (try simp only [Act.put, List.setIfInBounds_toArray, List.set_cons_zero, List.set_cons_succ])
    refine tk 29 (v := ?_) rfl (by kernel_rfl) (by kernel_rfl) (by kernel_rfl) (fun _ _ _ h => h) rfl ?_ h8 ?_; rotate_left; (focus (intro w hSw; (try dsimp only at hSw);  go_simp; (try with_reducible rfl))); (try simp only [Act.put, List.setIfInBounds_toArray, List.set_cons_zero, List.set_cons_succ])
    refine only 26 rfl (by kernel_rfl) rfl (fun K hK => ?_)
    go_simp
    refine (MO.out _ _ _).mono ?_
    rintro e' w' ⟨B5, x5, rfl, T5, hb⟩
    try go_wp2_with fail
    refine hK.out _ _ (SG.below h8 hb) (fun h9 => ?_)
    clear hK hb
    try simp only [Act.put, List.setIfInBounds_toArray, List.set_cons_zero, List.set_cons_succ]
    refine only 30 rfl (by kernel_rfl) rfl (fun K hK => ?_)
    go_simp
    refine (MR.out _ _ _).mono ?_
    rintro e' w' ⟨B6, x6, rfl, T6, hb⟩
    try go_wp2_with fail
    have T5 := Se.below T5 hb (Nat.le_refl _)
    refine hK.out _ _ (SG.below h9 hb) (fun h10 => ?_)
    clear hK hb
    try simp only [Act.put, List.setIfInBounds_toArray, List.set_cons_zero, List.set_cons_succ]
    refine only 31 rfl (by kernel_rfl) rfl (fun K hK => ?_)
    go_simp
    refine (SM.out B5 B6 _ _ _ _ T5 T6 (LM.out _ _)).mono ?_
    rintro e' w' ⟨rfl, hb⟩
    try go_wp2_with fail
    refine hK.out _ _ (SG.below h10 hb) (fun h11 => ?_)
    clear hK hb
    try simp only [Act.put, List.setIfInBounds_toArray, List.set_cons_zero, List.set_cons_succ]
    clear T5 T6
    refine tk 32 (v := ?_) rfl (by kernel_rfl) (by kernel_rfl) (by kernel_rfl) (fun _ _ _ h => h) rfl ?_ h11 ?_; rotate_left; (focus (intro w hSw; (try dsimp only at hSw);  go_simp; (try with_reducible rfl))); (try simp only [Act.put, List.setIfInBounds_toArray, List.set_cons_zero, List.set_cons_succ])
    refine tk 33 (v := ?_) rfl (by kernel_rfl) (by kernel_rfl) (by kernel_rfl) (fun _ _ _ h => h) rfl ?_ h11 ?_; rotate_left; (focus (intro w hSw; (try dsimp only at hSw);  go_simp; (try with_reducible rfl))); (try simp only [Act.put, List.setIfInBounds_toArray, List.set_cons_zero, List.set_cons_succ])
    refine wpAnyH_done (by kernel_rfl) ?_ _
    go_wp2_with fail
    go_ret
    exact ⟨rfl, h11.bl⟩
  · go_upto_region 7 with (fail)
    have S4 := S3
    clear S3 Wxa Wyc Wua Wza
    obtain ⟨wc, hwc⟩ : ∃ x, x = w3 := ⟨_, rfl⟩
    rw [← hwc] at S4 ⊢
    clear hwc
    obtain ⟨R1, hR1⟩ : ∃ r, r = addR p 10 80 (1 + ua) := ⟨_, rfl⟩
    obtain ⟨R2, hR2⟩ : ∃ r, r = addR p d0 e0 f0 := ⟨_, rfl⟩
    obtain ⟨R3, hR3⟩ : ∃ r, r = remR p 10 80 := ⟨_, rfl⟩
    obtain ⟨R4, hR4⟩ : ∃ r, r = remR p d0 e0 := ⟨_, rfl⟩
    have AD1 := hid (AD.out 10 80 (1 + ua))
    have RA1 := hid (RA.out 10 80 (1 + ua))
    have AD2 := hid (AD.out d0 e0 f0)
    have RA2 := hid (RA.out d0 e0 f0)
    have RM3 := hid (RM.out 10 80)
    have RR3 := hid (RR.out 10 80)
    have RM4 := hid (RM.out d0 e0)
    have RR4 := hid (RR.out d0 e0)
    have L1 := LA.out 10 80 (1 + ua)
    have L2 := LA.out d0 e0 f0
    have L3 := LR.out 10 80
    have L4 := LR.out d0 e0
    rw [← hR1] at AD1 RA1 L1
    rw [← hR2] at AD2 RA2 L2
    rw [← hR3] at RM3 RR3 L3
    rw [← hR4] at RM4 RR4 L4
    clear hR1 hR2 hR3 hR4 AD RA RM RR LA LR
    obtain ⟨l1, n1⟩ := R1
    obtain ⟨l2, n2⟩ := R2
    obtain ⟨l3, n3⟩ := R3
    obtain ⟨l4, n4⟩ := R4
    simp only at L1 L2 L3 L4
    have Q4 := hid (RS.nil wc)
    go_upto_region 7 with (fail)
    have LP := (SG.get S4.out (b := P) (p := p) (by simp)).loadA
    go_wp2_with ((with_reducible refine wl_id ?_); refine wl_load rfl rfl rfl LP ?_)
    clear LP
    refine (AD1.out _).mono ?_
    rintro e w5 ⟨A0, d0, rfl, se, hb⟩
    have S5 := hid (S4.out.below hb)
    have Q5 := hid ((Q4.out.below hb).cons se)
    clear se hb S4 Q4 AD1
    go_upto_region 8 with (fail)
    have LP := (SG.get S5.out (b := P) (p := p) (by simp)).loadA
    go_wp2_with ((with_reducible refine wl_id ?_); refine wl_load rfl rfl rfl LP ?_)
    clear LP
    refine (RA1.out _).mono ?_
    rintro e w6 ⟨A1, d1, rfl, se, hb⟩
    have S6 := hid (S5.out.below hb)
    have Q6 := hid ((Q5.out.below hb).cons se)
    clear se hb S5 Q5 RA1
    go_upto_region 9 with (fail)
    have LP := (SG.get S6.out (b := P) (p := p) (by simp)).loadA
    go_wp2_with ((with_reducible refine wl_id ?_); refine wl_load rfl rfl rfl LP ?_)
    clear LP
    refine (AD2.out _).mono ?_
    rintro e w7 ⟨A2, d2, rfl, se, hb⟩
    have S7 := hid (S6.out.below hb)
    have Q7 := hid ((Q6.out.below hb).cons se)
    clear se hb S6 Q6 AD2
    go_upto_region 10 with (fail)
    have LP := (SG.get S7.out (b := P) (p := p) (by simp)).loadA
    go_wp2_with ((with_reducible refine wl_id ?_); refine wl_load rfl rfl rfl LP ?_)
    clear LP
    refine (RA2.out _).mono ?_
    rintro e w8 ⟨A3, d3, rfl, se, hb⟩
    have S8 := hid (S7.out.below hb)
    have Q8 := hid ((Q7.out.below hb).cons se)
    clear se hb S7 Q7 RA2
    go_upto_region 11 with (fail)
    have LP := (SG.get S8.out (b := P) (p := p) (by simp)).loadA
    go_wp2_with ((with_reducible refine wl_id ?_); refine wl_load rfl rfl rfl LP ?_)
    clear LP
    refine (RM3.out _).mono ?_
    rintro e w9 ⟨A4, d4, rfl, se, hb⟩
    have S9 := hid (S8.out.below hb)
    have Q9 := hid ((Q8.out.below hb).cons se)
    clear se hb S8 Q8 RM3
    go_upto_region 12 with (fail)
    have LP := (SG.get S9.out (b := P) (p := p) (by simp)).loadA
    go_wp2_with ((with_reducible refine wl_id ?_); refine wl_load rfl rfl rfl LP ?_)
    clear LP
    refine (RR3.out _).mono ?_
    rintro e w10 ⟨A5, d5, rfl, se, hb⟩
    have S10 := hid (S9.out.below hb)
    have Q10 := hid ((Q9.out.below hb).cons se)
    clear se hb S9 Q9 RR3
    go_upto_region 13 with (fail)
    have LP := (SG.get S10.out (b := P) (p := p) (by simp)).loadA
    go_wp2_with ((with_reducible refine wl_id ?_); refine wl_load rfl rfl rfl LP ?_)
    clear LP
    refine (RM4.out _).mono ?_
    rintro e w11 ⟨A6, d6, rfl, se, hb⟩
    have S11 := hid (S10.out.below hb)
    have Q11 := hid ((Q10.out.below hb).cons se)
    clear se hb S10 Q10 RM4
    go_upto_region 14 with (fail)
    have LP := (SG.get S11.out (b := P) (p := p) (by simp)).loadA
    go_wp2_with ((with_reducible refine wl_id ?_); refine wl_load rfl rfl rfl LP ?_)
    clear LP
    refine (RR4.out _).mono ?_
    rintro e w12 ⟨A7, d7, rfl, se, hb⟩
    have S12 := hid (S11.out.below hb)
    have Q12 := hid ((Q11.out.below hb).cons se)
    clear se hb S11 Q11 RR4
    go_upto_region 15 with (fail)
    go_wp2_with fail
    refine (SM.out A0 A1 l1 _ _ _ (Q12.out.get (by simp)) (Q12.out.get (by simp)) (by omega)).mono ?_
    rintro e w13 ⟨rfl, hb⟩
    have S13 := hid (S12.out.below hb)
    have Q13 := hid (Q12.out.below hb)
    clear hb S12 Q12
    go_wp2_with fail
    refine (SM.out A2 A3 l2 _ _ _ (Q13.out.get (by simp)) (Q13.out.get (by simp)) (by omega)).mono ?_
    rintro e w14 ⟨rfl, hb⟩
    have S14 := hid (S13.out.below hb)
    have Q14 := hid (Q13.out.below hb)
    clear hb S13 Q13
    go_wp2_with fail
    refine (SM.out A4 A5 l3 _ _ _ (Q14.out.get (by simp)) (Q14.out.get (by simp)) (by omega)).mono ?_
    rintro e w15 ⟨rfl, hb⟩
    have S15 := hid (S14.out.below hb)
    have Q15 := hid (Q14.out.below hb)
    clear hb S14 Q14
    go_wp2_with fail
    refine (SM.out A6 A7 l4 _ _ _ (Q15.out.get (by simp)) (Q15.out.get (by simp)) (by omega)).mono ?_
    rintro e w16 ⟨rfl, hb⟩
    have S16 := hid (S15.out.below hb)
    have Q16 := hid (Q15.out.below hb)
    clear hb S15 Q15
    clear Q16 L1 L2 L3 L4
    go_wp2_with fail
    refine (Wqa.out _).mono ?_
    rintro e w' ⟨rfl, rfl⟩
    go_upto_region 18 with (fail)
    refine wp_region_held_drew (S := fun w' => SG W w' [(P, p)] []) (by kernel_rfl) ?_ (fun hHeld => ?_)
    · exact S16.out.drew
    refine tk 0 (v := .agg (PA p)) rfl (by kernel_rfl) (by kernel_rfl) (by kernel_rfl) (fun _ _ _ h => h) rfl (fun w hSw => ex_load rfl rfl (SG.get hSw (b := P) (p := p) (by simp)).loadA) hHeld ?_; (try simp only [Act.put, List.setIfInBounds_toArray, List.set_cons_zero, List.set_cons_succ])
    refine tk 1 (v := ?_) rfl (by kernel_rfl) (by kernel_rfl) (by kernel_rfl) (fun _ _ _ h => h) rfl ?_ hHeld ?_; rotate_left; (focus (intro w hSw; (try dsimp only at hSw);  go_simp; (try with_reducible rfl))); (try simp only [Act.put, List.setIfInBounds_toArray, List.set_cons_zero, List.set_cons_succ])
    refine tk 4 (v := .agg (PA p)) rfl (by kernel_rfl) (by kernel_rfl) (by kernel_rfl) (fun _ _ _ h => h) rfl (fun w hSw => ex_load rfl rfl (SG.get hSw (b := P) (p := p) (by simp)).loadA) hHeld ?_; (try simp only [Act.put, List.setIfInBounds_toArray, List.set_cons_zero, List.set_cons_succ])
    refine tk 5 (v := ?_) rfl (by kernel_rfl) (by kernel_rfl) (by kernel_rfl) (fun _ _ _ h => h) rfl ?_ hHeld ?_; rotate_left; (focus (intro w hSw; (try dsimp only at hSw);  go_simp; (try with_reducible rfl))); (try simp only [Act.put, List.setIfInBounds_toArray, List.set_cons_zero, List.set_cons_succ])
    refine only 2 rfl (by kernel_rfl) rfl (fun K hK => ?_)
    go_simp
    refine (LK.out _).mono ?_
    rintro e' w' ⟨rfl, hb⟩
    try go_wp2_with fail
    refine hK.out _ _ (SG.below hHeld hb) (fun h1 => ?_)
    clear hK hb
    try simp only [Act.put, List.setIfInBounds_toArray, List.set_cons_zero, List.set_cons_succ]
    refine only 3 rfl (by kernel_rfl) rfl (fun K hK => ?_)
    go_simp
    refine (TO.out _).mono ?_
    rintro e' w' ⟨B1, x1, rfl, T1, hb⟩
    try go_wp2_with fail
    refine hK.out _ _ (SG.below h1 hb) (fun h2 => ?_)
    clear hK hb
    try simp only [Act.put, List.setIfInBounds_toArray, List.set_cons_zero, List.set_cons_succ]
    refine only 6 rfl (by kernel_rfl) rfl (fun K hK => ?_)
    go_simp
    refine (LK.out _).mono ?_
    rintro e' w' ⟨rfl, hb⟩
    try go_wp2_with fail
    have T1 := Se.below T1 hb (Nat.le_refl _)
    refine hK.out _ _ (SG.below h2 hb) (fun h3 => ?_)
    clear hK hb
    try simp only [Act.put, List.setIfInBounds_toArray, List.set_cons_zero, List.set_cons_succ]
    refine only 7 rfl (by kernel_rfl) rfl (fun K hK => ?_)
    go_simp
    refine (TR.out _).mono ?_
    rintro e' w' ⟨B2, x2, rfl, T2, hb⟩
    try go_wp2_with fail
    have T1 := Se.below T1 hb (Nat.le_refl _)
    refine hK.out _ _ (SG.below h3 hb) (fun h4 => ?_)
    clear hK hb
    try simp only [Act.put, List.setIfInBounds_toArray, List.set_cons_zero, List.set_cons_succ]
    refine only 8 rfl (by kernel_rfl) rfl (fun K hK => ?_)
    go_simp
    refine (SM.out B1 B2 _ _ _ _ T1 T2 (by omega)).mono ?_
    rintro e' w' ⟨rfl, hb⟩
    try go_wp2_with fail
    refine hK.out _ _ (SG.below h4 hb) (fun h5 => ?_)
    clear hK hb
    try simp only [Act.put, List.setIfInBounds_toArray, List.set_cons_zero, List.set_cons_succ]
    clear T1 T2
    refine tk 9 (v := ?_) rfl (by kernel_rfl) (by kernel_rfl) (by kernel_rfl) (fun _ _ _ h => h) rfl ?_ h5 ?_; rotate_left; (focus (intro w hSw; (try dsimp only at hSw);  go_simp; (try with_reducible rfl))); (try simp only [Act.put, List.setIfInBounds_toArray, List.set_cons_zero, List.set_cons_succ])
    refine tk 10 (v := .agg (PA p)) rfl (by kernel_rfl) (by kernel_rfl) (by kernel_rfl) (fun _ _ _ h => h) rfl (fun w hSw => ex_load rfl rfl (SG.get hSw (b := P) (p := p) (by simp)).loadA) h5 ?_; (try simp only [Act.put, List.setIfInBounds_toArray, List.set_cons_zero, List.set_cons_succ])
    refine tk 11 (v := ?_) rfl (by kernel_rfl) (by kernel_rfl) (by kernel_rfl) (fun _ _ _ h => h) rfl ?_ h5 ?_; rotate_left; (focus (intro w hSw; (try dsimp only at hSw);  go_simp; (try with_reducible rfl))); (try simp only [Act.put, List.setIfInBounds_toArray, List.set_cons_zero, List.set_cons_succ])
    refine tk 12 (v := ?_) rfl (by kernel_rfl) (by kernel_rfl) (by kernel_rfl) (fun _ _ _ h => h) rfl ?_ h5 ?_; rotate_left; (focus (intro w hSw; (try dsimp only at hSw);  go_simp; (try with_reducible rfl))); (try simp only [Act.put, List.setIfInBounds_toArray, List.set_cons_zero, List.set_cons_succ])
    refine tk 15 (v := .agg (PA p)) rfl (by kernel_rfl) (by kernel_rfl) (by kernel_rfl) (fun _ _ _ h => h) rfl (fun w hSw => ex_load rfl rfl (SG.get hSw (b := P) (p := p) (by simp)).loadA) h5 ?_; (try simp only [Act.put, List.setIfInBounds_toArray, List.set_cons_zero, List.set_cons_succ])
    refine tk 16 (v := ?_) rfl (by kernel_rfl) (by kernel_rfl) (by kernel_rfl) (fun _ _ _ h => h) rfl ?_ h5 ?_; rotate_left; (focus (intro w hSw; (try dsimp only at hSw);  go_simp; (try with_reducible rfl))); (try simp only [Act.put, List.setIfInBounds_toArray, List.set_cons_zero, List.set_cons_succ])
    refine tk 17 (v := ?_) rfl (by kernel_rfl) (by kernel_rfl) (by kernel_rfl) (fun _ _ _ h => h) rfl ?_ h5 ?_; rotate_left; (focus (intro w hSw; (try dsimp only at hSw);  go_simp; (try with_reducible rfl))); (try simp only [Act.put, List.setIfInBounds_toArray, List.set_cons_zero, List.set_cons_succ])
    refine only 13 rfl (by kernel_rfl) rfl (fun K hK => ?_)
    go_simp
    refine (Wva.out _).mono ?_
    rintro e' w' ⟨rfl, rfl⟩
    try go_wp2_with fail
    refine hK.out _ _ h5 (fun _ => ?_)
    clear hK
    try simp only [Act.put, List.setIfInBounds_toArray, List.set_cons_zero, List.set_cons_succ]
    refine only 14 rfl (by kernel_rfl) rfl (fun K hK => ?_)
    go_simp
    refine (MO.out _ _ _).mono ?_
    rintro e' w' ⟨B3, x3, rfl, T3, hb⟩
    try go_wp2_with fail
    refine hK.out _ _ (SG.below h5 hb) (fun h6 => ?_)
    clear hK hb
    try simp only [Act.put, List.setIfInBounds_toArray, List.set_cons_zero, List.set_cons_succ]
    refine only 18 rfl (by kernel_rfl) rfl (fun K hK => ?_)
    go_simp
    refine (Wva.out _).mono ?_
    rintro e' w' ⟨rfl, rfl⟩
    try go_wp2_with fail
    refine hK.out _ _ h6 (fun _ => ?_)
    clear hK
    try simp only [Act.put, List.setIfInBounds_toArray, List.set_cons_zero, List.set_cons_succ]
    refine only 19 rfl (by kernel_rfl) rfl (fun K hK => ?_)
    go_simp
    refine (MR.out _ _ _).mono ?_
    rintro e' w' ⟨B4, x4, rfl, T4, hb⟩
    try go_wp2_with fail
    have T3 := Se.below T3 hb (Nat.le_refl _)
    refine hK.out _ _ (SG.below h6 hb) (fun h7 => ?_)
    clear hK hb
    try simp only [Act.put, List.setIfInBounds_toArray, List.set_cons_zero, List.set_cons_succ]
    refine only 20 rfl (by kernel_rfl) rfl (fun K hK => ?_)
    go_simp
    refine (SM.out B3 B4 _ _ _ _ T3 T4 (LM.out _ _)).mono ?_
    rintro e' w' ⟨rfl, hb⟩
    try go_wp2_with fail
    refine hK.out _ _ (SG.below h7 hb) (fun h8 => ?_)
    clear hK hb
    try simp only [Act.put, List.setIfInBounds_toArray, List.set_cons_zero, List.set_cons_succ]
    clear T3 T4
    refine tk 21 (v := ?_) rfl (by kernel_rfl) (by kernel_rfl) (by kernel_rfl) (fun _ _ _ h => h) rfl ?_ h8 ?_; rotate_left; (focus (intro w hSw; (try dsimp only at hSw);  go_simp; (try with_reducible rfl))); (try simp only [Act.put, List.setIfInBounds_toArray, List.set_cons_zero, List.set_cons_succ])
    refine tk 22 (v := ?_) rfl (by kernel_rfl) (by kernel_rfl) (by kernel_rfl) (fun _ _ _ h => h) rfl ?_ h8 ?_; rotate_left; (focus (intro w hSw; (try dsimp only at hSw);  go_simp; (try with_reducible rfl))); (try simp only [Act.put, List.setIfInBounds_toArray, List.set_cons_zero, List.set_cons_succ])
    refine tk 23 (v := .agg (PA p)) rfl (by kernel_rfl) (by kernel_rfl) (by kernel_rfl) (fun _ _ _ h => h) rfl (fun w hSw => ex_load rfl rfl (SG.get hSw (b := P) (p := p) (by simp)).loadA) h8 ?_; (try simp only [Act.put, List.setIfInBounds_toArray, List.set_cons_zero, List.set_cons_succ])
    refine tk 24 (v := ?_) rfl (by kernel_rfl) (by kernel_rfl) (by kernel_rfl) (fun _ _ _ h => h) rfl ?_ h8 ?_; rotate_left; (focus (intro w hSw; (try dsimp only at hSw);  go_simp; (try with_reducible rfl))); (try simp only [Act.put, List.setIfInBounds_toArray, List.set_cons_zero, List.set_cons_succ])
    refine tk 25 (v := ?_) rfl (by kernel_rfl) (by kernel_rfl) (by kernel_rfl) (fun _ _ _ h => h) rfl ?_ h8 ?_; rotate_left; (focus (intro w hSw; (try dsimp only at hSw);  go_simp; (try with_reducible rfl))); (try simp only [Act.put, List.setIfInBounds_toArray, List.set_cons_zero, List.set_cons_succ])
    refine tk 27 (v := .agg (PA p)) rfl (by kernel_rfl) (by kernel_rfl) (by kernel_rfl) (fun _ _ _ h => h) rfl (fun w hSw => ex_load rfl rfl (SG.get hSw (b := P) (p := p) (by simp)).loadA) h8 ?_; (try simp only [Act.put, List.setIfInBounds_toArray, List.set_cons_zero, List.set_cons_succ])
    refine tk 28 (v := ?_) rfl (by kernel_rfl) (by kernel_rfl) (by kernel_rfl) (fun _ _ _ h => h) rfl ?_ h8 ?_; rotate_left; (focus (intro w hSw; (try dsimp only at hSw);  go_simp; (try with_reducible rfl))); (try simp only [Act.put, List.setIfInBounds_toArray, List.set_cons_zero, List.set_cons_succ])
    refine tk 29 (v := ?_) rfl (by kernel_rfl) (by kernel_rfl) (by kernel_rfl) (fun _ _ _ h => h) rfl ?_ h8 ?_; rotate_left; (focus (intro w hSw; (try dsimp only at hSw);  go_simp; (try with_reducible rfl))); (try simp only [Act.put, List.setIfInBounds_toArray, List.set_cons_zero, List.set_cons_succ])
    refine only 26 rfl (by kernel_rfl) rfl (fun K hK => ?_)
    go_simp
    refine (MO.out _ _ _).mono ?_
    rintro e' w' ⟨B5, x5, rfl, T5, hb⟩
    try go_wp2_with fail
    refine hK.out _ _ (SG.below h8 hb) (fun h9 => ?_)
    clear hK hb
    try simp only [Act.put, List.setIfInBounds_toArray, List.set_cons_zero, List.set_cons_succ]
    refine only 30 rfl (by kernel_rfl) rfl (fun K hK => ?_)
    go_simp
    refine (MR.out _ _ _).mono ?_
    rintro e' w' ⟨B6, x6, rfl, T6, hb⟩
    try go_wp2_with fail
    have T5 := Se.below T5 hb (Nat.le_refl _)
    refine hK.out _ _ (SG.below h9 hb) (fun h10 => ?_)
    clear hK hb
    try simp only [Act.put, List.setIfInBounds_toArray, List.set_cons_zero, List.set_cons_succ]
    refine only 31 rfl (by kernel_rfl) rfl (fun K hK => ?_)
    go_simp
    refine (SM.out B5 B6 _ _ _ _ T5 T6 (LM.out _ _)).mono ?_
    rintro e' w' ⟨rfl, hb⟩
    try go_wp2_with fail
    refine hK.out _ _ (SG.below h10 hb) (fun h11 => ?_)
    clear hK hb
    try simp only [Act.put, List.setIfInBounds_toArray, List.set_cons_zero, List.set_cons_succ]
    clear T5 T6
    refine tk 32 (v := ?_) rfl (by kernel_rfl) (by kernel_rfl) (by kernel_rfl) (fun _ _ _ h => h) rfl ?_ h11 ?_; rotate_left; (focus (intro w hSw; (try dsimp only at hSw);  go_simp; (try with_reducible rfl))); (try simp only [Act.put, List.setIfInBounds_toArray, List.set_cons_zero, List.set_cons_succ])
    refine tk 33 (v := ?_) rfl (by kernel_rfl) (by kernel_rfl) (by kernel_rfl) (fun _ _ _ h => h) rfl ?_ h11 ?_; rotate_left; (focus (intro w hSw; (try dsimp only at hSw);  go_simp; (try with_reducible rfl))); (try simp only [Act.put, List.setIfInBounds_toArray, List.set_cons_zero, List.set_cons_succ])
    refine wpAnyH_done (by kernel_rfl) ?_ _
    go_wp2_with fail
    go_ret
    exact ⟨rfl, h11.bl⟩

set_option maxRecDepth 100000 in
theorem lifted (os : Os) (started : os.Started) (H : Type) (enc : TypeId × Value → H) :
    ReturnsInHanded {} Tryd.checked os 3 .any (fun w args => (Rows.orderAllSpec.pre enc Tryd.prog Tryd.f3 [] false w args ∧ laidMetH Tryd.prog Rows.orderAllRow.laid w) ∧ sizedMet enc Tryd.prog Tryd.f3 (OpenSpec.ofChange Rows.orderAllSpec) false w args) (Rows.orderAllSpec.post enc Tryd.prog Tryd.f3 false true false false) :=
  law_door (s := Rows.orderAllSpec) (laid := Rows.orderAllRow.laid) started (by kernel_rfl) Tryd.func3
    (ChangeSpec.witness_shaped (enc := enc) (C := Tryd.checked) (os := os) (X := fun w _ => laidMetH Tryd.prog Rows.orderAllRow.laid w) false (World.laidAll Tryd.prog os Rows.orderAllRow.laid) #[.slice none 0 0, .int .i64 0, .int .i64 0, .int .i64 0, .int .i64 0, .int .i64 0, .int .i64 0, .int .i64 0, .int .i64 0, .int .i64 0] 8 (World.laidAll_os _ _ _)
      (World.shaped_of_ZipB (by kernel_rfl) (by kernel_rfl)) (by kernel_rfl) (by kernel_rfl) (by kernel_rfl)
      (by rw [MakeChecks.laidMetH_plain _ _ _ (by kernel_rfl)]; exact laidMet_laidAll _ (by kernel_rfl) (by kernel_rfl)))
    rfl (by rw [Tryd.params3]; decide +kernel) rfl Tryd.underlying4
    (fun ds h => by
      rw [Tryd.params3] at h
      match ds, h with
      | [_, _, _, _, _, _, _, _, _, _], _ => rfl)
    (fun W base args ds ps hsh hval hA hsz => by
      rw [Tryd.params3] at hA hval hsz
      obtain ⟨v0, vs0, d0, ds0, p0, q0, hargs, rfl, rfl, h0, r0⟩ := trodAll_cons hA
      obtain ⟨v1, vs1, d1, ds1, p1, q1, rfl, rfl, rfl, h1, r1⟩ := trodAll_cons r0
      obtain ⟨v2, vs2, d2, ds2, p2, q2, rfl, rfl, rfl, h2, r2⟩ := trodAll_cons r1
      obtain ⟨v3, vs3, d3, ds3, p3, q3, rfl, rfl, rfl, h3, r3⟩ := trodAll_cons r2
      obtain ⟨v4, vs4, d4, ds4, p4, q4, rfl, rfl, rfl, h4, r4⟩ := trodAll_cons r3
      obtain ⟨v5, vs5, d5, ds5, p5, q5, rfl, rfl, rfl, h5, r5⟩ := trodAll_cons r4
      obtain ⟨v6, vs6, d6, ds6, p6, q6, rfl, rfl, rfl, h6, r6⟩ := trodAll_cons r5
      obtain ⟨v7, vs7, d7, ds7, p7, q7, rfl, rfl, rfl, h7, r7⟩ := trodAll_cons r6
      obtain ⟨v8, vs8, d8, ds8, p8, q8, rfl, rfl, rfl, h8, r8⟩ := trodAll_cons r7
      obtain ⟨v9, vs9, d9, ds9, p9, q9, rfl, rfl, rfl, h9, r9⟩ := trodAll_cons r8
      obtain ⟨rfl, rfl, rfl⟩ := trodAll_nil r9
      obtain rfl : args = #[v0, v1, v2, v3, v4, v5, v6, v7, v8, v9] := by cases args; simp_all
      obtain ⟨A0, n0, c0, g0, rfl, hn0, hc0, hs0, hw0, hl0, hd0⟩ := open_row Tryd.underlying22 Tryd.underlying3 (by kernel_rfl) (hval 0 22 v0 rfl rfl) h0
      have re0 : c0 * 8 ≤ 140737488351232 := by
        rcases hd0 with ⟨_, h0⟩ | ⟨xs, ys, h1, h2⟩
        · omega
        · have := sized_slice hsz (j := 0) (t := 22) (e := 3) rfl (by rw [h1]; rfl) Tryd.underlying22
          rw [h2, show Tryd.prog.bytesOf 3 = 8 from by kernel_rfl] at this
          simpa [reachBytes] using this
      obtain ⟨a1, rfl, rfl, rfl, w1⟩ := open_int Tryd.underlying3 (hval 1 3 v1 rfl rfl) h1
      obtain ⟨a2, rfl, rfl, rfl, w2⟩ := open_int Tryd.underlying3 (hval 2 3 v2 rfl rfl) h2
      obtain ⟨a3, rfl, rfl, rfl, w3⟩ := open_int Tryd.underlying3 (hval 3 3 v3 rfl rfl) h3
      obtain ⟨a4, rfl, rfl, rfl, w4⟩ := open_int Tryd.underlying3 (hval 4 3 v4 rfl rfl) h4
      obtain ⟨a5, rfl, rfl, rfl, w5⟩ := open_int Tryd.underlying3 (hval 5 3 v5 rfl rfl) h5
      obtain ⟨a6, rfl, rfl, rfl, w6⟩ := open_int Tryd.underlying3 (hval 6 3 v6 rfl rfl) h6
      obtain ⟨a7, rfl, rfl, rfl, w7⟩ := open_int Tryd.underlying3 (hval 7 3 v7 rfl rfl) h7
      obtain ⟨a8, rfl, rfl, rfl, w8⟩ := open_int Tryd.underlying3 (hval 8 3 v8 rfl rfl) h8
      obtain ⟨a9, rfl, rfl, rfl, w9⟩ := open_int Tryd.underlying3 (hval 9 3 v9 rfl rfl) h9
      exact walk W hsh A0 n0 c0 g0 hn0 hc0 hs0 (fun j => bounds_i64 (hw0 j)) hl0 re0 a1 (bounds_i64 w1) a2 (bounds_i64 w2) a3 (bounds_i64 w3) a4 (bounds_i64 w4) a5 (bounds_i64 w5) a6 (bounds_i64 w6) a7 (bounds_i64 w7) a8 (bounds_i64 w8) a9 (bounds_i64 w9))

theorem holds : Rows.OrderAllSaid :=
  OpenClaim.holds_of_wide 3 Tryd.f3 rfl rfl rfl rfl rfl rfl rfl ⟨rfl, rfl, rfl, rfl, rfl⟩ rfl rfl rfl rfl rfl (by kernel_rfl) Tryd.func3 (by kernel_rfl)
    (of_decide_eq_true (by kernel_rfl)) (by unfold Func.isWrapper; first | (rw [if_pos (by decide +kernel)]; kernel_rfl) | (rw [if_neg (by decide +kernel)]; exact ⟨rfl, rfl⟩))
    (fun os started H enc _ => lifted os started H enc)
theorem proved : Rows.OrderAllCardSaid :=
  Claim7.holds_tied_plain_at .later [] Rows.orderAllCard.laidKinds true Rows.orderAllCard.stood.harness false holds (fun _ h => by cases h) (by kernel_rfl) (fun _ h => by cases h) orderAll_row_tie rfl ⟨rfl, rfl⟩ (by kernel_rfl) rfl
    (fun f fn hf hfn => by
      obtain rfl : f = 3 := Option.some.inj ((show Tryd.prog.funcNamed Rows.orderAllRow.func = some 3 by kernel_rfl).symm.trans hf) |>.symm
      obtain rfl : fn = Tryd.f3 := (Option.some.inj (Tryd.func3.symm.trans hfn)).symm
      exact ⟨by kernel_rfl, fun j t ht => by
        rw [Tryd.params3] at ht
        have hm : t ∈ [22, 3, 3, 3, 3, 3, 3, 3, 3, 3] := by simpa using Array.mem_of_getElem? ht
        have hall : ([22, 3, 3, 3, 3, 3, 3, 3, 3, 3].all fun u => !Tryd.prog.wantsStandIn u) = true := by kernel_rfl
        exact (show Tryd.prog.wantsStandIn t = false by simpa using List.all_eq_true.1 hall t hm)⟩)
    (by kernel_rfl)
end Go.Proofs.YtljgcffpijjliaaDoor.orderAll
