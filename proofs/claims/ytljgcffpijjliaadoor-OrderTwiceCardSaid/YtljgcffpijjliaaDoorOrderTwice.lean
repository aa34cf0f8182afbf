/- roundhouselaw10.OrderTwice answers true for every row, any two numbers; no condition. -/
import Derived.Test.YtljgcffpijjliaaDoorOrdTw
import Derived.Test.YtljgcffpijjliaaDoorOrdRot
import Derived.Test.YtljgcffpijjliaaDoorOrdSame
import Derived.Test.YtljgcffpijjliaaDoorOrdKnown10
import Derived.Test.YtljgcffpijjliaaDoorDoor
import Derived.BigQuiet
import Derived.Deep.RegionHeld3
import Derived.Deep.Cut
namespace Go.Proofs.YtljgcffpijjliaaDoor.orderTwice
set_option linter.unusedVariables false
set_option linter.unusedSimpArgs false
open Go.RowKit Go.ChangeShapes Go.WideShapes Go.ChangeAt

theorem Lst.se_ {w w' : World} {l : List En} {no : Int} {e : Ending} {n : Nat} (h : Lst w l no e w') (hn : l.length = n) : ∃ (A : Option Addr) (d : Nat), e = .returned (.tuple #[.slice A n d, .int .i64 no]) ∧ Se w' A n (gl l) ∧ Below w.heap.size w w' := by
  subst hn
  obtain ⟨A, d, e1, e2, e3⟩ := h
  exact ⟨A, d, e1, e2.se, e3⟩
attribute [local irreducible] PA
set_option maxRecDepth 100000 in
set_option maxHeartbeats 8000000 in
theorem walk (W : World) (hsh : W.ShapedOpen Tryd.prog) (A1 : Option Addr) (n1 c1 : Nat) (g1 : Nat → Int) (hn1 : n1 ≤ c1) (hc1 : c1 ≤ maxLen) (hr1 : Is W A1 n1 g1) (hg1 : IsI g1) (hl1 : ∀ ad, A1 = some ad → 0 < n1 → ad.block < W.heap.size) (re1 : c1 * 8 ≤ 140737488351232) (a0 : Int) (r_a0 : -9223372036854775808 ≤ a0 ∧ a0 ≤ 9223372036854775807) (b0 : Int) (r_b0 : -9223372036854775808 ≤ b0 ∧ b0 ≤ 9223372036854775807) :
    Calls Tryd.prog 9 #[.slice A1 n1 c1, .int .i64 a0, .int .i64 b0] W fun e w' => e = .returned (.bool true) ∧ Below W.heap.size W w' := by
  have hz : ∀ w : World, (zeroValue 33).run Tryd.prog w = .ok (.agg (PA zPl)) w := fun w => zero_pl w
  have hz1 := pa_size zPl
  have hz2 := pa_ne zPl
  unfold maxLen at hc1
  have hnm : (n1 : Int) ≤ 9223372036854775807 := by have := hn1; omega
  have HL := hid hl1
  clear hl1 re1
  obtain ⟨p, hp⟩ : ∃ p, p = mkP g1 (min n1 40) := ⟨_, rfl⟩
  have HQ := hid (show Pinv p 40 from by rw [hp]; exact (mkP_inv g1 _).mono (by omega))
  have MK := hid (fun (w : World) (h : Is w A1 n1 g1) (hl : ∀ ad, A1 = some ad → 0 < n1 → ad.block < w.heap.size) => (show Calls Tryd.prog 15 #[.slice A1 n1 c1, .int .i64 40] w fun x w' => x = .returned (.agg (PA p)) ∧ Below w.heap.size w w' from by rw [hp]; exact make_any w A1 n1 c1 g1 h hl hnm 40 (by omega)))
  obtain ⟨ml, hml⟩ := Tryd.laysM147.s1_3 W hsh
  have HML := hid hml
  clear hml hsh
  obtain ⟨xa, hxa⟩ : ∃ x, x = wi a0 6 := ⟨_, rfl⟩
  have bxa := wi_bd a0 6 (by omega)
  rw [← hxa] at bxa
  have Wxa := hid (fun w => re_i64 (within_any a0 6 w (by omega) (by omega)) hxa.symm)
  clear hxa
  obtain ⟨bxa1, bxa2⟩ := bxa
  obtain ⟨yc, hyc⟩ : ∃ x, x = wi b0 4 := ⟨_, rfl⟩
  have byc := wi_bd b0 4 (by omega)
  rw [← hyc] at byc
  have Wyc := hid (fun w => re_i64 (within_any b0 4 w (by omega) (by omega)) hyc.symm)
  clear hyc
  obtain ⟨byc1, byc2⟩ := byc
  have hck : chk (adE xa yc 1) = 0 := chk_sm (by omega) (by omega) (by omega)
  have HOR : addR p xa yc 1 = ([], 12) ∨ ∃ l, addR p xa yc 1 = (l, 0) := by rw [hp]; exact add_or (by omega) hck
  clear hp
  rcases HOR with hA | ⟨l, hA⟩
  · have AD := hid (fun (w : World) => (show Calls Tryd.prog 17 #[.agg (PA p), .int .i64 xa, .int .i64 yc, .int .i64 1] w fun e w' => ∃ (A : Option Addr) (d : Nat), e = .returned (.tuple #[.slice A 0 d, .int .i64 12]) ∧ Se w' A 0 (gl []) ∧ Below w.heap.size w w' from (show Calls Tryd.prog 17 #[.agg (PA p), .int .i64 xa, .int .i64 yc, .int .i64 1] w (Lst w [] 12) from by have := add_any p xa yc 1 w; rw [hA] at this; exact this).mono (fun e w' h => Lst.se_ h rfl)))
    clear hA hck
    go_enter Tryd.func9, Tryd.ntmps9
    go_wp2_with fail
    refine (known10_any ml _ HML.out).mono ?_
    rintro x w1 ⟨rfl, hB⟩
    have R1 := hid (hr1.below hB (Nat.le_refl _))
    have B1 := hid hB
    clear hr1 hB HML
    go_wp2_with fail
    refine (MK.out _ R1.out (fun ad e h => Nat.lt_of_lt_of_le (HL.out ad e h) B1.out.size)).mono ?_
    rintro x w2 ⟨rfl, hb⟩
    have S2 := hid ((SG.start B1.out).below hb)
    clear hb R1 B1 MK
    have ST := hid ((sg_new (w := w2) (T := 33)).storeA p)
    have S3 := hid (SG.put S2.out (T := 33) zPl p (by simp))
    go_upto_region 4 with ((with_reducible refine wl_id ?_); refine wl_store rfl rfl rfl rfl ST.out ?_)
    clear ST S2
    generalize (w2.alloc (.cells (PA zPl) 33)).setCells w2.heap.size 0 (PA p).toList = w3 at *
    generalize w2.heap.size = P at *
    go_wp2_with fail
    refine (Wxa.out _).mono ?_
    rintro e w' ⟨rfl, rfl⟩
    go_wp2_with fail
    refine (Wyc.out _).mono ?_
    rintro e w' ⟨rfl, rfl⟩
    go_upto_region 5 with (fail)
    go_upto_region 5 with (fail)
    have LP := (SG.get S3.out (b := P) (p := p) (by simp)).loadA
    go_wp2_with ((with_reducible refine wl_id ?_); refine wl_load rfl rfl rfl LP ?_)
    clear LP
    refine (AD.out _).mono ?_
    rintro e w4 ⟨A4, d4, rfl, _, hb⟩
    have S4 := hid (S3.out.below hb)
    clear hb S3
    go_wp2_with fail
    go_ret
    exact ⟨rfl, S4.out.bl⟩
  · obtain ⟨hlenl, q, r, m, hq, hA2, hR, hlenm, hr, hR2, hA3⟩ := twice hck hA
    have HQ2 := hid (run_inv HQ.out hq)
    have HR2 := hid (run_inv HQ2.out hr)
    have AD := hid (fun (w : World) => (show Calls Tryd.prog 17 #[.agg (PA p), .int .i64 xa, .int .i64 yc, .int .i64 1] w fun e w' => ∃ (A : Option Addr) (d : Nat), e = .returned (.tuple #[.slice A 2 d, .int .i64 0]) ∧ Se w' A 2 (gl l) ∧ Below w.heap.size w w' from (show Calls Tryd.prog 17 #[.agg (PA p), .int .i64 xa, .int .i64 yc, .int .i64 1] w (Lst w l 0) from by have := add_any p xa yc 1 w; rw [hA] at this; exact this).mono (fun e w' h => Lst.se_ h hlenl)))
    have AD2 := hid (fun (w : World) => (show Calls Tryd.prog 17 #[.agg (PA q), .int .i64 xa, .int .i64 yc, .int .i64 1] w fun e w' => ∃ (A : Option Addr) (d : Nat), e = .returned (.tuple #[.slice A 0 d, .int .i64 12]) ∧ Se w' A 0 (gl []) ∧ Below w.heap.size w w' from (show Calls Tryd.prog 17 #[.agg (PA q), .int .i64 xa, .int .i64 yc, .int .i64 1] w (Lst w [] 12) from by have := add_any q xa yc 1 w; rw [hA2] at this; exact this).mono (fun e w' h => Lst.se_ h rfl)))
    have RM := hid (fun (w : World) => (show Calls Tryd.prog 19 #[.agg (PA q), .int .i64 xa, .int .i64 yc] w fun e w' => ∃ (A : Option Addr) (d : Nat), e = .returned (.tuple #[.slice A 2 d, .int .i64 0]) ∧ Se w' A 2 (gl m) ∧ Below w.heap.size w w' from (show Calls Tryd.prog 19 #[.agg (PA q), .int .i64 xa, .int .i64 yc] w (Lst w m 0) from by have := remove_any q HQ2.out.st xa yc w; rw [hR] at this; exact this).mono (fun e w' h => Lst.se_ h hlenm)))
    have RM2 := hid (fun (w : World) => (show Calls Tryd.prog 19 #[.agg (PA r), .int .i64 xa, .int .i64 yc] w fun e w' => ∃ (A : Option Addr) (d : Nat), e = .returned (.tuple #[.slice A 0 d, .int .i64 9]) ∧ Se w' A 0 (gl []) ∧ Below w.heap.size w w' from (show Calls Tryd.prog 19 #[.agg (PA r), .int .i64 xa, .int .i64 yc] w (Lst w [] 9) from by have := remove_any r HR2.out.st xa yc w; rw [hR2] at this; exact this).mono (fun e w' h => Lst.se_ h rfl)))
    have AD3 := hid (fun (w : World) => (show Calls Tryd.prog 17 #[.agg (PA r), .int .i64 xa, .int .i64 yc, .int .i64 1] w fun e w' => ∃ (A : Option Addr) (d : Nat), e = .returned (.tuple #[.slice A 0 d, .int .i64 12]) ∧ Se w' A 0 (gl []) ∧ Below w.heap.size w w' from (show Calls Tryd.prog 17 #[.agg (PA r), .int .i64 xa, .int .i64 yc, .int .i64 1] w (Lst w [] 12) from by have := add_any r xa yc 1 w; rw [hA3] at this; exact this).mono (fun e w' h => Lst.se_ h rfl)))
    have AL := hid (fun A d w (h : Se w A 2 (gl l)) => (show Calls Tryd.prog 27 #[.agg (PA p), .slice A 2 d] w fun x w' => x = .returned (.tuple #[.agg (PA q), .int .i64 2, .int .i64 0]) ∧ Below w.heap.size w w' from (rall_any p (gl l) A 2 d w h (by omega) 40 HQ.out (by decide)).mono (fun e w' h => by obtain ⟨q', k, er, e1, e2, e3⟩ := h; obtain ⟨rfl, rfl, rfl⟩ := all_run hq e2; exact ⟨e1, e3⟩)))
    have AL2 := hid (fun A d w (h : Se w A 2 (gl m)) => (show Calls Tryd.prog 27 #[.agg (PA q), .slice A 2 d] w fun x w' => x = .returned (.tuple #[.agg (PA r), .int .i64 2, .int .i64 0]) ∧ Below w.heap.size w w' from (rall_any q (gl m) A 2 d w h (by omega) (40 + (2 : Nat)) HQ2.out (by decide)).mono (fun e w' h => by obtain ⟨q', k, er, e1, e2, e3⟩ := h; obtain ⟨rfl, rfl, rfl⟩ := all_run hr e2; exact ⟨e1, e3⟩)))
    clear hA hA2 hR hR2 hA3 hq hr hck hlenl hlenm HQ HQ2 HR2
    go_enter Tryd.func9, Tryd.ntmps9
    go_wp2_with fail
    refine (known10_any ml _ HML.out).mono ?_
    rintro x w1 ⟨rfl, hB⟩
    have R1 := hid (hr1.below hB (Nat.le_refl _))
    have B1 := hid hB
    clear hr1 hB HML
    go_wp2_with fail
    refine (MK.out _ R1.out (fun ad e h => Nat.lt_of_lt_of_le (HL.out ad e h) B1.out.size)).mono ?_
    rintro x w2 ⟨rfl, hb⟩
    have S2 := hid ((SG.start B1.out).below hb)
    clear hb R1 B1 MK
    have ST := hid ((sg_new (w := w2) (T := 33)).storeA p)
    have S3 := hid (SG.put S2.out (T := 33) zPl p (by simp))
    go_upto_region 4 with ((with_reducible refine wl_id ?_); refine wl_store rfl rfl rfl rfl ST.out ?_)
    clear ST S2
    generalize (w2.alloc (.cells (PA zPl) 33)).setCells w2.heap.size 0 (PA p).toList = w3 at *
    generalize w2.heap.size = P at *
    go_wp2_with fail
    refine (Wxa.out _).mono ?_
    rintro e w' ⟨rfl, rfl⟩
    go_wp2_with fail
    refine (Wyc.out _).mono ?_
    rintro e w' ⟨rfl, rfl⟩
    go_upto_region 5 with (fail)
    go_upto_region 5 with (fail)
    have LP := (SG.get S3.out (b := P) (p := p) (by simp)).loadA
    go_wp2_with ((with_reducible refine wl_id ?_); refine wl_load rfl rfl rfl LP ?_)
    clear LP
    refine (AD.out _).mono ?_
    rintro e w4 ⟨A4, d4, rfl, se, hb⟩
    have S4 := hid (S3.out.below hb)
    have E4 := hid se
    clear se AD
    clear hb S3
    go_upto_region 8 with (fail)
    have LP := (SG.get S4.out (b := P) (p := p) (by simp)).loadA
    go_wp2_with ((with_reducible refine wl_id ?_); refine wl_load rfl rfl rfl LP ?_)
    clear LP
    refine (AL.out _ _ _ E4.out).mono ?_
    rintro e w5 ⟨rfl, hb⟩
    have S5 := hid (S4.out.below hb)
    clear E4 AL
    clear hb S4
    have ST := hid ((sg_new (w := w5) (T := 33)).storeA q)
    have S6 := hid (SG.put S5.out (T := 33) zPl q (by simp))
    go_upto_region 9 with ((with_reducible refine wl_id ?_); refine wl_store rfl rfl rfl rfl ST.out ?_)
    clear ST S5
    generalize (w5.alloc (.cells (PA zPl) 33)).setCells w5.heap.size 0 (PA q).toList = w6 at *
    generalize w5.heap.size = Q at *
    go_upto_region 9 with (fail)
    have LP := (SG.get S6.out (b := Q) (p := q) (by simp)).loadA
    go_wp2_with ((with_reducible refine wl_id ?_); refine wl_load rfl rfl rfl LP ?_)
    clear LP
    refine (AD2.out _).mono ?_
    rintro e w7 ⟨A7, d7, rfl, _, hb⟩
    have S7 := hid (S6.out.below hb)
    clear AD2
    clear hb S6
    go_upto_region 10 with (fail)
    have LP := (SG.get S7.out (b := Q) (p := q) (by simp)).loadA
    go_wp2_with ((with_reducible refine wl_id ?_); refine wl_load rfl rfl rfl LP ?_)
    clear LP
    refine (RM.out _).mono ?_
    rintro e w8 ⟨A8, d8, rfl, se, hb⟩
    have S8 := hid (S7.out.below hb)
    have E8 := hid se
    clear se RM
    clear hb S7
    go_upto_region 11 with (fail)
    have LP := (SG.get S8.out (b := Q) (p := q) (by simp)).loadA
    go_wp2_with ((with_reducible refine wl_id ?_); refine wl_load rfl rfl rfl LP ?_)
    clear LP
    refine (AL2.out _ _ _ E8.out).mono ?_
    rintro e w9 ⟨rfl, hb⟩
    have S9 := hid (S8.out.below hb)
    clear E8 AL2
    clear hb S8
    have ST := hid ((sg_new (w := w9) (T := 33)).storeA r)
    have S10 := hid (SG.put S9.out (T := 33) zPl r (by simp))
    go_upto_region 12 with ((with_reducible refine wl_id ?_); refine wl_store rfl rfl rfl rfl ST.out ?_)
    clear ST S9
    generalize (w9.alloc (.cells (PA zPl) 33)).setCells w9.heap.size 0 (PA r).toList = w10 at *
    generalize w9.heap.size = R at *
    go_upto_region 12 with (fail)
    have LP := (SG.get S10.out (b := R) (p := r) (by simp)).loadA
    go_wp2_with ((with_reducible refine wl_id ?_); refine wl_load rfl rfl rfl LP ?_)
    clear LP
    refine (RM2.out _).mono ?_
    rintro e w11 ⟨A11, d11, rfl, _, hb⟩
    have S11 := hid (S10.out.below hb)
    clear RM2
    clear hb S10
    go_upto_region 13 with (fail)
    have LP := (SG.get S11.out (b := R) (p := r) (by simp)).loadA
    go_wp2_with ((with_reducible refine wl_id ?_); refine wl_load rfl rfl rfl LP ?_)
    clear LP
    refine (AD3.out _).mono ?_
    rintro e w12 ⟨A12, d12, rfl, _, hb⟩
    have S12 := hid (S11.out.below hb)
    clear AD3
    clear hb S11
    go_wp2_with fail
    go_ret
    exact ⟨rfl, S12.out.bl⟩

set_option maxRecDepth 100000 in
theorem lifted (os : Os) (started : os.Started) (H : Type) (enc : TypeId × Value → H) :
    ReturnsInHanded {} Tryd.checked os 9 .any (fun w args => (Rows.orderTwiceSpec.pre enc Tryd.prog Tryd.f9 [] false w args ∧ laidMetH Tryd.prog Rows.orderTwiceRow.laid w) ∧ sizedMet enc Tryd.prog Tryd.f9 (OpenSpec.ofChange Rows.orderTwiceSpec) false w args) (Rows.orderTwiceSpec.post enc Tryd.prog Tryd.f9 false true false false) :=
  law_door (s := Rows.orderTwiceSpec) (laid := Rows.orderTwiceRow.laid) started (by kernel_rfl) Tryd.func9
    (ChangeSpec.witness_shaped (enc := enc) (C := Tryd.checked) (os := os) (X := fun w _ => laidMetH Tryd.prog Rows.orderTwiceRow.laid w) false (World.laidAll Tryd.prog os Rows.orderTwiceRow.laid) #[.slice none 0 0, .int .i64 0, .int .i64 0] 8 (World.laidAll_os _ _ _)
      (World.shaped_of_ZipB (by kernel_rfl) (by kernel_rfl)) (by kernel_rfl) (by kernel_rfl) (by kernel_rfl)
      (by rw [MakeChecks.laidMetH_plain _ _ _ (by kernel_rfl)]; exact laidMet_laidAll _ (by kernel_rfl) (by kernel_rfl)))
    rfl (by rw [Tryd.params9]; decide +kernel) rfl Tryd.underlying4
    (fun ds h => by
      rw [Tryd.params9] at h
      match ds, h with
      | [_, _, _], _ => rfl)
    (fun W base args ds ps hsh hval hA hsz => by
      rw [Tryd.params9] at hA hval hsz
      obtain ⟨v0, vs0, d0, ds0, p0, q0, hargs, rfl, rfl, h0, r0⟩ := trodAll_cons hA
      obtain ⟨v1, vs1, d1, ds1, p1, q1, rfl, rfl, rfl, h1, r1⟩ := trodAll_cons r0
      obtain ⟨v2, vs2, d2, ds2, p2, q2, rfl, rfl, rfl, h2, r2⟩ := trodAll_cons r1
      obtain ⟨rfl, rfl, rfl⟩ := trodAll_nil r2
      obtain rfl : args = #[v0, v1, v2] := by cases args; simp_all
      obtain ⟨A0, n0, c0, g0, rfl, hn0, hc0, hs0, hw0, hl0, hd0⟩ := open_row Tryd.underlying22 Tryd.underlying3 (by kernel_rfl) (hval 0 22 v0 rfl rfl) h0
      have re0 : c0 * 8 ≤ 140737488351232 := by
        rcases hd0 with ⟨_, h0⟩ | ⟨xs, ys, h1, h2⟩
        · omega
        · have := sized_slice hsz (j := 0) (t := 22) (e := 3) rfl (by rw [h1]; rfl) Tryd.underlying22
          rw [h2, show Tryd.prog.bytesOf 3 = 8 from by kernel_rfl] at this
          simpa [reachBytes] using this
      obtain ⟨a1, rfl, rfl, rfl, w1⟩ := open_int Tryd.underlying3 (hval 1 3 v1 rfl rfl) h1
      obtain ⟨a2, rfl, rfl, rfl, w2⟩ := open_int Tryd.underlying3 (hval 2 3 v2 rfl rfl) h2
      exact walk W hsh A0 n0 c0 g0 hn0 hc0 hs0 (fun j => bounds_i64 (hw0 j)) hl0 re0 a1 (bounds_i64 w1) a2 (bounds_i64 w2))

theorem holds : Rows.OrderTwiceSaid :=
  OpenClaim.holds_of_wide 9 Tryd.f9 rfl rfl rfl rfl rfl rfl rfl ⟨rfl, rfl, rfl, rfl, rfl⟩ rfl rfl rfl rfl rfl (by kernel_rfl) Tryd.func9 (by kernel_rfl)
    (of_decide_eq_true (by kernel_rfl)) (by unfold Func.isWrapper; first | (rw [if_pos (by decide +kernel)]; kernel_rfl) | (rw [if_neg (by decide +kernel)]; exact ⟨rfl, rfl⟩))
    (fun os started H enc _ => lifted os started H enc)
theorem proved : Rows.OrderTwiceCardSaid :=
  Claim7.holds_tied_plain_at .later [] Rows.orderTwiceCard.laidKinds true Rows.orderTwiceCard.stood.harness false holds (fun _ h => by cases h) (by kernel_rfl) (fun _ h => by cases h) orderTwice_row_tie rfl ⟨rfl, rfl⟩ (by kernel_rfl) rfl
    (fun f fn hf hfn => by
      obtain rfl : f = 9 := Option.some.inj ((show Tryd.prog.funcNamed Rows.orderTwiceRow.func = some 9 by kernel_rfl).symm.trans hf) |>.symm
      obtain rfl : fn = Tryd.f9 := (Option.some.inj (Tryd.func9.symm.trans hfn)).symm
      exact ⟨by kernel_rfl, fun j t ht => by
        rw [Tryd.params9] at ht
        have hm : t ∈ [22, 3, 3] := by simpa using Array.mem_of_getElem? ht
        have hall : ([22, 3, 3].all fun u => !Tryd.prog.wantsStandIn u) = true := by kernel_rfl
        exact (show Tryd.prog.wantsStandIn t = false by simpa using List.all_eq_true.1 hall t hm)⟩)
    (by kernel_rfl)
end Go.Proofs.YtljgcffpijjliaaDoor.orderTwice
