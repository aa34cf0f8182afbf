/- roundhouselaw10.OrderDone answers true for every row, any three numbers; no condition. -/
import Derived.Test.YtljgcffpijjliaaDoorOrdDo
import Derived.Test.YtljgcffpijjliaaDoorOrdSame
import Derived.Test.YtljgcffpijjliaaDoorOrdKnown10
import Derived.Test.YtljgcffpijjliaaDoorDoor
import Derived.BigQuiet
import Derived.Deep.RegionHeld3
import Derived.Deep.Cut
namespace Go.Proofs.YtljgcffpijjliaaDoor.orderDone
set_option linter.unusedVariables false
set_option linter.unusedSimpArgs false
open Go.RowKit Go.ChangeShapes Go.WideShapes Go.ChangeAt

theorem Lst.se_ {w w' : World} {l : List En} {no : Int} {e : Ending} {n : Nat} (h : Lst w l no e w') (hn : l.length = n) : ∃ (A : Option Addr) (d : Nat), e = .returned (.tuple #[.slice A n d, .int .i64 no]) ∧ Se w' A n (gl l) ∧ Below w.heap.size w w' := by
  subst hn
  obtain ⟨A, d, e1, e2, e3⟩ := h
  exact ⟨A, d, e1, e2.se, e3⟩
theorem add_two {p : Pl} {x y m : Int} {l : List En} (h : addR p x y m = (l, 0)) : l.length = 2 := by
  obtain ⟨c, q, _, hl, _⟩ := add_run h
  rw [hl]
  rfl
theorem add_ways (p : Pl) (x y m : Int) : (∃ l, addR p x y m = (l, 0)) ∨ ∃ no, addR p x y m = ([], no) ∧ (no == 0) = false := by
  unfold addR
  split
  · exact .inr ⟨14, rfl, rfl⟩
  · cases heldB p x y
    · simp only [cond_false]
      split
      · exact .inr ⟨9, rfl, rfl⟩
      · exact .inl ⟨_, rfl⟩
    · exact .inr ⟨12, rfl, rfl⟩
theorem rem_ways (p : Pl) (x y : Int) : (∃ l, remR p x y = (l, 0)) ∨ remR p x y = ([], 9) := by
  unfold remR
  split
  · exact .inr rfl
  · exact .inl ⟨_, rfl⟩
theorem PoolAt.loadN_ {w : World} {b : Nat} {p : Pl} {x y : Int} (h : PoolAt w b p) (e : p.r.n = ⟨x, y⟩) : (Instr.loadAt 29 (.pointer (some ⟨b, 328, none⟩))).run Tryd.prog w = .ok (.agg #[.int .u64 x, .int .u64 y]) w := by
  have := h.loadN
  rw [e] at this
  exact this
theorem PoolAt.epo_ {w : World} {b : Nat} {p : Pl} {x : Int} (h : PoolAt w b p) (e : p.r.e = x) : w.cell? ⟨b, 323, none⟩ = some (.int .i64 x) := by
  have := h.cr 0 (by omega)
  rw [← e]
  exact this
theorem SGd {W w : World} {L : List (Nat × Pl)} {E : List (Nat × Nat × (Nat → En))} (h : SG W w L E) (n : Nat) : SG W (w.drewN n) L E := ⟨fun x hx => (h.1 x hx).drewN n, fun x hx => Sl.drewN (h.2.1 x hx) n, below_drewN h.2.2 n⟩
attribute [local irreducible] PA
set_option maxRecDepth 100000 in
set_option maxHeartbeats 16000000 in
theorem walk (W : World) (hsh : W.ShapedOpen Tryd.prog) (A1 : Option Addr) (n1 c1 : Nat) (g1 : Nat → Int) (hn1 : n1 ≤ c1) (hc1 : c1 ≤ maxLen) (hr1 : Is W A1 n1 g1) (hg1 : IsI g1) (hl1 : ∀ ad, A1 = some ad → 0 < n1 → ad.block < W.heap.size) (re1 : c1 * 8 ≤ 140737488351232) (a0 : Int) (r_a0 : -9223372036854775808 ≤ a0 ∧ a0 ≤ 9223372036854775807) (b0 : Int) (r_b0 : -9223372036854775808 ≤ b0 ∧ b0 ≤ 9223372036854775807) (k0 : Int) (r_k0 : -9223372036854775808 ≤ k0 ∧ k0 ≤ 9223372036854775807) :
    Calls Tryd.prog 4 #[.slice A1 n1 c1, .int .i64 a0, .int .i64 b0, .int .i64 k0] W fun e w' => e = .returned (.bool true) ∧ Below W.heap.size W w' := by
  have hz : ∀ w : World, (zeroValue 33).run Tryd.prog w = .ok (.agg (PA zPl)) w := fun w => zero_pl w
  have hz1 := pa_size zPl
  have hz2 := pa_ne zPl
  unfold maxLen at hc1
  have hnm : (n1 : Int) ≤ 9223372036854775807 := by have := hn1; omega
  have HL := hid hl1
  clear hl1 re1
  obtain ⟨p, hp⟩ : ∃ p, p = mkP g1 (min n1 60) := ⟨_, rfl⟩
  have HQ := hid (show Pinv p 60 from by rw [hp]; exact (mkP_inv g1 _).mono (by omega))
  have MK := hid (fun (w : World) (h : Is w A1 n1 g1) (hl : ∀ ad, A1 = some ad → 0 < n1 → ad.block < w.heap.size) => (show Calls Tryd.prog 15 #[.slice A1 n1 c1, .int .i64 60] w fun x w' => x = .returned (.agg (PA p)) ∧ Below w.heap.size w w' from by rw [hp]; exact make_any w A1 n1 c1 g1 h hl hnm 60 (by omega)))
  clear hp
  obtain ⟨ml, hml⟩ := Tryd.laysM147.s1_3 W hsh
  have HML := hid hml
  clear hml hsh
  obtain ⟨xa, hxa⟩ : ∃ x, x = wi a0 6 := ⟨_, rfl⟩
  have bxa := wi_bd a0 6 (by omega)
  rw [← hxa] at bxa
  have Wxa := hid (fun w => re_i64 (within_any a0 6 w (by omega) (by omega)) hxa.symm)
  clear hxa
  obtain ⟨bxa1, bxa2⟩ := bxa
  obtain ⟨yc, hyc⟩ : ∃ x, x = wi b0 4 := ⟨_, rfl⟩
  have byc := wi_bd b0 4 (by omega)
  rw [← hyc] at byc
  have Wyc := hid (fun w => re_i64 (within_any b0 4 w (by omega) (by omega)) hyc.symm)
  clear hyc
  obtain ⟨byc1, byc2⟩ := byc
  have ST0 := HQ.out.st
  have PBp := HQ.out.pb (by omega)
  obtain ⟨ky, hky⟩ : ∃ y, y = kyN k0 := ⟨_, rfl⟩
  have LK0 := fun w => lkey_any k0 w
  rw [← hky] at LK0
  clear hky
  obtain ⟨L, hL⟩ : ∃ l, l = rotL p ky 64 := ⟨_, rfl⟩
  obtain ⟨N, hN⟩ : ∃ n, n = L.length := ⟨_, rfl⟩
  have hN65 : 1 ≤ N ∧ N ≤ 65 := by rw [hN, hL]; exact rot_len _ _ _
  obtain ⟨N1, N65⟩ := hN65
  have RT0 := fun (w : World) => (show Calls Tryd.prog 22 #[.agg (PA p), kyV ky] w fun e w' => ∃ (A : Option Addr) (d : Nat), e = .returned (.slice A N d) ∧ Se w' A N (gl L) ∧ Below w.heap.size w w' from (rotate_any p PBp ky w).mono (fun e w' h => by obtain ⟨A, d, e1, e2, e3⟩ := h; rw [← hL, ← hN] at e1 e2; exact ⟨A, d, e1, e2.se, e3⟩))
  obtain ⟨u, hu⟩ : ∃ u, u = rotQ p ky 64 := ⟨_, rfl⟩
  have hru : runP p (gl L) N = some u := by rw [hN, hL, hu]; exact rot_run p ky 64 (Nat.le_refl _)
  have HUR := hid (show u.r = ⟨p.r.e + 1, p.r.c, p.r.n, ky⟩ from by rw [hu]; exact rotQ_r p ky 64)
  have HUD := hid (fun j hj => (show (u.s j).st ≠ 4 ∨ u.r.e < (u.s j).si + 3 from by rw [hu]; exact rot_done p ky j hj))
  have HPU := hid ((run_inv HQ.out hru).pb (by omega))
  have AL3 := hid (fun A d w (h : Se w A N (gl L)) => (show Calls Tryd.prog 27 #[.agg (PA p), .slice A N d] w fun x w' => x = .returned (.tuple #[.agg (PA u), .int .i64 (N : Nat), .int .i64 0]) ∧ Below w.heap.size w w' from (rall_any p (gl L) A N d w h (by omega) 60 HQ.out (by decide)).mono (fun e w' h => by obtain ⟨q', k, er, e1, e2, e3⟩ := h; obtain ⟨rfl, rfl, rfl⟩ := all_run hru e2; exact ⟨e1, e3⟩)))
  clear hL hN hu hru
  obtain ⟨ka, kb⟩ := ky
  unfold kyV at LK0 RT0
  simp only at LK0 RT0
  have LK := hid LK0
  have RT := hid RT0
  clear LK0 RT0
  have hre := PBp.2.1
  unfold Ep at hre
  obtain ⟨hq1, hq2⟩ := hre
  obtain ⟨re, hre⟩ : ∃ x, x = p.r.e := ⟨_, rfl⟩
  rw [← hre] at hq1 hq2 HUR
  have HRE := hid hre
  clear hre PBp
  have w1_ : IntKind.i64.wrap (re + 1) = re + 1 := IntWalk.i64_in _ (by omega)
  have HUE := hid (show u.r.e = re + 1 from by rw [HUR.out])
  have HUN := hid (show u.r.n = ⟨ka, kb⟩ from by rw [HUR.out])
  clear HUR
  have HA : (∃ l, addR p xa yc 3 = (l, 0)) ∨ ∃ no, addR p xa yc 3 = ([], no) ∧ (no == 0) = false := add_ways p xa yc 3
  have HB : (∃ l, remR p xa yc = (l, 0)) ∨ remR p xa yc = ([], 9) := rem_ways p xa yc
  rcases HA with ⟨l, hA⟩ | ⟨no, hA, hno⟩
  · rcases HB with ⟨m, hB⟩ | hB
    · obtain ⟨c, q, c64, _, _, hh, hq, _, _, hs⟩ := add_run hA
      have hlenl : l.length = 2 := add_two hA
      obtain ⟨_, hf, hst, hwe, _⟩ := add_then c64 hh hs
      have HQ2 := hid (run_inv HQ.out hq)
      have HST := hid hst
      have HWE := hid hwe
      have hci : (c : Int) < 64 := by omega
      have AD := hid (fun (w : World) => (show Calls Tryd.prog 17 #[.agg (PA p), .int .i64 xa, .int .i64 yc, .int .i64 3] w fun e w' => ∃ (A : Option Addr) (d : Nat), e = .returned (.tuple #[.slice A 2 d, .int .i64 0]) ∧ Se w' A 2 (gl l) ∧ Below w.heap.size w w' from (show Calls Tryd.prog 17 #[.agg (PA p), .int .i64 xa, .int .i64 yc, .int .i64 3] w (Lst w l 0) from by have := add_any p xa yc 3 w; rw [hA] at this; exact this).mono (fun e w' h => Lst.se_ h hlenl)))
      have AL := hid (fun A d w (h : Se w A 2 (gl l)) => (show Calls Tryd.prog 27 #[.agg (PA p), .slice A 2 d] w fun x w' => x = .returned (.tuple #[.agg (PA q), .int .i64 (2 : Nat), .int .i64 0]) ∧ Below w.heap.size w w' from (rall_any p (gl l) A 2 d w h (by omega) 60 HQ.out (by decide)).mono (fun e w' h => by obtain ⟨q', k, er, e1, e2, e3⟩ := h; obtain ⟨rfl, rfl, rfl⟩ := all_run hq e2; exact ⟨e1, e3⟩)))
      have FD := hid (fun w => (show Calls Tryd.prog 28 #[.agg (PA q), .int .i64 xa, .int .i64 yc] w fun e w' => e = .returned (.tuple #[.int .i64 (c : Int), .bool true]) ∧ Below w.heap.size w w' from by have := rfind_any q xa yc w; rw [hf] at this; exact this))
      clear hq hh hs hf hst hwe hlenl
      clear hA
      obtain ⟨g, r, g64, hf, hm1, hm2, _, hr, _, _, hs⟩ := rem_run hB
      have hst : (r.s g).st = 4 := by rw [hs g, if_pos rfl]
      obtain ⟨nm, hlenm⟩ : ∃ n, m.length = n := ⟨_, rfl⟩
      rw [hlenm] at hr hm1 hm2
      have HST2 := hid hst
      have hgi : (g : Int) < 64 := by omega
      have RM := hid (fun (w : World) => (show Calls Tryd.prog 19 #[.agg (PA p), .int .i64 xa, .int .i64 yc] w fun e w' => ∃ (A : Option Addr) (d : Nat), e = .returned (.tuple #[.slice A nm d, .int .i64 0]) ∧ Se w' A nm (gl m) ∧ Below w.heap.size w w' from (show Calls Tryd.prog 19 #[.agg (PA p), .int .i64 xa, .int .i64 yc] w (Lst w m 0) from by have := remove_any p ST0 xa yc w; rw [hB] at this; exact this).mono (fun e w' h => Lst.se_ h hlenm)))
      have AL2 := hid (fun A d w (h : Se w A nm (gl m)) => (show Calls Tryd.prog 27 #[.agg (PA p), .slice A nm d] w fun x w' => x = .returned (.tuple #[.agg (PA r), .int .i64 (nm : Nat), .int .i64 0]) ∧ Below w.heap.size w w' from (rall_any p (gl m) A nm d w h (by omega) 60 HQ.out (by decide)).mono (fun e w' h => by obtain ⟨q', k, er, e1, e2, e3⟩ := h; obtain ⟨rfl, rfl, rfl⟩ := all_run hr e2; exact ⟨e1, e3⟩)))
      have FD2 := hid (fun w => (show Calls Tryd.prog 28 #[.agg (PA p), .int .i64 xa, .int .i64 yc] w fun e w' => e = .returned (.tuple #[.int .i64 (g : Int), .bool true]) ∧ Below w.heap.size w w' from by have := rfind_any p xa yc w; rw [hf] at this; exact this))
      clear hr hs hf hst hlenm
      clear hB ST0
      go_enter Tryd.func4, Tryd.ntmps4
      go_wp2_with fail
      refine (known10_any ml _ HML.out).mono ?_
      rintro x w1 ⟨rfl, hB⟩
      have R1 := hid (hr1.below hB (Nat.le_refl _))
      have B1 := hid hB
      clear hr1 hB HML
      go_wp2_with fail
      refine (MK.out _ R1.out (fun ad e h => Nat.lt_of_lt_of_le (HL.out ad e h) B1.out.size)).mono ?_
      rintro x w2 ⟨rfl, hb⟩
      have S2 := hid ((SG.start B1.out).below hb)
      clear hb R1 B1 MK
      have ST := hid ((sg_new (w := w2) (T := 33)).storeA p)
      have S3 := hid (SG.put S2.out (T := 33) zPl p (by simp))
      go_upto_region 4 with ((with_reducible refine wl_id ?_); refine wl_store rfl rfl rfl rfl ST.out ?_)
      clear ST S2
      generalize (w2.alloc (.cells (PA zPl) 33)).setCells w2.heap.size 0 (PA p).toList = w3 at *
      generalize w2.heap.size = P at *
      go_wp2_with fail
      refine (Wxa.out _).mono ?_
      rintro e w' ⟨rfl, rfl⟩
      go_wp2_with fail
      refine (Wyc.out _).mono ?_
      rintro e w' ⟨rfl, rfl⟩
      go_upto_region 5 with (fail)
      have LP := (SG.get S3.out (b := P) (p := p) (by simp)).loadA
      go_wp2_with ((with_reducible refine wl_id ?_); refine wl_load rfl rfl rfl LP ?_)
      clear LP
      refine (AD.out _).mono ?_
      rintro e w4 ⟨A4, d4, rfl, se, hb⟩
      have S4 := hid (S3.out.below hb)
      have E4 := hid se
      clear se AD
      clear hb S3
      go_upto_region 7 with (fail)
      have LP := (SG.get S4.out (b := P) (p := p) (by simp)).loadA
      go_wp2_with ((with_reducible refine wl_id ?_); refine wl_load rfl rfl rfl LP ?_)
      clear LP
      refine (AL.out _ _ _ E4.out).mono ?_
      rintro e w5 ⟨rfl, hb⟩
      have S5 := hid (S4.out.below hb)
      clear E4 AL
      clear hb S4
      have ST := hid ((sg_new (w := w5) (T := 33)).storeA q)
      have S6 := hid (SG.put S5.out (T := 33) zPl q (by simp))
      go_upto_region 8 with ((with_reducible refine wl_id ?_); refine wl_store rfl rfl rfl rfl ST.out ?_)
      clear ST S5
      generalize (w5.alloc (.cells (PA zPl) 33)).setCells w5.heap.size 0 (PA q).toList = w6 at *
      generalize w5.heap.size = Q at *
      go_upto_region 8 with (fail)
      have LP := (SG.get S6.out (b := Q) (p := q) (by simp)).loadA
      go_wp2_with ((with_reducible refine wl_id ?_); refine wl_load rfl rfl rfl LP ?_)
      clear LP
      refine (FD.out _).mono ?_
      rintro e w7 ⟨rfl, hb⟩
      have S7 := hid (S6.out.below hb)
      clear FD
      clear hb S6
      have cq0 : w7.cell? ⟨Q, 3 + c * 5, none⟩ = some (.int .i64 (q.s c).st) := (SG.get S7.out (b := Q) (p := q) (by simp)).cs c 0 c64 (by omega)
      have cq3 : w7.cell? ⟨Q, 3 + c * 5 + 3, none⟩ = some (.int .i64 (q.s c).we) := (SG.get S7.out (b := Q) (p := q) (by simp)).cs c 3 c64 (by omega)
      rw [HST.out] at cq0
      rw [HWE.out] at cq3
      go_upto_region 11 with (fail)
      clear cq0 cq3
      go_upto_region 11 with (fail)
      have LP := (SG.get S7.out (b := P) (p := p) (by simp)).loadA
      go_wp2_with ((with_reducible refine wl_id ?_); refine wl_load rfl rfl rfl LP ?_)
      clear LP
      refine (RM.out _).mono ?_
      rintro e w8 ⟨A8, d8, rfl, se, hb⟩
      have S8 := hid (S7.out.below hb)
      have E8 := hid se
      clear se RM
      clear hb S7
      go_upto_region 13 with (fail)
      have LP := (SG.get S8.out (b := P) (p := p) (by simp)).loadA
      go_wp2_with ((with_reducible refine wl_id ?_); refine wl_load rfl rfl rfl LP ?_)
      clear LP
      refine (FD2.out _).mono ?_
      rintro e w9 ⟨rfl, hb⟩
      have S9 := hid (S8.out.below hb)
      have E9 := hid (Se.below E8.out hb (Nat.le_refl _))
      clear FD2 E8
      clear hb S8
      go_upto_region 14 with (fail)
      have LP := (SG.get S9.out (b := P) (p := p) (by simp)).loadA
      go_wp2_with ((with_reducible refine wl_id ?_); refine wl_load rfl rfl rfl LP ?_)
      clear LP
      refine (AL2.out _ _ _ E9.out).mono ?_
      rintro e w10 ⟨rfl, hb⟩
      have S10 := hid (S9.out.below hb)
      clear E9 AL2
      clear hb S9
      have ST := hid ((sg_new (w := w10) (T := 33)).storeA r)
      have S11 := hid (SG.put S10.out (T := 33) zPl r (by simp))
      go_upto_region 15 with ((with_reducible refine wl_id ?_); refine wl_store rfl rfl rfl rfl ST.out ?_)
      clear ST S10
      generalize (w10.alloc (.cells (PA zPl) 33)).setCells w10.heap.size 0 (PA r).toList = w11 at *
      generalize w10.heap.size = R at *
      have cr0 : w11.cell? ⟨R, 3 + g * 5, none⟩ = some (.int .i64 (r.s g).st) := (SG.get S11.out (b := R) (p := r) (by simp)).cs g 0 g64 (by omega)
      rw [HST2.out] at cr0
      have bnm : ((nm : Int) != nm) = false := by simp
      have bnm2 : (nm != nm) = false := by simp
      go_upto_region 17 with (fail)
      clear cr0
      go_upto_region 17 with (fail)
      go_cut [24, 25, 26] from 130 to 140 (fun f g h wx => ∃ (UU : Nat), f = .pointer (some ⟨UU, 0, none⟩) ∧ g = .int .i64 (N : Nat) ∧ h = .int .i64 0 ∧ PoolAt wx UU u ∧ SG W wx [(R, r), (Q, q), (P, p)] [])
      case first =>
        refine wp_region_held_drew (S := fun w' => SG W w' [(R, r), (Q, q), (P, p)] []) (by kernel_rfl) ?_ (fun hHeld => ?_)
        · exact S11.out.drew
        refine tk 0 (v := .agg (PA p)) rfl (by kernel_rfl) (by kernel_rfl) (by kernel_rfl) (fun _ _ _ h => h) rfl (fun w hSw => ex_load rfl rfl (SG.get hSw (b := P) (p := p) (by simp)).loadA) hHeld ?_; (try simp only [Act.put, List.setIfInBounds_toArray, List.set_cons_zero, List.set_cons_succ])
        refine tk 1 (v := .agg (PA p)) rfl (by kernel_rfl) (by kernel_rfl) (by kernel_rfl) (fun _ _ _ h => h) rfl (fun w hSw => ex_load rfl rfl (SG.get hSw (b := P) (p := p) (by simp)).loadA) hHeld ?_; (try simp only [Act.put, List.setIfInBounds_toArray, List.set_cons_zero, List.set_cons_succ])
        refine tk 2 (v := ?_) rfl (by kernel_rfl) (by kernel_rfl) (by kernel_rfl) (fun _ _ _ h => h) rfl ?_ hHeld ?_; rotate_left; (focus (intro w hSw; (try dsimp only at hSw);  go_simp; (try with_reducible rfl))); (try simp only [Act.put, List.setIfInBounds_toArray, List.set_cons_zero, List.set_cons_succ])
        refine twoUp 3 10 rfl rfl (by kernel_rfl) rfl rfl (fun K hK => ?_) (fun K hK => ?_)
        · go_simp
          refine (LK.out _).mono ?_
          rintro e' w' ⟨rfl, hb⟩
          try go_wp2_with fail
          refine hK.out _ _ (SG.below hHeld hb) (fun hz0 => ?_)
          clear hK hb
          try simp only [Act.put, List.setIfInBounds_toArray, List.set_cons_zero, List.set_cons_succ]
          refine twoUp 4 10 rfl rfl (by kernel_rfl) rfl rfl (fun K hK => ?_) (fun K hK => ?_)
          · go_simp
            refine (RT.out _).mono ?_
            rintro e' w' ⟨A, d, rfl, SE, hb⟩
            try go_wp2_with fail
            refine hK.out _ _ (SG.below hz0 hb) (fun hz1 => ?_)
            clear hK hb
            try simp only [Act.put, List.setIfInBounds_toArray, List.set_cons_zero, List.set_cons_succ]
            refine twoUp 5 10 rfl rfl (by kernel_rfl) rfl rfl (fun K hK => ?_) (fun K hK => ?_)
            · go_simp
              refine (AL3.out A d _ SE).mono ?_
              rintro e' w' ⟨rfl, hb⟩
              try go_wp2_with fail
              have SE := Se.below SE hb (Nat.le_refl _)
              refine hK.out _ _ (SG.below hz1 hb) (fun hz2 => ?_)
              clear hK hb
              try simp only [Act.put, List.setIfInBounds_toArray, List.set_cons_zero, List.set_cons_succ]
              refine tk 6 (v := ?_) rfl (by kernel_rfl) (by kernel_rfl) (by kernel_rfl) (fun _ _ _ h => h) rfl ?_ hz2 ?_; rotate_left; (focus (intro w hSw; (try dsimp only at hSw);  go_simp; (try with_reducible rfl))); (try simp only [Act.put, List.setIfInBounds_toArray, List.set_cons_zero, List.set_cons_succ])
              refine tk 7 (v := ?_) rfl (by kernel_rfl) (by kernel_rfl) (by kernel_rfl) (fun _ _ _ h => h) rfl ?_ hz2 ?_; rotate_left; (focus (intro w hSw; (try dsimp only at hSw);  go_simp; (try with_reducible rfl))); (try simp only [Act.put, List.setIfInBounds_toArray, List.set_cons_zero, List.set_cons_succ])
              refine tk 8 (v := ?_) rfl (by kernel_rfl) (by kernel_rfl) (by kernel_rfl) (fun _ _ _ h => h) rfl ?_ hz2 ?_; rotate_left; (focus (intro w hSw; (try dsimp only at hSw);  go_simp; (try with_reducible rfl))); (try simp only [Act.put, List.setIfInBounds_toArray, List.set_cons_zero, List.set_cons_succ])
              refine tk 9 (v := ?_) rfl (by kernel_rfl) (by kernel_rfl) (by kernel_rfl) (fun _ _ _ h => h) rfl ?_ hz2 ?_; rotate_left; (focus (intro w hSw; (try dsimp only at hSw);  go_simp; (try with_reducible rfl))); (try simp only [Act.put, List.setIfInBounds_toArray, List.set_cons_zero, List.set_cons_succ])
              refine only 10 rfl (by kernel_rfl) rfl (fun K hK => ?_)
              go_simp
              have nL := SG.ne hz2
              have lN := (SG.bl hz2).size
              have SE := Sl.alloc SE (.cells (PA zPl) 33)
              refine hK.out _ _ (SG.alloc hz2 _) (fun hz3 => ?_)
              clear hK
              try simp only [Act.put, List.setIfInBounds_toArray, List.set_cons_zero, List.set_cons_succ]
              have NN := sg_newH hz3
              generalize w'.alloc (.cells (PA zPl) 33) = w' at *
              have ST := NN.storeA u
              have NW := NN.whole u
              refine only 11 rfl (by kernel_rfl) rfl (fun K hK => ?_)
              refine ov_store rfl rfl rfl ST ?_
              refine hK.out _ _ (SG.sets hz3 nL (by simp) lN) (fun hE => ?_)
              clear hK
              try simp only [Act.put, List.setIfInBounds_toArray, List.set_cons_zero, List.set_cons_succ]
              refine tk 12 (v := ?_) rfl (by kernel_rfl) (by kernel_rfl) (by kernel_rfl) (fun _ _ _ h => h) rfl ?_ hE ?_; rotate_left; (focus (intro w hSw; (try dsimp only at hSw);  go_simp; (try with_reducible rfl))); (try simp only [Act.put, List.setIfInBounds_toArray, List.set_cons_zero, List.set_cons_succ])
              refine tk 13 (v := ?_) rfl (by kernel_rfl) (by kernel_rfl) (by kernel_rfl) (fun _ _ _ h => h) rfl ?_ hE ?_; rotate_left; (focus (intro w hSw; (try dsimp only at hSw);  go_simp; (try with_reducible rfl))); (try simp only [Act.put, List.setIfInBounds_toArray, List.set_cons_zero, List.set_cons_succ])
              refine wpAnyH_done (by kernel_rfl) ?_ _
              go_wp2_with fail
              go_meet
              exact ⟨_, rfl, rfl, rfl, NW, hE⟩
            · go_simp
              have nL := SG.ne hz1
              have lN := (SG.bl hz1).size
              have SE := Sl.alloc SE (.cells (PA zPl) 33)
              refine hK.out _ _ (SG.alloc hz1 _) (fun hz2 => ?_)
              clear hK
              try simp only [Act.put, List.setIfInBounds_toArray, List.set_cons_zero, List.set_cons_succ]
              have NN := sg_newH hz2
              generalize w'.alloc (.cells (PA zPl) 33) = w' at *
              refine only 5 rfl (by kernel_rfl) rfl (fun K hK => ?_)
              go_simp
              refine (AL3.out A d _ SE).mono ?_
              rintro e' w' ⟨rfl, hb⟩
              try go_wp2_with fail
              have SE := Se.below SE hb (Nat.le_refl _)
              have NN := NN.below hb
              refine hK.out _ _ (SG.below hz2 hb) (fun hz3 => ?_)
              clear hK hb
              try simp only [Act.put, List.setIfInBounds_toArray, List.set_cons_zero, List.set_cons_succ]
              refine tk 6 (v := ?_) rfl (by kernel_rfl) (by kernel_rfl) (by kernel_rfl) (fun _ _ _ h => h) rfl ?_ hz3 ?_; rotate_left; (focus (intro w hSw; (try dsimp only at hSw);  go_simp; (try with_reducible rfl))); (try simp only [Act.put, List.setIfInBounds_toArray, List.set_cons_zero, List.set_cons_succ])
              refine tk 7 (v := ?_) rfl (by kernel_rfl) (by kernel_rfl) (by kernel_rfl) (fun _ _ _ h => h) rfl ?_ hz3 ?_; rotate_left; (focus (intro w hSw; (try dsimp only at hSw);  go_simp; (try with_reducible rfl))); (try simp only [Act.put, List.setIfInBounds_toArray, List.set_cons_zero, List.set_cons_succ])
              refine tk 8 (v := ?_) rfl (by kernel_rfl) (by kernel_rfl) (by kernel_rfl) (fun _ _ _ h => h) rfl ?_ hz3 ?_; rotate_left; (focus (intro w hSw; (try dsimp only at hSw);  go_simp; (try with_reducible rfl))); (try simp only [Act.put, List.setIfInBounds_toArray, List.set_cons_zero, List.set_cons_succ])
              refine tk 9 (v := ?_) rfl (by kernel_rfl) (by kernel_rfl) (by kernel_rfl) (fun _ _ _ h => h) rfl ?_ hz3 ?_; rotate_left; (focus (intro w hSw; (try dsimp only at hSw);  go_simp; (try with_reducible rfl))); (try simp only [Act.put, List.setIfInBounds_toArray, List.set_cons_zero, List.set_cons_succ])
              have ST := NN.storeA u
              have NW := NN.whole u
              refine only 11 rfl (by kernel_rfl) rfl (fun K hK => ?_)
              refine ov_store rfl rfl rfl ST ?_
              refine hK.out _ _ (SG.sets hz3 nL (by simp) lN) (fun hE => ?_)
              clear hK
              try simp only [Act.put, List.setIfInBounds_toArray, List.set_cons_zero, List.set_cons_succ]
              refine tk 12 (v := ?_) rfl (by kernel_rfl) (by kernel_rfl) (by kernel_rfl) (fun _ _ _ h => h) rfl ?_ hE ?_; rotate_left; (focus (intro w hSw; (try dsimp only at hSw);  go_simp; (try with_reducible rfl))); (try simp only [Act.put, List.setIfInBounds_toArray, List.set_cons_zero, List.set_cons_succ])
              refine tk 13 (v := ?_) rfl (by kernel_rfl) (by kernel_rfl) (by kernel_rfl) (fun _ _ _ h => h) rfl ?_ hE ?_; rotate_left; (focus (intro w hSw; (try dsimp only at hSw);  go_simp; (try with_reducible rfl))); (try simp only [Act.put, List.setIfInBounds_toArray, List.set_cons_zero, List.set_cons_succ])
              refine wpAnyH_done (by kernel_rfl) ?_ _
              go_wp2_with fail
              go_meet
              exact ⟨_, rfl, rfl, rfl, NW, hE⟩
          · go_simp
            have nL := SG.ne hz0
            have lN := (SG.bl hz0).size
            refine hK.out _ _ (SG.alloc hz0 _) (fun hz1 => ?_)
            clear hK
            try simp only [Act.put, List.setIfInBounds_toArray, List.set_cons_zero, List.set_cons_succ]
            have NN := sg_newH hz1
            generalize w'.alloc (.cells (PA zPl) 33) = w' at *
            refine only 4 rfl (by kernel_rfl) rfl (fun K hK => ?_)
            go_simp
            refine (RT.out _).mono ?_
            rintro e' w' ⟨A, d, rfl, SE, hb⟩
            try go_wp2_with fail
            have NN := NN.below hb
            refine hK.out _ _ (SG.below hz1 hb) (fun hz2 => ?_)
            clear hK hb
            try simp only [Act.put, List.setIfInBounds_toArray, List.set_cons_zero, List.set_cons_succ]
            refine only 5 rfl (by kernel_rfl) rfl (fun K hK => ?_)
            go_simp
            refine (AL3.out A d _ SE).mono ?_
            rintro e' w' ⟨rfl, hb⟩
            try go_wp2_with fail
            have NN := NN.below hb
            have SE := Se.below SE hb (Nat.le_refl _)
            refine hK.out _ _ (SG.below hz2 hb) (fun hz3 => ?_)
            clear hK hb
            try simp only [Act.put, List.setIfInBounds_toArray, List.set_cons_zero, List.set_cons_succ]
            refine tk 6 (v := ?_) rfl (by kernel_rfl) (by kernel_rfl) (by kernel_rfl) (fun _ _ _ h => h) rfl ?_ hz3 ?_; rotate_left; (focus (intro w hSw; (try dsimp only at hSw);  go_simp; (try with_reducible rfl))); (try simp only [Act.put, List.setIfInBounds_toArray, List.set_cons_zero, List.set_cons_succ])
            refine tk 7 (v := ?_) rfl (by kernel_rfl) (by kernel_rfl) (by kernel_rfl) (fun _ _ _ h => h) rfl ?_ hz3 ?_; rotate_left; (focus (intro w hSw; (try dsimp only at hSw);  go_simp; (try with_reducible rfl))); (try simp only [Act.put, List.setIfInBounds_toArray, List.set_cons_zero, List.set_cons_succ])
            refine tk 8 (v := ?_) rfl (by kernel_rfl) (by kernel_rfl) (by kernel_rfl) (fun _ _ _ h => h) rfl ?_ hz3 ?_; rotate_left; (focus (intro w hSw; (try dsimp only at hSw);  go_simp; (try with_reducible rfl))); (try simp only [Act.put, List.setIfInBounds_toArray, List.set_cons_zero, List.set_cons_succ])
            refine tk 9 (v := ?_) rfl (by kernel_rfl) (by kernel_rfl) (by kernel_rfl) (fun _ _ _ h => h) rfl ?_ hz3 ?_; rotate_left; (focus (intro w hSw; (try dsimp only at hSw);  go_simp; (try with_reducible rfl))); (try simp only [Act.put, List.setIfInBounds_toArray, List.set_cons_zero, List.set_cons_succ])
            have ST := NN.storeA u
            have NW := NN.whole u
            refine only 11 rfl (by kernel_rfl) rfl (fun K hK => ?_)
            refine ov_store rfl rfl rfl ST ?_
            refine hK.out _ _ (SG.sets hz3 nL (by simp) lN) (fun hE => ?_)
            clear hK
            try simp only [Act.put, List.setIfInBounds_toArray, List.set_cons_zero, List.set_cons_succ]
            refine tk 12 (v := ?_) rfl (by kernel_rfl) (by kernel_rfl) (by kernel_rfl) (fun _ _ _ h => h) rfl ?_ hE ?_; rotate_left; (focus (intro w hSw; (try dsimp only at hSw);  go_simp; (try with_reducible rfl))); (try simp only [Act.put, List.setIfInBounds_toArray, List.set_cons_zero, List.set_cons_succ])
            refine tk 13 (v := ?_) rfl (by kernel_rfl) (by kernel_rfl) (by kernel_rfl) (fun _ _ _ h => h) rfl ?_ hE ?_; rotate_left; (focus (intro w hSw; (try dsimp only at hSw);  go_simp; (try with_reducible rfl))); (try simp only [Act.put, List.setIfInBounds_toArray, List.set_cons_zero, List.set_cons_succ])
            refine wpAnyH_done (by kernel_rfl) ?_ _
            go_wp2_with fail
            go_meet
            exact ⟨_, rfl, rfl, rfl, NW, hE⟩
        · go_simp
          have nL := SG.ne hHeld
          have lN := (SG.bl hHeld).size
          refine hK.out _ _ (SG.alloc hHeld _) (fun hz0 => ?_)
          clear hK
          try simp only [Act.put, List.setIfInBounds_toArray, List.set_cons_zero, List.set_cons_succ]
          have NN := sg_newHD hz0
          generalize (w11.alloc (.cells (PA zPl) 33)).drew = w' at *
          refine only 3 rfl (by kernel_rfl) rfl (fun K hK => ?_)
          go_simp
          refine (LK.out _).mono ?_
          rintro e' w' ⟨rfl, hb⟩
          try go_wp2_with fail
          have NN := NN.below hb
          refine hK.out _ _ (SG.below hz0 hb) (fun hz1 => ?_)
          clear hK hb
          try simp only [Act.put, List.setIfInBounds_toArray, List.set_cons_zero, List.set_cons_succ]
          refine only 4 rfl (by kernel_rfl) rfl (fun K hK => ?_)
          go_simp
          refine (RT.out _).mono ?_
          rintro e' w' ⟨A, d, rfl, SE, hb⟩
          try go_wp2_with fail
          have NN := NN.below hb
          refine hK.out _ _ (SG.below hz1 hb) (fun hz2 => ?_)
          clear hK hb
          try simp only [Act.put, List.setIfInBounds_toArray, List.set_cons_zero, List.set_cons_succ]
          refine only 5 rfl (by kernel_rfl) rfl (fun K hK => ?_)
          go_simp
          refine (AL3.out A d _ SE).mono ?_
          rintro e' w' ⟨rfl, hb⟩
          try go_wp2_with fail
          have NN := NN.below hb
          have SE := Se.below SE hb (Nat.le_refl _)
          refine hK.out _ _ (SG.below hz2 hb) (fun hz3 => ?_)
          clear hK hb
          try simp only [Act.put, List.setIfInBounds_toArray, List.set_cons_zero, List.set_cons_succ]
          refine tk 6 (v := ?_) rfl (by kernel_rfl) (by kernel_rfl) (by kernel_rfl) (fun _ _ _ h => h) rfl ?_ hz3 ?_; rotate_left; (focus (intro w hSw; (try dsimp only at hSw);  go_simp; (try with_reducible rfl))); (try simp only [Act.put, List.setIfInBounds_toArray, List.set_cons_zero, List.set_cons_succ])
          refine tk 7 (v := ?_) rfl (by kernel_rfl) (by kernel_rfl) (by kernel_rfl) (fun _ _ _ h => h) rfl ?_ hz3 ?_; rotate_left; (focus (intro w hSw; (try dsimp only at hSw);  go_simp; (try with_reducible rfl))); (try simp only [Act.put, List.setIfInBounds_toArray, List.set_cons_zero, List.set_cons_succ])
          refine tk 8 (v := ?_) rfl (by kernel_rfl) (by kernel_rfl) (by kernel_rfl) (fun _ _ _ h => h) rfl ?_ hz3 ?_; rotate_left; (focus (intro w hSw; (try dsimp only at hSw);  go_simp; (try with_reducible rfl))); (try simp only [Act.put, List.setIfInBounds_toArray, List.set_cons_zero, List.set_cons_succ])
          refine tk 9 (v := ?_) rfl (by kernel_rfl) (by kernel_rfl) (by kernel_rfl) (fun _ _ _ h => h) rfl ?_ hz3 ?_; rotate_left; (focus (intro w hSw; (try dsimp only at hSw);  go_simp; (try with_reducible rfl))); (try simp only [Act.put, List.setIfInBounds_toArray, List.set_cons_zero, List.set_cons_succ])
          have ST := NN.storeA u
          have NW := NN.whole u
          refine only 11 rfl (by kernel_rfl) rfl (fun K hK => ?_)
          refine ov_store rfl rfl rfl ST ?_
          refine hK.out _ _ (SG.sets hz3 nL (by simp) lN) (fun hE => ?_)
          clear hK
          try simp only [Act.put, List.setIfInBounds_toArray, List.set_cons_zero, List.set_cons_succ]
          refine tk 12 (v := ?_) rfl (by kernel_rfl) (by kernel_rfl) (by kernel_rfl) (fun _ _ _ h => h) rfl ?_ hE ?_; rotate_left; (focus (intro w hSw; (try dsimp only at hSw);  go_simp; (try with_reducible rfl))); (try simp only [Act.put, List.setIfInBounds_toArray, List.set_cons_zero, List.set_cons_succ])
          refine tk 13 (v := ?_) rfl (by kernel_rfl) (by kernel_rfl) (by kernel_rfl) (fun _ _ _ h => h) rfl ?_ hE ?_; rotate_left; (focus (intro w hSw; (try dsimp only at hSw);  go_simp; (try with_reducible rfl))); (try simp only [Act.put, List.setIfInBounds_toArray, List.set_cons_zero, List.set_cons_succ])
          refine wpAnyH_done (by kernel_rfl) ?_ _
          go_wp2_with fail
          go_meet
          exact ⟨_, rfl, rfl, rfl, NW, hE⟩
      case rest =>
        obtain ⟨U, rfl, rfl, rfl, hU, hS⟩ := hcut
        have S50 := hid (hS.cons hU)
        clear hS hU S11
        have n1_ : ¬ (N : Int) < 1 := by omega
        have n2_ : decide (N < 1) = false := by simp; omega
        have n3_ : ¬ N < 1 := by omega
        have bre : ((re + 1) != (re + 1)) = false := by simp
        go_upto_region 18 with (fail)
        refine wp_region_held_drew (S := fun w' => SG W w' ((U, u) :: [(R, r), (Q, q), (P, p)]) []) (by kernel_rfl) ?_ (fun hHeld => ?_)
        · exact S50.out.drew
        refine tk 0 (v := ?_) rfl (by kernel_rfl) (by kernel_rfl) (by kernel_rfl) (fun _ _ _ h => h) rfl ?_ hHeld ?_; rotate_left; (focus (intro w hSw; (try dsimp only at hSw);  go_simp; (try with_reducible rfl))); (try simp only [Act.put, List.setIfInBounds_toArray, List.set_cons_zero, List.set_cons_succ])
        refine tk 1 (v := ?_) rfl (by kernel_rfl) (by kernel_rfl) (by kernel_rfl) (fun _ _ _ h => h) rfl ?_ hHeld ?_; rotate_left; (focus (intro w hSw; (try dsimp only at hSw);  go_simp; (try with_reducible rfl))); (try simp only [Act.put, List.setIfInBounds_toArray, List.set_cons_zero, List.set_cons_succ])
        refine tk 2 (v := ?_) rfl (by kernel_rfl) (by kernel_rfl) (by kernel_rfl) (fun _ _ _ h => h) rfl ?_ hHeld ?_; rotate_left; (focus (intro w hSw; (try dsimp only at hSw);  go_simp; (try with_reducible rfl))); (try simp only [Act.put, List.setIfInBounds_toArray, List.set_cons_zero, List.set_cons_succ])
        refine tk 3 (v := ?_) rfl (by kernel_rfl) (by kernel_rfl) (by kernel_rfl) (fun _ _ _ h => h) rfl ?_ hHeld ?_; rotate_left; (focus (intro w hSw; (try dsimp only at hSw);  go_simp; (try with_reducible rfl))); (try simp only [Act.put, List.setIfInBounds_toArray, List.set_cons_zero, List.set_cons_succ])
        refine tk 4 (v := ?_) rfl (by kernel_rfl) (by kernel_rfl) (by kernel_rfl) (fun _ _ _ h => h) rfl ?_ hHeld ?_; rotate_left; (focus (intro w hSw; (try dsimp only at hSw);  go_simp; (try with_reducible rfl))); (try simp only [Act.put, List.setIfInBounds_toArray, List.set_cons_zero, List.set_cons_succ])
        refine tk 5 (v := ?_) rfl (by kernel_rfl) (by kernel_rfl) (by kernel_rfl) (fun _ _ _ h => h) rfl ?_ hHeld ?_; rotate_left; (focus (intro w hSw; (try dsimp only at hSw);  go_simp; (try with_reducible rfl))); (try simp only [Act.put, List.setIfInBounds_toArray, List.set_cons_zero, List.set_cons_succ])
        refine tk 6 (v := ?_) rfl (by kernel_rfl) (by kernel_rfl) (by kernel_rfl) (fun _ _ _ h => h) rfl ?_ hHeld ?_; rotate_left; (focus (intro w hSw; (try dsimp only at hSw);  go_simp; (try with_reducible rfl))); (try simp only [Act.put, List.setIfInBounds_toArray, List.set_cons_zero, List.set_cons_succ])
        refine tk 7 (v := ?_) rfl (by kernel_rfl) (by kernel_rfl) (by kernel_rfl) (fun _ _ _ h => h) rfl ?_ hHeld ?_; rotate_left; (focus (intro w hSw; (try dsimp only at hSw);  go_simp; (try with_reducible rfl))); (try simp only [Act.put, List.setIfInBounds_toArray, List.set_cons_zero, List.set_cons_succ])
        refine tk 8 (v := ?_) rfl (by kernel_rfl) (by kernel_rfl) (by kernel_rfl) (fun _ _ _ h => h) rfl ?_ hHeld ?_; rotate_left; (focus (intro w hSw; (try dsimp only at hSw);  go_simp; (try with_reducible rfl))); (try simp only [Act.put, List.setIfInBounds_toArray, List.set_cons_zero, List.set_cons_succ])
        refine tk 9 (v := .agg #[.int .u64 ka, .int .u64 kb]) rfl (by kernel_rfl) (by kernel_rfl) (by kernel_rfl) (fun _ _ _ h => h) rfl (fun w (hSw : SG W w ((U, u) :: [(R, r), (Q, q), (P, p)]) []) => ex_load rfl rfl (PoolAt.loadN_ (SG.get hSw (b := U) (p := u) (by simp)) HUN.out)) hHeld ?_; (try simp only [Act.put, List.setIfInBounds_toArray, List.set_cons_zero, List.set_cons_succ])
        refine tk 10 (v := ?_) rfl (by kernel_rfl) (by kernel_rfl) (by kernel_rfl) (fun _ _ _ h => h) rfl ?_ hHeld ?_; rotate_left; (focus (intro w hSw; (try dsimp only at hSw);  go_simp; (try with_reducible rfl))); (try simp only [Act.put, List.setIfInBounds_toArray, List.set_cons_zero, List.set_cons_succ])
        refine only 11 rfl (by kernel_rfl) rfl (fun K hK => ?_)
        go_simp
        refine (LK.out _).mono ?_
        rintro e' w' ⟨rfl, hb⟩
        try go_wp2_with fail
        refine hK.out _ _ (SG.below hHeld hb) (fun h2 => ?_)
        clear hK hb
        try simp only [Act.put, List.setIfInBounds_toArray, List.set_cons_zero, List.set_cons_succ]
        refine tk 12 (v := ?_) rfl (by kernel_rfl) (by kernel_rfl) (by kernel_rfl) (fun _ _ _ h => h) rfl ?_ h2 ?_; rotate_left; (focus (intro w hSw; (try dsimp only at hSw);  go_simp; (try with_reducible rfl))); (try simp only [Act.put, List.setIfInBounds_toArray, List.set_cons_zero, List.set_cons_succ])
        refine tk 13 (v := ?_) rfl (by kernel_rfl) (by kernel_rfl) (by kernel_rfl) (fun _ _ _ h => h) rfl ?_ h2 ?_; rotate_left; (focus (intro w hSw; (try dsimp only at hSw);  go_simp; (try with_reducible rfl))); (try simp only [Act.put, List.setIfInBounds_toArray, List.set_cons_zero, List.set_cons_succ])
        refine tk 14 (v := ?_) rfl (by kernel_rfl) (by kernel_rfl) (by kernel_rfl) (fun _ _ _ h => h) rfl ?_ h2 ?_; rotate_left; (focus (intro w hSw; (try dsimp only at hSw);  go_simp; (try with_reducible rfl))); (try simp only [Act.put, List.setIfInBounds_toArray, List.set_cons_zero, List.set_cons_succ])
        refine tk 15 (v := ?_) rfl (by kernel_rfl) (by kernel_rfl) (by kernel_rfl) (fun _ _ _ h => h) rfl ?_ h2 ?_; rotate_left; (focus (intro w hSw; (try dsimp only at hSw);  go_simp; (try with_reducible rfl))); (try simp only [Act.put, List.setIfInBounds_toArray, List.set_cons_zero, List.set_cons_succ])
        refine tk 16 (v := ?_) rfl (by kernel_rfl) (by kernel_rfl) (by kernel_rfl) (fun _ _ _ h => h) rfl ?_ h2 ?_; rotate_left; (focus (intro w hSw; (try dsimp only at hSw);  go_simp; (try with_reducible rfl))); (try simp only [Act.put, List.setIfInBounds_toArray, List.set_cons_zero, List.set_cons_succ])
        refine tk 17 (v := ?_) rfl (by kernel_rfl) (by kernel_rfl) (by kernel_rfl) (fun _ _ _ h => h) rfl ?_ h2 ?_; rotate_left; (focus (intro w hSw; (try dsimp only at hSw); have z0 : w.cell? ⟨U, 323, none⟩ = some (.int .i64 (re + 1)) := PoolAt.epo_ (SG.get hSw (b := U) (p := u) (by simp)) HUE.out; go_simp; (try with_reducible rfl))); (try simp only [Act.put, List.setIfInBounds_toArray, List.set_cons_zero, List.set_cons_succ])
        refine tk 18 (v := ?_) rfl (by kernel_rfl) (by kernel_rfl) (by kernel_rfl) (fun _ _ _ h => h) rfl ?_ h2 ?_; rotate_left; (focus (intro w hSw; (try dsimp only at hSw);  go_simp; (try with_reducible rfl))); (try simp only [Act.put, List.setIfInBounds_toArray, List.set_cons_zero, List.set_cons_succ])
        refine tk 19 (v := ?_) rfl (by kernel_rfl) (by kernel_rfl) (by kernel_rfl) (fun _ _ _ h => h) rfl ?_ h2 ?_; rotate_left; (focus (intro w hSw; (try dsimp only at hSw);  go_simp; (try with_reducible rfl))); (try simp only [Act.put, List.setIfInBounds_toArray, List.set_cons_zero, List.set_cons_succ])
        refine tk 20 (v := ?_) rfl (by kernel_rfl) (by kernel_rfl) (by kernel_rfl) (fun _ _ _ h => h) rfl ?_ h2 ?_; rotate_left; (focus (intro w hSw; (try dsimp only at hSw); have z1 : w.cell? ⟨P, 323, none⟩ = some (.int .i64 re) := PoolAt.epo_ (SG.get hSw (b := P) (p := p) (by simp)) HRE.out.symm; go_simp; (try with_reducible rfl))); (try simp only [Act.put, List.setIfInBounds_toArray, List.set_cons_zero, List.set_cons_succ])
        refine tk 21 (v := ?_) rfl (by kernel_rfl) (by kernel_rfl) (by kernel_rfl) (fun _ _ _ h => h) rfl ?_ h2 ?_; rotate_left; (focus (intro w hSw; (try dsimp only at hSw);  go_simp; (try with_reducible rfl))); (try simp only [Act.put, List.setIfInBounds_toArray, List.set_cons_zero, List.set_cons_succ])
        refine tk 22 (v := ?_) rfl (by kernel_rfl) (by kernel_rfl) (by kernel_rfl) (fun _ _ _ h => h) rfl ?_ h2 ?_; rotate_left; (focus (intro w hSw; (try dsimp only at hSw);  go_simp; (try with_reducible rfl))); (try simp only [Act.put, List.setIfInBounds_toArray, List.set_cons_zero, List.set_cons_succ])
        refine tk 23 (v := ?_) rfl (by kernel_rfl) (by kernel_rfl) (by kernel_rfl) (fun _ _ _ h => h) rfl ?_ h2 ?_; rotate_left; (focus (intro w hSw; (try dsimp only at hSw);  go_simp; (try with_reducible rfl))); (try simp only [Act.put, List.setIfInBounds_toArray, List.set_cons_zero, List.set_cons_succ])
        refine wpAnyH_done (by kernel_rfl) ?_ _
        have S51 := hid h2
        clear h2 hHeld S50
        go_wp2_with fail
        go_loopw [27] (fun i wr => ∃ j : Nat, j ≤ 64 ∧ i = .int .i64 (j : Int) ∧ SG W wr ((U, u) :: [(R, r), (Q, q), (P, p)]) []) (fun i _ => 64 - (intOf i).toNat)
        case atStart => exact ⟨0, by omega, rfl, S51.out⟩
        case round =>
          clear S51
          obtain ⟨j, hj, rfl, hS⟩ := hrel
          have S52 := hid hS
          clear hS
          by_cases hlt : j < 64
          · have i0 : (0 : Int) ≤ j := by omega
            have i1 : (j : Int) < 64 := by omega
            have PU := SG.get S52.out (b := U) (p := u) (by simp)
            have ce : wr.cell? ⟨U, 323, none⟩ = some (.int .i64 (re + 1)) := PoolAt.epo_ PU HUE.out
            have c0 : wr.cell? ⟨U, 3 + j * 5, none⟩ = some (.int .i64 (u.s j).st) := PU.cs j 0 hlt (by omega)
            have c4 : wr.cell? ⟨U, 3 + j * 5 + 4, none⟩ = some (.int .i64 (u.s j).si) := PU.cs j 4 hlt (by omega)
            clear PU
            have hd := HUD.out j hlt
            rw [HUE.out] at hd
            have hsi := HPU.out.2.2 j hlt
            obtain ⟨hs1, hs2⟩ := hsi
            obtain ⟨st, hst⟩ : ∃ x, x = (u.s j).st := ⟨_, rfl⟩
            obtain ⟨si, hsi⟩ : ∃ x, x = (u.s j).si := ⟨_, rfl⟩
            rw [← hst] at c0 hd
            rw [← hsi] at c4 hs1 hs2 hd
            clear hst hsi
            have w3_ : IntKind.i64.wrap (si + 3) = si + 3 := IntWalk.i64_in _ (by omega)
            cases h4 : (st == 4)
            · clear hd
              go_wp2_with fail
              go_quiet (fail)
              go_wp2_with fail
              go_roundw
              case rel => exact ⟨j + 1, by omega, by go_num, SGd S52.out _⟩
              case measure => simp [intOf]; omega
            · have h5 : ¬ si + 3 ≤ re + 1 := by rcases hd with hd | hd; exact absurd (by simpa using h4) hd; omega
              clear hd
              go_wp2_with fail
              go_quiet (fail)
              go_wp2_with fail
              go_roundw
              case rel => exact ⟨j + 1, by omega, by go_num, SGd S52.out _⟩
              case measure => simp [intOf]; omega
          · have e : j = 64 := by omega
            subst e
            go_wp2_with fail
            go_ret
            exact ⟨rfl, S52.out.bl⟩
    · obtain ⟨c, q, c64, _, _, hh, hq, _, _, hs⟩ := add_run hA
      have hlenl : l.length = 2 := add_two hA
      obtain ⟨_, hf, hst, hwe, _⟩ := add_then c64 hh hs
      have HQ2 := hid (run_inv HQ.out hq)
      have HST := hid hst
      have HWE := hid hwe
      have hci : (c : Int) < 64 := by omega
      have AD := hid (fun (w : World) => (show Calls Tryd.prog 17 #[.agg (PA p), .int .i64 xa, .int .i64 yc, .int .i64 3] w fun e w' => ∃ (A : Option Addr) (d : Nat), e = .returned (.tuple #[.slice A 2 d, .int .i64 0]) ∧ Se w' A 2 (gl l) ∧ Below w.heap.size w w' from (show Calls Tryd.prog 17 #[.agg (PA p), .int .i64 xa, .int .i64 yc, .int .i64 3] w (Lst w l 0) from by have := add_any p xa yc 3 w; rw [hA] at this; exact this).mono (fun e w' h => Lst.se_ h hlenl)))
      have AL := hid (fun A d w (h : Se w A 2 (gl l)) => (show Calls Tryd.prog 27 #[.agg (PA p), .slice A 2 d] w fun x w' => x = .returned (.tuple #[.agg (PA q), .int .i64 (2 : Nat), .int .i64 0]) ∧ Below w.heap.size w w' from (rall_any p (gl l) A 2 d w h (by omega) 60 HQ.out (by decide)).mono (fun e w' h => by obtain ⟨q', k, er, e1, e2, e3⟩ := h; obtain ⟨rfl, rfl, rfl⟩ := all_run hq e2; exact ⟨e1, e3⟩)))
      have FD := hid (fun w => (show Calls Tryd.prog 28 #[.agg (PA q), .int .i64 xa, .int .i64 yc] w fun e w' => e = .returned (.tuple #[.int .i64 (c : Int), .bool true]) ∧ Below w.heap.size w w' from by have := rfind_any q xa yc w; rw [hf] at this; exact this))
      clear hq hh hs hf hst hwe hlenl
      clear hA
      have RM := hid (fun (w : World) => (show Calls Tryd.prog 19 #[.agg (PA p), .int .i64 xa, .int .i64 yc] w fun e w' => ∃ (A : Option Addr) (d : Nat), e = .returned (.tuple #[.slice A 0 d, .int .i64 9]) ∧ Se w' A 0 (gl []) ∧ Below w.heap.size w w' from (show Calls Tryd.prog 19 #[.agg (PA p), .int .i64 xa, .int .i64 yc] w (Lst w [] 9) from by have := remove_any p ST0 xa yc w; rw [hB] at this; exact this).mono (fun e w' h => Lst.se_ h rfl)))
      clear hB ST0
      go_enter Tryd.func4, Tryd.ntmps4
      go_wp2_with fail
      refine (known10_any ml _ HML.out).mono ?_
      rintro x w1 ⟨rfl, hB⟩
      have R1 := hid (hr1.below hB (Nat.le_refl _))
      have B1 := hid hB
      clear hr1 hB HML
      go_wp2_with fail
      refine (MK.out _ R1.out (fun ad e h => Nat.lt_of_lt_of_le (HL.out ad e h) B1.out.size)).mono ?_
      rintro x w2 ⟨rfl, hb⟩
      have S2 := hid ((SG.start B1.out).below hb)
      clear hb R1 B1 MK
      have ST := hid ((sg_new (w := w2) (T := 33)).storeA p)
      have S3 := hid (SG.put S2.out (T := 33) zPl p (by simp))
      go_upto_region 4 with ((with_reducible refine wl_id ?_); refine wl_store rfl rfl rfl rfl ST.out ?_)
      clear ST S2
      generalize (w2.alloc (.cells (PA zPl) 33)).setCells w2.heap.size 0 (PA p).toList = w3 at *
      generalize w2.heap.size = P at *
      go_wp2_with fail
      refine (Wxa.out _).mono ?_
      rintro e w' ⟨rfl, rfl⟩
      go_wp2_with fail
      refine (Wyc.out _).mono ?_
      rintro e w' ⟨rfl, rfl⟩
      go_upto_region 5 with (fail)
      have LP := (SG.get S3.out (b := P) (p := p) (by simp)).loadA
      go_wp2_with ((with_reducible refine wl_id ?_); refine wl_load rfl rfl rfl LP ?_)
      clear LP
      refine (AD.out _).mono ?_
      rintro e w4 ⟨A4, d4, rfl, se, hb⟩
      have S4 := hid (S3.out.below hb)
      have E4 := hid se
      clear se AD
      clear hb S3
      go_upto_region 7 with (fail)
      have LP := (SG.get S4.out (b := P) (p := p) (by simp)).loadA
      go_wp2_with ((with_reducible refine wl_id ?_); refine wl_load rfl rfl rfl LP ?_)
      clear LP
      refine (AL.out _ _ _ E4.out).mono ?_
      rintro e w5 ⟨rfl, hb⟩
      have S5 := hid (S4.out.below hb)
      clear E4 AL
      clear hb S4
      have ST := hid ((sg_new (w := w5) (T := 33)).storeA q)
      have S6 := hid (SG.put S5.out (T := 33) zPl q (by simp))
      go_upto_region 8 with ((with_reducible refine wl_id ?_); refine wl_store rfl rfl rfl rfl ST.out ?_)
      clear ST S5
      generalize (w5.alloc (.cells (PA zPl) 33)).setCells w5.heap.size 0 (PA q).toList = w6 at *
      generalize w5.heap.size = Q at *
      go_upto_region 8 with (fail)
      have LP := (SG.get S6.out (b := Q) (p := q) (by simp)).loadA
      go_wp2_with ((with_reducible refine wl_id ?_); refine wl_load rfl rfl rfl LP ?_)
      clear LP
      refine (FD.out _).mono ?_
      rintro e w7 ⟨rfl, hb⟩
      have S7 := hid (S6.out.below hb)
      clear FD
      clear hb S6
      have cq0 : w7.cell? ⟨Q, 3 + c * 5, none⟩ = some (.int .i64 (q.s c).st) := (SG.get S7.out (b := Q) (p := q) (by simp)).cs c 0 c64 (by omega)
      have cq3 : w7.cell? ⟨Q, 3 + c * 5 + 3, none⟩ = some (.int .i64 (q.s c).we) := (SG.get S7.out (b := Q) (p := q) (by simp)).cs c 3 c64 (by omega)
      rw [HST.out] at cq0
      rw [HWE.out] at cq3
      go_upto_region 11 with (fail)
      clear cq0 cq3
      go_upto_region 11 with (fail)
      have LP := (SG.get S7.out (b := P) (p := p) (by simp)).loadA
      go_wp2_with ((with_reducible refine wl_id ?_); refine wl_load rfl rfl rfl LP ?_)
      clear LP
      refine (RM.out _).mono ?_
      rintro e w8 ⟨A8, d8, rfl, _, hb⟩
      have S8 := hid (S7.out.below hb)
      clear RM
      clear hb S7
      go_upto_region 17 with (fail)
      go_cut [24, 25, 26] from 130 to 140 (fun f g h wx => ∃ (UU : Nat), f = .pointer (some ⟨UU, 0, none⟩) ∧ g = .int .i64 (N : Nat) ∧ h = .int .i64 0 ∧ PoolAt wx UU u ∧ SG W wx [(Q, q), (P, p)] [])
      case first =>
        refine wp_region_held_drew (S := fun w' => SG W w' [(Q, q), (P, p)] []) (by kernel_rfl) ?_ (fun hHeld => ?_)
        · exact S8.out.drew
        refine tk 0 (v := .agg (PA p)) rfl (by kernel_rfl) (by kernel_rfl) (by kernel_rfl) (fun _ _ _ h => h) rfl (fun w hSw => ex_load rfl rfl (SG.get hSw (b := P) (p := p) (by simp)).loadA) hHeld ?_; (try simp only [Act.put, List.setIfInBounds_toArray, List.set_cons_zero, List.set_cons_succ])
        refine tk 1 (v := .agg (PA p)) rfl (by kernel_rfl) (by kernel_rfl) (by kernel_rfl) (fun _ _ _ h => h) rfl (fun w hSw => ex_load rfl rfl (SG.get hSw (b := P) (p := p) (by simp)).loadA) hHeld ?_; (try simp only [Act.put, List.setIfInBounds_toArray, List.set_cons_zero, List.set_cons_succ])
        refine tk 2 (v := ?_) rfl (by kernel_rfl) (by kernel_rfl) (by kernel_rfl) (fun _ _ _ h => h) rfl ?_ hHeld ?_; rotate_left; (focus (intro w hSw; (try dsimp only at hSw);  go_simp; (try with_reducible rfl))); (try simp only [Act.put, List.setIfInBounds_toArray, List.set_cons_zero, List.set_cons_succ])
        refine twoUp 3 10 rfl rfl (by kernel_rfl) rfl rfl (fun K hK => ?_) (fun K hK => ?_)
        · go_simp
          refine (LK.out _).mono ?_
          rintro e' w' ⟨rfl, hb⟩
          try go_wp2_with fail
          refine hK.out _ _ (SG.below hHeld hb) (fun hz0 => ?_)
          clear hK hb
          try simp only [Act.put, List.setIfInBounds_toArray, List.set_cons_zero, List.set_cons_succ]
          refine twoUp 4 10 rfl rfl (by kernel_rfl) rfl rfl (fun K hK => ?_) (fun K hK => ?_)
          · go_simp
            refine (RT.out _).mono ?_
            rintro e' w' ⟨A, d, rfl, SE, hb⟩
            try go_wp2_with fail
            refine hK.out _ _ (SG.below hz0 hb) (fun hz1 => ?_)
            clear hK hb
            try simp only [Act.put, List.setIfInBounds_toArray, List.set_cons_zero, List.set_cons_succ]
            refine twoUp 5 10 rfl rfl (by kernel_rfl) rfl rfl (fun K hK => ?_) (fun K hK => ?_)
            · go_simp
              refine (AL3.out A d _ SE).mono ?_
              rintro e' w' ⟨rfl, hb⟩
              try go_wp2_with fail
              have SE := Se.below SE hb (Nat.le_refl _)
              refine hK.out _ _ (SG.below hz1 hb) (fun hz2 => ?_)
              clear hK hb
              try simp only [Act.put, List.setIfInBounds_toArray, List.set_cons_zero, List.set_cons_succ]
              refine tk 6 (v := ?_) rfl (by kernel_rfl) (by kernel_rfl) (by kernel_rfl) (fun _ _ _ h => h) rfl ?_ hz2 ?_; rotate_left; (focus (intro w hSw; (try dsimp only at hSw);  go_simp; (try with_reducible rfl))); (try simp only [Act.put, List.setIfInBounds_toArray, List.set_cons_zero, List.set_cons_succ])
              refine tk 7 (v := ?_) rfl (by kernel_rfl) (by kernel_rfl) (by kernel_rfl) (fun _ _ _ h => h) rfl ?_ hz2 ?_; rotate_left; (focus (intro w hSw; (try dsimp only at hSw);  go_simp; (try with_reducible rfl))); (try simp only [Act.put, List.setIfInBounds_toArray, List.set_cons_zero, List.set_cons_succ])
              refine tk 8 (v := ?_) rfl (by kernel_rfl) (by kernel_rfl) (by kernel_rfl) (fun _ _ _ h => h) rfl ?_ hz2 ?_; rotate_left; (focus (intro w hSw; (try dsimp only at hSw);  go_simp; (try with_reducible rfl))); (try simp only [Act.put, List.setIfInBounds_toArray, List.set_cons_zero, List.set_cons_succ])
              refine tk 9 (v := ?_) rfl (by kernel_rfl) (by kernel_rfl) (by kernel_rfl) (fun _ _ _ h => h) rfl ?_ hz2 ?_; rotate_left; (focus (intro w hSw; (try dsimp only at hSw);  go_simp; (try with_reducible rfl))); (try simp only [Act.put, List.setIfInBounds_toArray, List.set_cons_zero, List.set_cons_succ])
              refine only 10 rfl (by kernel_rfl) rfl (fun K hK => ?_)
              go_simp
              have nL := SG.ne hz2
              have lN := (SG.bl hz2).size
              have SE := Sl.alloc SE (.cells (PA zPl) 33)
              refine hK.out _ _ (SG.alloc hz2 _) (fun hz3 => ?_)
              clear hK
              try simp only [Act.put, List.setIfInBounds_toArray, List.set_cons_zero, List.set_cons_succ]
              have NN := sg_newH hz3
              generalize w'.alloc (.cells (PA zPl) 33) = w' at *
              have ST := NN.storeA u
              have NW := NN.whole u
              refine only 11 rfl (by kernel_rfl) rfl (fun K hK => ?_)
              refine ov_store rfl rfl rfl ST ?_
              refine hK.out _ _ (SG.sets hz3 nL (by simp) lN) (fun hE => ?_)
              clear hK
              try simp only [Act.put, List.setIfInBounds_toArray, List.set_cons_zero, List.set_cons_succ]
              refine tk 12 (v := ?_) rfl (by kernel_rfl) (by kernel_rfl) (by kernel_rfl) (fun _ _ _ h => h) rfl ?_ hE ?_; rotate_left; (focus (intro w hSw; (try dsimp only at hSw);  go_simp; (try with_reducible rfl))); (try simp only [Act.put, List.setIfInBounds_toArray, List.set_cons_zero, List.set_cons_succ])
              refine tk 13 (v := ?_) rfl (by kernel_rfl) (by kernel_rfl) (by kernel_rfl) (fun _ _ _ h => h) rfl ?_ hE ?_; rotate_left; (focus (intro w hSw; (try dsimp only at hSw);  go_simp; (try with_reducible rfl))); (try simp only [Act.put, List.setIfInBounds_toArray, List.set_cons_zero, List.set_cons_succ])
              refine wpAnyH_done (by kernel_rfl) ?_ _
              go_wp2_with fail
              go_meet
              exact ⟨_, rfl, rfl, rfl, NW, hE⟩
            · go_simp
              have nL := SG.ne hz1
              have lN := (SG.bl hz1).size
              have SE := Sl.alloc SE (.cells (PA zPl) 33)
              refine hK.out _ _ (SG.alloc hz1 _) (fun hz2 => ?_)
              clear hK
              try simp only [Act.put, List.setIfInBounds_toArray, List.set_cons_zero, List.set_cons_succ]
              have NN := sg_newH hz2
              generalize w'.alloc (.cells (PA zPl) 33) = w' at *
              refine only 5 rfl (by kernel_rfl) rfl (fun K hK => ?_)
              go_simp
              refine (AL3.out A d _ SE).mono ?_
              rintro e' w' ⟨rfl, hb⟩
              try go_wp2_with fail
              have SE := Se.below SE hb (Nat.le_refl _)
              have NN := NN.below hb
              refine hK.out _ _ (SG.below hz2 hb) (fun hz3 => ?_)
              clear hK hb
              try simp only [Act.put, List.setIfInBounds_toArray, List.set_cons_zero, List.set_cons_succ]
              refine tk 6 (v := ?_) rfl (by kernel_rfl) (by kernel_rfl) (by kernel_rfl) (fun _ _ _ h => h) rfl ?_ hz3 ?_; rotate_left; (focus (intro w hSw; (try dsimp only at hSw);  go_simp; (try with_reducible rfl))); (try simp only [Act.put, List.setIfInBounds_toArray, List.set_cons_zero, List.set_cons_succ])
              refine tk 7 (v := ?_) rfl (by kernel_rfl) (by kernel_rfl) (by kernel_rfl) (fun _ _ _ h => h) rfl ?_ hz3 ?_; rotate_left; (focus (intro w hSw; (try dsimp only at hSw);  go_simp; (try with_reducible rfl))); (try simp only [Act.put, List.setIfInBounds_toArray, List.set_cons_zero, List.set_cons_succ])
              refine tk 8 (v := ?_) rfl (by kernel_rfl) (by kernel_rfl) (by kernel_rfl) (fun _ _ _ h => h) rfl ?_ hz3 ?_; rotate_left; (focus (intro w hSw; (try dsimp only at hSw);  go_simp; (try with_reducible rfl))); (try simp only [Act.put, List.setIfInBounds_toArray, List.set_cons_zero, List.set_cons_succ])
              refine tk 9 (v := ?_) rfl (by kernel_rfl) (by kernel_rfl) (by kernel_rfl) (fun _ _ _ h => h) rfl ?_ hz3 ?_; rotate_left; (focus (intro w hSw; (try dsimp only at hSw);  go_simp; (try with_reducible rfl))); (try simp only [Act.put, List.setIfInBounds_toArray, List.set_cons_zero, List.set_cons_succ])
              have ST := NN.storeA u
              have NW := NN.whole u
              refine only 11 rfl (by kernel_rfl) rfl (fun K hK => ?_)
              refine ov_store rfl rfl rfl ST ?_
              refine hK.out _ _ (SG.sets hz3 nL (by simp) lN) (fun hE => ?_)
              clear hK
              try simp only [Act.put, List.setIfInBounds_toArray, List.set_cons_zero, List.set_cons_succ]
              refine tk 12 (v := ?_) rfl (by kernel_rfl) (by kernel_rfl) (by kernel_rfl) (fun _ _ _ h => h) rfl ?_ hE ?_; rotate_left; (focus (intro w hSw; (try dsimp only at hSw);  go_simp; (try with_reducible rfl))); (try simp only [Act.put, List.setIfInBounds_toArray, List.set_cons_zero, List.set_cons_succ])
              refine tk 13 (v := ?_) rfl (by kernel_rfl) (by kernel_rfl) (by kernel_rfl) (fun _ _ _ h => h) rfl ?_ hE ?_; rotate_left; (focus (intro w hSw; (try dsimp only at hSw);  go_simp; (try with_reducible rfl))); (try simp only [Act.put, List.setIfInBounds_toArray, List.set_cons_zero, List.set_cons_succ])
              refine wpAnyH_done (by kernel_rfl) ?_ _
              go_wp2_with fail
              go_meet
              exact ⟨_, rfl, rfl, rfl, NW, hE⟩
          · go_simp
            have nL := SG.ne hz0
            have lN := (SG.bl hz0).size
            refine hK.out _ _ (SG.alloc hz0 _) (fun hz1 => ?_)
            clear hK
            try simp only [Act.put, List.setIfInBounds_toArray, List.set_cons_zero, List.set_cons_succ]
            have NN := sg_newH hz1
            generalize w'.alloc (.cells (PA zPl) 33) = w' at *
            refine only 4 rfl (by kernel_rfl) rfl (fun K hK => ?_)
            go_simp
            refine (RT.out _).mono ?_
            rintro e' w' ⟨A, d, rfl, SE, hb⟩
            try go_wp2_with fail
            have NN := NN.below hb
            refine hK.out _ _ (SG.below hz1 hb) (fun hz2 => ?_)
            clear hK hb
            try simp only [Act.put, List.setIfInBounds_toArray, List.set_cons_zero, List.set_cons_succ]
            refine only 5 rfl (by kernel_rfl) rfl (fun K hK => ?_)
            go_simp
            refine (AL3.out A d _ SE).mono ?_
            rintro e' w' ⟨rfl, hb⟩
            try go_wp2_with fail
            have NN := NN.below hb
            have SE := Se.below SE hb (Nat.le_refl _)
            refine hK.out _ _ (SG.below hz2 hb) (fun hz3 => ?_)
            clear hK hb
            try simp only [Act.put, List.setIfInBounds_toArray, List.set_cons_zero, List.set_cons_succ]
            refine tk 6 (v := ?_) rfl (by kernel_rfl) (by kernel_rfl) (by kernel_rfl) (fun _ _ _ h => h) rfl ?_ hz3 ?_; rotate_left; (focus (intro w hSw; (try dsimp only at hSw);  go_simp; (try with_reducible rfl))); (try simp only [Act.put, List.setIfInBounds_toArray, List.set_cons_zero, List.set_cons_succ])
            refine tk 7 (v := ?_) rfl (by kernel_rfl) (by kernel_rfl) (by kernel_rfl) (fun _ _ _ h => h) rfl ?_ hz3 ?_; rotate_left; (focus (intro w hSw; (try dsimp only at hSw);  go_simp; (try with_reducible rfl))); (try simp only [Act.put, List.setIfInBounds_toArray, List.set_cons_zero, List.set_cons_succ])
            refine tk 8 (v := ?_) rfl (by kernel_rfl) (by kernel_rfl) (by kernel_rfl) (fun _ _ _ h => h) rfl ?_ hz3 ?_; rotate_left; (focus (intro w hSw; (try dsimp only at hSw);  go_simp; (try with_reducible rfl))); (try simp only [Act.put, List.setIfInBounds_toArray, List.set_cons_zero, List.set_cons_succ])
            refine tk 9 (v := ?_) rfl (by kernel_rfl) (by kernel_rfl) (by kernel_rfl) (fun _ _ _ h => h) rfl ?_ hz3 ?_; rotate_left; (focus (intro w hSw; (try dsimp only at hSw);  go_simp; (try with_reducible rfl))); (try simp only [Act.put, List.setIfInBounds_toArray, List.set_cons_zero, List.set_cons_succ])
            have ST := NN.storeA u
            have NW := NN.whole u
            refine only 11 rfl (by kernel_rfl) rfl (fun K hK => ?_)
            refine ov_store rfl rfl rfl ST ?_
            refine hK.out _ _ (SG.sets hz3 nL (by simp) lN) (fun hE => ?_)
            clear hK
            try simp only [Act.put, List.setIfInBounds_toArray, List.set_cons_zero, List.set_cons_succ]
            refine tk 12 (v := ?_) rfl (by kernel_rfl) (by kernel_rfl) (by kernel_rfl) (fun _ _ _ h => h) rfl ?_ hE ?_; rotate_left; (focus (intro w hSw; (try dsimp only at hSw);  go_simp; (try with_reducible rfl))); (try simp only [Act.put, List.setIfInBounds_toArray, List.set_cons_zero, List.set_cons_succ])
            refine tk 13 (v := ?_) rfl (by kernel_rfl) (by kernel_rfl) (by kernel_rfl) (fun _ _ _ h => h) rfl ?_ hE ?_; rotate_left; (focus (intro w hSw; (try dsimp only at hSw);  go_simp; (try with_reducible rfl))); (try simp only [Act.put, List.setIfInBounds_toArray, List.set_cons_zero, List.set_cons_succ])
            refine wpAnyH_done (by kernel_rfl) ?_ _
            go_wp2_with fail
            go_meet
            exact ⟨_, rfl, rfl, rfl, NW, hE⟩
        · go_simp
          have nL := SG.ne hHeld
          have lN := (SG.bl hHeld).size
          refine hK.out _ _ (SG.alloc hHeld _) (fun hz0 => ?_)
          clear hK
          try simp only [Act.put, List.setIfInBounds_toArray, List.set_cons_zero, List.set_cons_succ]
          have NN := sg_newHD hz0
          generalize (w8.alloc (.cells (PA zPl) 33)).drew = w' at *
          refine only 3 rfl (by kernel_rfl) rfl (fun K hK => ?_)
          go_simp
          refine (LK.out _).mono ?_
          rintro e' w' ⟨rfl, hb⟩
          try go_wp2_with fail
          have NN := NN.below hb
          refine hK.out _ _ (SG.below hz0 hb) (fun hz1 => ?_)
          clear hK hb
          try simp only [Act.put, List.setIfInBounds_toArray, List.set_cons_zero, List.set_cons_succ]
          refine only 4 rfl (by kernel_rfl) rfl (fun K hK => ?_)
          go_simp
          refine (RT.out _).mono ?_
          rintro e' w' ⟨A, d, rfl, SE, hb⟩
          try go_wp2_with fail
          have NN := NN.below hb
          refine hK.out _ _ (SG.below hz1 hb) (fun hz2 => ?_)
          clear hK hb
          try simp only [Act.put, List.setIfInBounds_toArray, List.set_cons_zero, List.set_cons_succ]
          refine only 5 rfl (by kernel_rfl) rfl (fun K hK => ?_)
          go_simp
          refine (AL3.out A d _ SE).mono ?_
          rintro e' w' ⟨rfl, hb⟩
          try go_wp2_with fail
          have NN := NN.below hb
          have SE := Se.below SE hb (Nat.le_refl _)
          refine hK.out _ _ (SG.below hz2 hb) (fun hz3 => ?_)
          clear hK hb
          try simp only [Act.put, List.setIfInBounds_toArray, List.set_cons_zero, List.set_cons_succ]
          refine tk 6 (v := ?_) rfl (by kernel_rfl) (by kernel_rfl) (by kernel_rfl) (fun _ _ _ h => h) rfl ?_ hz3 ?_; rotate_left; (focus (intro w hSw; (try dsimp only at hSw);  go_simp; (try with_reducible rfl))); (try simp only [Act.put, List.setIfInBounds_toArray, List.set_cons_zero, List.set_cons_succ])
          refine tk 7 (v := ?_) rfl (by kernel_rfl) (by kernel_rfl) (by kernel_rfl) (fun _ _ _ h => h) rfl ?_ hz3 ?_; rotate_left; (focus (intro w hSw; (try dsimp only at hSw);  go_simp; (try with_reducible rfl))); (try simp only [Act.put, List.setIfInBounds_toArray, List.set_cons_zero, List.set_cons_succ])
          refine tk 8 (v := ?_) rfl (by kernel_rfl) (by kernel_rfl) (by kernel_rfl) (fun _ _ _ h => h) rfl ?_ hz3 ?_; rotate_left; (focus (intro w hSw; (try dsimp only at hSw);  go_simp; (try with_reducible rfl))); (try simp only [Act.put, List.setIfInBounds_toArray, List.set_cons_zero, List.set_cons_succ])
          refine tk 9 (v := ?_) rfl (by kernel_rfl) (by kernel_rfl) (by kernel_rfl) (fun _ _ _ h => h) rfl ?_ hz3 ?_; rotate_left; (focus (intro w hSw; (try dsimp only at hSw);  go_simp; (try with_reducible rfl))); (try simp only [Act.put, List.setIfInBounds_toArray, List.set_cons_zero, List.set_cons_succ])
          have ST := NN.storeA u
          have NW := NN.whole u
          refine only 11 rfl (by kernel_rfl) rfl (fun K hK => ?_)
          refine ov_store rfl rfl rfl ST ?_
          refine hK.out _ _ (SG.sets hz3 nL (by simp) lN) (fun hE => ?_)
          clear hK
          try simp only [Act.put, List.setIfInBounds_toArray, List.set_cons_zero, List.set_cons_succ]
          refine tk 12 (v := ?_) rfl (by kernel_rfl) (by kernel_rfl) (by kernel_rfl) (fun _ _ _ h => h) rfl ?_ hE ?_; rotate_left; (focus (intro w hSw; (try dsimp only at hSw);  go_simp; (try with_reducible rfl))); (try simp only [Act.put, List.setIfInBounds_toArray, List.set_cons_zero, List.set_cons_succ])
          refine tk 13 (v := ?_) rfl (by kernel_rfl) (by kernel_rfl) (by kernel_rfl) (fun _ _ _ h => h) rfl ?_ hE ?_; rotate_left; (focus (intro w hSw; (try dsimp only at hSw);  go_simp; (try with_reducible rfl))); (try simp only [Act.put, List.setIfInBounds_toArray, List.set_cons_zero, List.set_cons_succ])
          refine wpAnyH_done (by kernel_rfl) ?_ _
          go_wp2_with fail
          go_meet
          exact ⟨_, rfl, rfl, rfl, NW, hE⟩
      case rest =>
        obtain ⟨U, rfl, rfl, rfl, hU, hS⟩ := hcut
        have S50 := hid (hS.cons hU)
        clear hS hU S8
        have n1_ : ¬ (N : Int) < 1 := by omega
        have n2_ : decide (N < 1) = false := by simp; omega
        have n3_ : ¬ N < 1 := by omega
        have bre : ((re + 1) != (re + 1)) = false := by simp
        go_upto_region 18 with (fail)
        refine wp_region_held_drew (S := fun w' => SG W w' ((U, u) :: [(Q, q), (P, p)]) []) (by kernel_rfl) ?_ (fun hHeld => ?_)
        · exact S50.out.drew
        refine tk 0 (v := ?_) rfl (by kernel_rfl) (by kernel_rfl) (by kernel_rfl) (fun _ _ _ h => h) rfl ?_ hHeld ?_; rotate_left; (focus (intro w hSw; (try dsimp only at hSw);  go_simp; (try with_reducible rfl))); (try simp only [Act.put, List.setIfInBounds_toArray, List.set_cons_zero, List.set_cons_succ])
        refine tk 1 (v := ?_) rfl (by kernel_rfl) (by kernel_rfl) (by kernel_rfl) (fun _ _ _ h => h) rfl ?_ hHeld ?_; rotate_left; (focus (intro w hSw; (try dsimp only at hSw);  go_simp; (try with_reducible rfl))); (try simp only [Act.put, List.setIfInBounds_toArray, List.set_cons_zero, List.set_cons_succ])
        refine tk 2 (v := ?_) rfl (by kernel_rfl) (by kernel_rfl) (by kernel_rfl) (fun _ _ _ h => h) rfl ?_ hHeld ?_; rotate_left; (focus (intro w hSw; (try dsimp only at hSw);  go_simp; (try with_reducible rfl))); (try simp only [Act.put, List.setIfInBounds_toArray, List.set_cons_zero, List.set_cons_succ])
        refine tk 3 (v := ?_) rfl (by kernel_rfl) (by kernel_rfl) (by kernel_rfl) (fun _ _ _ h => h) rfl ?_ hHeld ?_; rotate_left; (focus (intro w hSw; (try dsimp only at hSw);  go_simp; (try with_reducible rfl))); (try simp only [Act.put, List.setIfInBounds_toArray, List.set_cons_zero, List.set_cons_succ])
        refine tk 4 (v := ?_) rfl (by kernel_rfl) (by kernel_rfl) (by kernel_rfl) (fun _ _ _ h => h) rfl ?_ hHeld ?_; rotate_left; (focus (intro w hSw; (try dsimp only at hSw);  go_simp; (try with_reducible rfl))); (try simp only [Act.put, List.setIfInBounds_toArray, List.set_cons_zero, List.set_cons_succ])
        refine tk 5 (v := ?_) rfl (by kernel_rfl) (by kernel_rfl) (by kernel_rfl) (fun _ _ _ h => h) rfl ?_ hHeld ?_; rotate_left; (focus (intro w hSw; (try dsimp only at hSw);  go_simp; (try with_reducible rfl))); (try simp only [Act.put, List.setIfInBounds_toArray, List.set_cons_zero, List.set_cons_succ])
        refine tk 6 (v := ?_) rfl (by kernel_rfl) (by kernel_rfl) (by kernel_rfl) (fun _ _ _ h => h) rfl ?_ hHeld ?_; rotate_left; (focus (intro w hSw; (try dsimp only at hSw);  go_simp; (try with_reducible rfl))); (try simp only [Act.put, List.setIfInBounds_toArray, List.set_cons_zero, List.set_cons_succ])
        refine tk 7 (v := ?_) rfl (by kernel_rfl) (by kernel_rfl) (by kernel_rfl) (fun _ _ _ h => h) rfl ?_ hHeld ?_; rotate_left; (focus (intro w hSw; (try dsimp only at hSw);  go_simp; (try with_reducible rfl))); (try simp only [Act.put, List.setIfInBounds_toArray, List.set_cons_zero, List.set_cons_succ])
        refine tk 8 (v := ?_) rfl (by kernel_rfl) (by kernel_rfl) (by kernel_rfl) (fun _ _ _ h => h) rfl ?_ hHeld ?_; rotate_left; (focus (intro w hSw; (try dsimp only at hSw);  go_simp; (try with_reducible rfl))); (try simp only [Act.put, List.setIfInBounds_toArray, List.set_cons_zero, List.set_cons_succ])
        refine tk 9 (v := .agg #[.int .u64 ka, .int .u64 kb]) rfl (by kernel_rfl) (by kernel_rfl) (by kernel_rfl) (fun _ _ _ h => h) rfl (fun w (hSw : SG W w ((U, u) :: [(Q, q), (P, p)]) []) => ex_load rfl rfl (PoolAt.loadN_ (SG.get hSw (b := U) (p := u) (by simp)) HUN.out)) hHeld ?_; (try simp only [Act.put, List.setIfInBounds_toArray, List.set_cons_zero, List.set_cons_succ])
        refine tk 10 (v := ?_) rfl (by kernel_rfl) (by kernel_rfl) (by kernel_rfl) (fun _ _ _ h => h) rfl ?_ hHeld ?_; rotate_left; (focus (intro w hSw; (try dsimp only at hSw);  go_simp; (try with_reducible rfl))); (try simp only [Act.put, List.setIfInBounds_toArray, List.set_cons_zero, List.set_cons_succ])
        refine only 11 rfl (by kernel_rfl) rfl (fun K hK => ?_)
        go_simp
        refine (LK.out _).mono ?_
        rintro e' w' ⟨rfl, hb⟩
        try go_wp2_with fail
        refine hK.out _ _ (SG.below hHeld hb) (fun h2 => ?_)
        clear hK hb
        try simp only [Act.put, List.setIfInBounds_toArray, List.set_cons_zero, List.set_cons_succ]
        refine tk 12 (v := ?_) rfl (by kernel_rfl) (by kernel_rfl) (by kernel_rfl) (fun _ _ _ h => h) rfl ?_ h2 ?_; rotate_left; (focus (intro w hSw; (try dsimp only at hSw);  go_simp; (try with_reducible rfl))); (try simp only [Act.put, List.setIfInBounds_toArray, List.set_cons_zero, List.set_cons_succ])
        refine tk 13 (v := ?_) rfl (by kernel_rfl) (by kernel_rfl) (by kernel_rfl) (fun _ _ _ h => h) rfl ?_ h2 ?_; rotate_left; (focus (intro w hSw; (try dsimp only at hSw);  go_simp; (try with_reducible rfl))); (try simp only [Act.put, List.setIfInBounds_toArray, List.set_cons_zero, List.set_cons_succ])
        refine tk 14 (v := ?_) rfl (by kernel_rfl) (by kernel_rfl) (by kernel_rfl) (fun _ _ _ h => h) rfl ?_ h2 ?_; rotate_left; (focus (intro w hSw; (try dsimp only at hSw);  go_simp; (try with_reducible rfl))); (try simp only [Act.put, List.setIfInBounds_toArray, List.set_cons_zero, List.set_cons_succ])
        refine tk 15 (v := ?_) rfl (by kernel_rfl) (by kernel_rfl) (by kernel_rfl) (fun _ _ _ h => h) rfl ?_ h2 ?_; rotate_left; (focus (intro w hSw; (try dsimp only at hSw);  go_simp; (try with_reducible rfl))); (try simp only [Act.put, List.setIfInBounds_toArray, List.set_cons_zero, List.set_cons_succ])
        refine tk 16 (v := ?_) rfl (by kernel_rfl) (by kernel_rfl) (by kernel_rfl) (fun _ _ _ h => h) rfl ?_ h2 ?_; rotate_left; (focus (intro w hSw; (try dsimp only at hSw);  go_simp; (try with_reducible rfl))); (try simp only [Act.put, List.setIfInBounds_toArray, List.set_cons_zero, List.set_cons_succ])
        refine tk 17 (v := ?_) rfl (by kernel_rfl) (by kernel_rfl) (by kernel_rfl) (fun _ _ _ h => h) rfl ?_ h2 ?_; rotate_left; (focus (intro w hSw; (try dsimp only at hSw); have z0 : w.cell? ⟨U, 323, none⟩ = some (.int .i64 (re + 1)) := PoolAt.epo_ (SG.get hSw (b := U) (p := u) (by simp)) HUE.out; go_simp; (try with_reducible rfl))); (try simp only [Act.put, List.setIfInBounds_toArray, List.set_cons_zero, List.set_cons_succ])
        refine tk 18 (v := ?_) rfl (by kernel_rfl) (by kernel_rfl) (by kernel_rfl) (fun _ _ _ h => h) rfl ?_ h2 ?_; rotate_left; (focus (intro w hSw; (try dsimp only at hSw);  go_simp; (try with_reducible rfl))); (try simp only [Act.put, List.setIfInBounds_toArray, List.set_cons_zero, List.set_cons_succ])
        refine tk 19 (v := ?_) rfl (by kernel_rfl) (by kernel_rfl) (by kernel_rfl) (fun _ _ _ h => h) rfl ?_ h2 ?_; rotate_left; (focus (intro w hSw; (try dsimp only at hSw);  go_simp; (try with_reducible rfl))); (try simp only [Act.put, List.setIfInBounds_toArray, List.set_cons_zero, List.set_cons_succ])
        refine tk 20 (v := ?_) rfl (by kernel_rfl) (by kernel_rfl) (by kernel_rfl) (fun _ _ _ h => h) rfl ?_ h2 ?_; rotate_left; (focus (intro w hSw; (try dsimp only at hSw); have z1 : w.cell? ⟨P, 323, none⟩ = some (.int .i64 re) := PoolAt.epo_ (SG.get hSw (b := P) (p := p) (by simp)) HRE.out.symm; go_simp; (try with_reducible rfl))); (try simp only [Act.put, List.setIfInBounds_toArray, List.set_cons_zero, List.set_cons_succ])
        refine tk 21 (v := ?_) rfl (by kernel_rfl) (by kernel_rfl) (by kernel_rfl) (fun _ _ _ h => h) rfl ?_ h2 ?_; rotate_left; (focus (intro w hSw; (try dsimp only at hSw);  go_simp; (try with_reducible rfl))); (try simp only [Act.put, List.setIfInBounds_toArray, List.set_cons_zero, List.set_cons_succ])
        refine tk 22 (v := ?_) rfl (by kernel_rfl) (by kernel_rfl) (by kernel_rfl) (fun _ _ _ h => h) rfl ?_ h2 ?_; rotate_left; (focus (intro w hSw; (try dsimp only at hSw);  go_simp; (try with_reducible rfl))); (try simp only [Act.put, List.setIfInBounds_toArray, List.set_cons_zero, List.set_cons_succ])
        refine tk 23 (v := ?_) rfl (by kernel_rfl) (by kernel_rfl) (by kernel_rfl) (fun _ _ _ h => h) rfl ?_ h2 ?_; rotate_left; (focus (intro w hSw; (try dsimp only at hSw);  go_simp; (try with_reducible rfl))); (try simp only [Act.put, List.setIfInBounds_toArray, List.set_cons_zero, List.set_cons_succ])
        refine wpAnyH_done (by kernel_rfl) ?_ _
        have S51 := hid h2
        clear h2 hHeld S50
        go_wp2_with fail
        go_loopw [27] (fun i wr => ∃ j : Nat, j ≤ 64 ∧ i = .int .i64 (j : Int) ∧ SG W wr ((U, u) :: [(Q, q), (P, p)]) []) (fun i _ => 64 - (intOf i).toNat)
        case atStart => exact ⟨0, by omega, rfl, S51.out⟩
        case round =>
          clear S51
          obtain ⟨j, hj, rfl, hS⟩ := hrel
          have S52 := hid hS
          clear hS
          by_cases hlt : j < 64
          · have i0 : (0 : Int) ≤ j := by omega
            have i1 : (j : Int) < 64 := by omega
            have PU := SG.get S52.out (b := U) (p := u) (by simp)
            have ce : wr.cell? ⟨U, 323, none⟩ = some (.int .i64 (re + 1)) := PoolAt.epo_ PU HUE.out
            have c0 : wr.cell? ⟨U, 3 + j * 5, none⟩ = some (.int .i64 (u.s j).st) := PU.cs j 0 hlt (by omega)
            have c4 : wr.cell? ⟨U, 3 + j * 5 + 4, none⟩ = some (.int .i64 (u.s j).si) := PU.cs j 4 hlt (by omega)
            clear PU
            have hd := HUD.out j hlt
            rw [HUE.out] at hd
            have hsi := HPU.out.2.2 j hlt
            obtain ⟨hs1, hs2⟩ := hsi
            obtain ⟨st, hst⟩ : ∃ x, x = (u.s j).st := ⟨_, rfl⟩
            obtain ⟨si, hsi⟩ : ∃ x, x = (u.s j).si := ⟨_, rfl⟩
            rw [← hst] at c0 hd
            rw [← hsi] at c4 hs1 hs2 hd
            clear hst hsi
            have w3_ : IntKind.i64.wrap (si + 3) = si + 3 := IntWalk.i64_in _ (by omega)
            cases h4 : (st == 4)
            · clear hd
              go_wp2_with fail
              go_quiet (fail)
              go_wp2_with fail
              go_roundw
              case rel => exact ⟨j + 1, by omega, by go_num, SGd S52.out _⟩
              case measure => simp [intOf]; omega
            · have h5 : ¬ si + 3 ≤ re + 1 := by rcases hd with hd | hd; exact absurd (by simpa using h4) hd; omega
              clear hd
              go_wp2_with fail
              go_quiet (fail)
              go_wp2_with fail
              go_roundw
              case rel => exact ⟨j + 1, by omega, by go_num, SGd S52.out _⟩
              case measure => simp [intOf]; omega
          · have e : j = 64 := by omega
            subst e
            go_wp2_with fail
            go_ret
            exact ⟨rfl, S52.out.bl⟩
  · rcases HB with ⟨m, hB⟩ | hB
    · have AD := hid (fun (w : World) => (show Calls Tryd.prog 17 #[.agg (PA p), .int .i64 xa, .int .i64 yc, .int .i64 3] w fun e w' => ∃ (A : Option Addr) (d : Nat), e = .returned (.tuple #[.slice A 0 d, .int .i64 no]) ∧ Se w' A 0 (gl []) ∧ Below w.heap.size w w' from (show Calls Tryd.prog 17 #[.agg (PA p), .int .i64 xa, .int .i64 yc, .int .i64 3] w (Lst w [] no) from by have := add_any p xa yc 3 w; rw [hA] at this; exact this).mono (fun e w' h => Lst.se_ h rfl)))
      clear hA
      obtain ⟨g, r, g64, hf, hm1, hm2, _, hr, _, _, hs⟩ := rem_run hB
      have hst : (r.s g).st = 4 := by rw [hs g, if_pos rfl]
      obtain ⟨nm, hlenm⟩ : ∃ n, m.length = n := ⟨_, rfl⟩
      rw [hlenm] at hr hm1 hm2
      have HST2 := hid hst
      have hgi : (g : Int) < 64 := by omega
      have RM := hid (fun (w : World) => (show Calls Tryd.prog 19 #[.agg (PA p), .int .i64 xa, .int .i64 yc] w fun e w' => ∃ (A : Option Addr) (d : Nat), e = .returned (.tuple #[.slice A nm d, .int .i64 0]) ∧ Se w' A nm (gl m) ∧ Below w.heap.size w w' from (show Calls Tryd.prog 19 #[.agg (PA p), .int .i64 xa, .int .i64 yc] w (Lst w m 0) from by have := remove_any p ST0 xa yc w; rw [hB] at this; exact this).mono (fun e w' h => Lst.se_ h hlenm)))
      have AL2 := hid (fun A d w (h : Se w A nm (gl m)) => (show Calls Tryd.prog 27 #[.agg (PA p), .slice A nm d] w fun x w' => x = .returned (.tuple #[.agg (PA r), .int .i64 (nm : Nat), .int .i64 0]) ∧ Below w.heap.size w w' from (rall_any p (gl m) A nm d w h (by omega) 60 HQ.out (by decide)).mono (fun e w' h => by obtain ⟨q', k, er, e1, e2, e3⟩ := h; obtain ⟨rfl, rfl, rfl⟩ := all_run hr e2; exact ⟨e1, e3⟩)))
      have FD2 := hid (fun w => (show Calls Tryd.prog 28 #[.agg (PA p), .int .i64 xa, .int .i64 yc] w fun e w' => e = .returned (.tuple #[.int .i64 (g : Int), .bool true]) ∧ Below w.heap.size w w' from by have := rfind_any p xa yc w; rw [hf] at this; exact this))
      clear hr hs hf hst hlenm
      clear hB ST0
      go_enter Tryd.func4, Tryd.ntmps4
      go_wp2_with fail
      refine (known10_any ml _ HML.out).mono ?_
      rintro x w1 ⟨rfl, hB⟩
      have R1 := hid (hr1.below hB (Nat.le_refl _))
      have B1 := hid hB
      clear hr1 hB HML
      go_wp2_with fail
      refine (MK.out _ R1.out (fun ad e h => Nat.lt_of_lt_of_le (HL.out ad e h) B1.out.size)).mono ?_
      rintro x w2 ⟨rfl, hb⟩
      have S2 := hid ((SG.start B1.out).below hb)
      clear hb R1 B1 MK
      have ST := hid ((sg_new (w := w2) (T := 33)).storeA p)
      have S3 := hid (SG.put S2.out (T := 33) zPl p (by simp))
      go_upto_region 4 with ((with_reducible refine wl_id ?_); refine wl_store rfl rfl rfl rfl ST.out ?_)
      clear ST S2
      generalize (w2.alloc (.cells (PA zPl) 33)).setCells w2.heap.size 0 (PA p).toList = w3 at *
      generalize w2.heap.size = P at *
      go_wp2_with fail
      refine (Wxa.out _).mono ?_
      rintro e w' ⟨rfl, rfl⟩
      go_wp2_with fail
      refine (Wyc.out _).mono ?_
      rintro e w' ⟨rfl, rfl⟩
      go_upto_region 5 with (fail)
      have LP := (SG.get S3.out (b := P) (p := p) (by simp)).loadA
      go_wp2_with ((with_reducible refine wl_id ?_); refine wl_load rfl rfl rfl LP ?_)
      clear LP
      refine (AD.out _).mono ?_
      rintro e w4 ⟨A4, d4, rfl, _, hb⟩
      have S4 := hid (S3.out.below hb)
      clear AD
      clear hb S3
      go_upto_region 11 with (fail)
      have LP := (SG.get S4.out (b := P) (p := p) (by simp)).loadA
      go_wp2_with ((with_reducible refine wl_id ?_); refine wl_load rfl rfl rfl LP ?_)
      clear LP
      refine (RM.out _).mono ?_
      rintro e w5 ⟨A8, d8, rfl, se, hb⟩
      have S5 := hid (S4.out.below hb)
      have E8 := hid se
      clear se RM
      clear hb S4
      go_upto_region 13 with (fail)
      have LP := (SG.get S5.out (b := P) (p := p) (by simp)).loadA
      go_wp2_with ((with_reducible refine wl_id ?_); refine wl_load rfl rfl rfl LP ?_)
      clear LP
      refine (FD2.out _).mono ?_
      rintro e w6 ⟨rfl, hb⟩
      have S6 := hid (S5.out.below hb)
      have E9 := hid (Se.below E8.out hb (Nat.le_refl _))
      clear FD2 E8
      clear hb S5
      go_upto_region 14 with (fail)
      have LP := (SG.get S6.out (b := P) (p := p) (by simp)).loadA
      go_wp2_with ((with_reducible refine wl_id ?_); refine wl_load rfl rfl rfl LP ?_)
      clear LP
      refine (AL2.out _ _ _ E9.out).mono ?_
      rintro e w7 ⟨rfl, hb⟩
      have S7 := hid (S6.out.below hb)
      clear E9 AL2
      clear hb S6
      have ST := hid ((sg_new (w := w7) (T := 33)).storeA r)
      have S8 := hid (SG.put S7.out (T := 33) zPl r (by simp))
      go_upto_region 15 with ((with_reducible refine wl_id ?_); refine wl_store rfl rfl rfl rfl ST.out ?_)
      clear ST S7
      generalize (w7.alloc (.cells (PA zPl) 33)).setCells w7.heap.size 0 (PA r).toList = w8 at *
      generalize w7.heap.size = R at *
      have cr0 : w8.cell? ⟨R, 3 + g * 5, none⟩ = some (.int .i64 (r.s g).st) := (SG.get S8.out (b := R) (p := r) (by simp)).cs g 0 g64 (by omega)
      rw [HST2.out] at cr0
      have bnm : ((nm : Int) != nm) = false := by simp
      have bnm2 : (nm != nm) = false := by simp
      go_upto_region 17 with (fail)
      clear cr0
      go_upto_region 17 with (fail)
      go_cut [24, 25, 26] from 130 to 140 (fun f g h wx => ∃ (UU : Nat), f = .pointer (some ⟨UU, 0, none⟩) ∧ g = .int .i64 (N : Nat) ∧ h = .int .i64 0 ∧ PoolAt wx UU u ∧ SG W wx [(R, r), (P, p)] [])
      case first =>
        refine wp_region_held_drew (S := fun w' => SG W w' [(R, r), (P, p)] []) (by kernel_rfl) ?_ (fun hHeld => ?_)
        · exact S8.out.drew
        refine tk 0 (v := .agg (PA p)) rfl (by kernel_rfl) (by kernel_rfl) (by kernel_rfl) (fun _ _ _ h => h) rfl (fun w hSw => ex_load rfl rfl (SG.get hSw (b := P) (p := p) (by simp)).loadA) hHeld ?_; (try simp only [Act.put, List.setIfInBounds_toArray, List.set_cons_zero, List.set_cons_succ])
        refine tk 1 (v := .agg (PA p)) rfl (by kernel_rfl) (by kernel_rfl) (by kernel_rfl) (fun _ _ _ h => h) rfl (fun w hSw => ex_load rfl rfl (SG.get hSw (b := P) (p := p) (by simp)).loadA) hHeld ?_; (try simp only [Act.put, List.setIfInBounds_toArray, List.set_cons_zero, List.set_cons_succ])
        refine tk 2 (v := ?_) rfl (by kernel_rfl) (by kernel_rfl) (by kernel_rfl) (fun _ _ _ h => h) rfl ?_ hHeld ?_; rotate_left; (focus (intro w hSw; (try dsimp only at hSw);  go_simp; (try with_reducible rfl))); (try simp only [Act.put, List.setIfInBounds_toArray, List.set_cons_zero, List.set_cons_succ])
        refine twoUp 3 10 rfl rfl (by kernel_rfl) rfl rfl (fun K hK => ?_) (fun K hK => ?_)
        · go_simp
          refine (LK.out _).mono ?_
          rintro e' w' ⟨rfl, hb⟩
          try go_wp2_with fail
          refine hK.out _ _ (SG.below hHeld hb) (fun hz0 => ?_)
          clear hK hb
          try simp only [Act.put, List.setIfInBounds_toArray, List.set_cons_zero, List.set_cons_succ]
          refine twoUp 4 10 rfl rfl (by kernel_rfl) rfl rfl (fun K hK => ?_) (fun K hK => ?_)
          · go_simp
            refine (RT.out _).mono ?_
            rintro e' w' ⟨A, d, rfl, SE, hb⟩
            try go_wp2_with fail
            refine hK.out _ _ (SG.below hz0 hb) (fun hz1 => ?_)
            clear hK hb
            try simp only [Act.put, List.setIfInBounds_toArray, List.set_cons_zero, List.set_cons_succ]
            refine twoUp 5 10 rfl rfl (by kernel_rfl) rfl rfl (fun K hK => ?_) (fun K hK => ?_)
            · go_simp
              refine (AL3.out A d _ SE).mono ?_
              rintro e' w' ⟨rfl, hb⟩
              try go_wp2_with fail
              have SE := Se.below SE hb (Nat.le_refl _)
              refine hK.out _ _ (SG.below hz1 hb) (fun hz2 => ?_)
              clear hK hb
              try simp only [Act.put, List.setIfInBounds_toArray, List.set_cons_zero, List.set_cons_succ]
              refine tk 6 (v := ?_) rfl (by kernel_rfl) (by kernel_rfl) (by kernel_rfl) (fun _ _ _ h => h) rfl ?_ hz2 ?_; rotate_left; (focus (intro w hSw; (try dsimp only at hSw);  go_simp; (try with_reducible rfl))); (try simp only [Act.put, List.setIfInBounds_toArray, List.set_cons_zero, List.set_cons_succ])
              refine tk 7 (v := ?_) rfl (by kernel_rfl) (by kernel_rfl) (by kernel_rfl) (fun _ _ _ h => h) rfl ?_ hz2 ?_; rotate_left; (focus (intro w hSw; (try dsimp only at hSw);  go_simp; (try with_reducible rfl))); (try simp only [Act.put, List.setIfInBounds_toArray, List.set_cons_zero, List.set_cons_succ])
              refine tk 8 (v := ?_) rfl (by kernel_rfl) (by kernel_rfl) (by kernel_rfl) (fun _ _ _ h => h) rfl ?_ hz2 ?_; rotate_left; (focus (intro w hSw; (try dsimp only at hSw);  go_simp; (try with_reducible rfl))); (try simp only [Act.put, List.setIfInBounds_toArray, List.set_cons_zero, List.set_cons_succ])
              refine tk 9 (v := ?_) rfl (by kernel_rfl) (by kernel_rfl) (by kernel_rfl) (fun _ _ _ h => h) rfl ?_ hz2 ?_; rotate_left; (focus (intro w hSw; (try dsimp only at hSw);  go_simp; (try with_reducible rfl))); (try simp only [Act.put, List.setIfInBounds_toArray, List.set_cons_zero, List.set_cons_succ])
              refine only 10 rfl (by kernel_rfl) rfl (fun K hK => ?_)
              go_simp
              have nL := SG.ne hz2
              have lN := (SG.bl hz2).size
              have SE := Sl.alloc SE (.cells (PA zPl) 33)
              refine hK.out _ _ (SG.alloc hz2 _) (fun hz3 => ?_)
              clear hK
              try simp only [Act.put, List.setIfInBounds_toArray, List.set_cons_zero, List.set_cons_succ]
              have NN := sg_newH hz3
              generalize w'.alloc (.cells (PA zPl) 33) = w' at *
              have ST := NN.storeA u
              have NW := NN.whole u
              refine only 11 rfl (by kernel_rfl) rfl (fun K hK => ?_)
              refine ov_store rfl rfl rfl ST ?_
              refine hK.out _ _ (SG.sets hz3 nL (by simp) lN) (fun hE => ?_)
              clear hK
              try simp only [Act.put, List.setIfInBounds_toArray, List.set_cons_zero, List.set_cons_succ]
              refine tk 12 (v := ?_) rfl (by kernel_rfl) (by kernel_rfl) (by kernel_rfl) (fun _ _ _ h => h) rfl ?_ hE ?_; rotate_left; (focus (intro w hSw; (try dsimp only at hSw);  go_simp; (try with_reducible rfl))); (try simp only [Act.put, List.setIfInBounds_toArray, List.set_cons_zero, List.set_cons_succ])
              refine tk 13 (v := ?_) rfl (by kernel_rfl) (by kernel_rfl) (by kernel_rfl) (fun _ _ _ h => h) rfl ?_ hE ?_; rotate_left; (focus (intro w hSw; (try dsimp only at hSw);  go_simp; (try with_reducible rfl))); (try simp only [Act.put, List.setIfInBounds_toArray, List.set_cons_zero, List.set_cons_succ])
              refine wpAnyH_done (by kernel_rfl) ?_ _
              go_wp2_with fail
              go_meet
              exact ⟨_, rfl, rfl, rfl, NW, hE⟩
            · go_simp
              have nL := SG.ne hz1
              have lN := (SG.bl hz1).size
              have SE := Sl.alloc SE (.cells (PA zPl) 33)
              refine hK.out _ _ (SG.alloc hz1 _) (fun hz2 => ?_)
              clear hK
              try simp only [Act.put, List.setIfInBounds_toArray, List.set_cons_zero, List.set_cons_succ]
              have NN := sg_newH hz2
              generalize w'.alloc (.cells (PA zPl) 33) = w' at *
              refine only 5 rfl (by kernel_rfl) rfl (fun K hK => ?_)
              go_simp
              refine (AL3.out A d _ SE).mono ?_
              rintro e' w' ⟨rfl, hb⟩
              try go_wp2_with fail
              have SE := Se.below SE hb (Nat.le_refl _)
              have NN := NN.below hb
              refine hK.out _ _ (SG.below hz2 hb) (fun hz3 => ?_)
              clear hK hb
              try simp only [Act.put, List.setIfInBounds_toArray, List.set_cons_zero, List.set_cons_succ]
              refine tk 6 (v := ?_) rfl (by kernel_rfl) (by kernel_rfl) (by kernel_rfl) (fun _ _ _ h => h) rfl ?_ hz3 ?_; rotate_left; (focus (intro w hSw; (try dsimp only at hSw);  go_simp; (try with_reducible rfl))); (try simp only [Act.put, List.setIfInBounds_toArray, List.set_cons_zero, List.set_cons_succ])
              refine tk 7 (v := ?_) rfl (by kernel_rfl) (by kernel_rfl) (by kernel_rfl) (fun _ _ _ h => h) rfl ?_ hz3 ?_; rotate_left; (focus (intro w hSw; (try dsimp only at hSw);  go_simp; (try with_reducible rfl))); (try simp only [Act.put, List.setIfInBounds_toArray, List.set_cons_zero, List.set_cons_succ])
              refine tk 8 (v := ?_) rfl (by kernel_rfl) (by kernel_rfl) (by kernel_rfl) (fun _ _ _ h => h) rfl ?_ hz3 ?_; rotate_left; (focus (intro w hSw; (try dsimp only at hSw);  go_simp; (try with_reducible rfl))); (try simp only [Act.put, List.setIfInBounds_toArray, List.set_cons_zero, List.set_cons_succ])
              refine tk 9 (v := ?_) rfl (by kernel_rfl) (by kernel_rfl) (by kernel_rfl) (fun _ _ _ h => h) rfl ?_ hz3 ?_; rotate_left; (focus (intro w hSw; (try dsimp only at hSw);  go_simp; (try with_reducible rfl))); (try simp only [Act.put, List.setIfInBounds_toArray, List.set_cons_zero, List.set_cons_succ])
              have ST := NN.storeA u
              have NW := NN.whole u
              refine only 11 rfl (by kernel_rfl) rfl (fun K hK => ?_)
              refine ov_store rfl rfl rfl ST ?_
              refine hK.out _ _ (SG.sets hz3 nL (by simp) lN) (fun hE => ?_)
              clear hK
              try simp only [Act.put, List.setIfInBounds_toArray, List.set_cons_zero, List.set_cons_succ]
              refine tk 12 (v := ?_) rfl (by kernel_rfl) (by kernel_rfl) (by kernel_rfl) (fun _ _ _ h => h) rfl ?_ hE ?_; rotate_left; (focus (intro w hSw; (try dsimp only at hSw);  go_simp; (try with_reducible rfl))); (try simp only [Act.put, List.setIfInBounds_toArray, List.set_cons_zero, List.set_cons_succ])
              refine tk 13 (v := ?_) rfl (by kernel_rfl) (by kernel_rfl) (by kernel_rfl) (fun _ _ _ h => h) rfl ?_ hE ?_; rotate_left; (focus (intro w hSw; (try dsimp only at hSw);  go_simp; (try with_reducible rfl))); (try simp only [Act.put, List.setIfInBounds_toArray, List.set_cons_zero, List.set_cons_succ])
              refine wpAnyH_done (by kernel_rfl) ?_ _
              go_wp2_with fail
              go_meet
              exact ⟨_, rfl, rfl, rfl, NW, hE⟩
          · go_simp
            have nL := SG.ne hz0
            have lN := (SG.bl hz0).size
            refine hK.out _ _ (SG.alloc hz0 _) (fun hz1 => ?_)
            clear hK
            try simp only [Act.put, List.setIfInBounds_toArray, List.set_cons_zero, List.set_cons_succ]
            have NN := sg_newH hz1
            generalize w'.alloc (.cells (PA zPl) 33) = w' at *
            refine only 4 rfl (by kernel_rfl) rfl (fun K hK => ?_)
            go_simp
            refine (RT.out _).mono ?_
            rintro e' w' ⟨A, d, rfl, SE, hb⟩
            try go_wp2_with fail
            have NN := NN.below hb
            refine hK.out _ _ (SG.below hz1 hb) (fun hz2 => ?_)
            clear hK hb
            try simp only [Act.put, List.setIfInBounds_toArray, List.set_cons_zero, List.set_cons_succ]
            refine only 5 rfl (by kernel_rfl) rfl (fun K hK => ?_)
            go_simp
            refine (AL3.out A d _ SE).mono ?_
            rintro e' w' ⟨rfl, hb⟩
            try go_wp2_with fail
            have NN := NN.below hb
            have SE := Se.below SE hb (Nat.le_refl _)
            refine hK.out _ _ (SG.below hz2 hb) (fun hz3 => ?_)
            clear hK hb
            try simp only [Act.put, List.setIfInBounds_toArray, List.set_cons_zero, List.set_cons_succ]
            refine tk 6 (v := ?_) rfl (by kernel_rfl) (by kernel_rfl) (by kernel_rfl) (fun _ _ _ h => h) rfl ?_ hz3 ?_; rotate_left; (focus (intro w hSw; (try dsimp only at hSw);  go_simp; (try with_reducible rfl))); (try simp only [Act.put, List.setIfInBounds_toArray, List.set_cons_zero, List.set_cons_succ])
            refine tk 7 (v := ?_) rfl (by kernel_rfl) (by kernel_rfl) (by kernel_rfl) (fun _ _ _ h => h) rfl ?_ hz3 ?_; rotate_left; (focus (intro w hSw; (try dsimp only at hSw);  go_simp; (try with_reducible rfl))); (try simp only [Act.put, List.setIfInBounds_toArray, List.set_cons_zero, List.set_cons_succ])
            refine tk 8 (v := ?_) rfl (by kernel_rfl) (by kernel_rfl) (by kernel_rfl) (fun _ _ _ h => h) rfl ?_ hz3 ?_; rotate_left; (focus (intro w hSw; (try dsimp only at hSw);  go_simp; (try with_reducible rfl))); (try simp only [Act.put, List.setIfInBounds_toArray, List.set_cons_zero, List.set_cons_succ])
            refine tk 9 (v := ?_) rfl (by kernel_rfl) (by kernel_rfl) (by kernel_rfl) (fun _ _ _ h => h) rfl ?_ hz3 ?_; rotate_left; (focus (intro w hSw; (try dsimp only at hSw);  go_simp; (try with_reducible rfl))); (try simp only [Act.put, List.setIfInBounds_toArray, List.set_cons_zero, List.set_cons_succ])
            have ST := NN.storeA u
            have NW := NN.whole u
            refine only 11 rfl (by kernel_rfl) rfl (fun K hK => ?_)
            refine ov_store rfl rfl rfl ST ?_
            refine hK.out _ _ (SG.sets hz3 nL (by simp) lN) (fun hE => ?_)
            clear hK
            try simp only [Act.put, List.setIfInBounds_toArray, List.set_cons_zero, List.set_cons_succ]
            refine tk 12 (v := ?_) rfl (by kernel_rfl) (by kernel_rfl) (by kernel_rfl) (fun _ _ _ h => h) rfl ?_ hE ?_; rotate_left; (focus (intro w hSw; (try dsimp only at hSw);  go_simp; (try with_reducible rfl))); (try simp only [Act.put, List.setIfInBounds_toArray, List.set_cons_zero, List.set_cons_succ])
            refine tk 13 (v := ?_) rfl (by kernel_rfl) (by kernel_rfl) (by kernel_rfl) (fun _ _ _ h => h) rfl ?_ hE ?_; rotate_left; (focus (intro w hSw; (try dsimp only at hSw);  go_simp; (try with_reducible rfl))); (try simp only [Act.put, List.setIfInBounds_toArray, List.set_cons_zero, List.set_cons_succ])
            refine wpAnyH_done (by kernel_rfl) ?_ _
            go_wp2_with fail
            go_meet
            exact ⟨_, rfl, rfl, rfl, NW, hE⟩
        · go_simp
          have nL := SG.ne hHeld
          have lN := (SG.bl hHeld).size
          refine hK.out _ _ (SG.alloc hHeld _) (fun hz0 => ?_)
          clear hK
          try simp only [Act.put, List.setIfInBounds_toArray, List.set_cons_zero, List.set_cons_succ]
          have NN := sg_newHD hz0
          generalize (w8.alloc (.cells (PA zPl) 33)).drew = w' at *
          refine only 3 rfl (by kernel_rfl) rfl (fun K hK => ?_)
          go_simp
          refine (LK.out _).mono ?_
          rintro e' w' ⟨rfl, hb⟩
          try go_wp2_with fail
          have NN := NN.below hb
          refine hK.out _ _ (SG.below hz0 hb) (fun hz1 => ?_)
          clear hK hb
          try simp only [Act.put, List.setIfInBounds_toArray, List.set_cons_zero, List.set_cons_succ]
          refine only 4 rfl (by kernel_rfl) rfl (fun K hK => ?_)
          go_simp
          refine (RT.out _).mono ?_
          rintro e' w' ⟨A, d, rfl, SE, hb⟩
          try go_wp2_with fail
          have NN := NN.below hb
          refine hK.out _ _ (SG.below hz1 hb) (fun hz2 => ?_)
          clear hK hb
          try simp only [Act.put, List.setIfInBounds_toArray, List.set_cons_zero, List.set_cons_succ]
          refine only 5 rfl (by kernel_rfl) rfl (fun K hK => ?_)
          go_simp
          refine (AL3.out A d _ SE).mono ?_
          rintro e' w' ⟨rfl, hb⟩
          try go_wp2_with fail
          have NN := NN.below hb
          have SE := Se.below SE hb (Nat.le_refl _)
          refine hK.out _ _ (SG.below hz2 hb) (fun hz3 => ?_)
          clear hK hb
          try simp only [Act.put, List.setIfInBounds_toArray, List.set_cons_zero, List.set_cons_succ]
          refine tk 6 (v := ?_) rfl (by kernel_rfl) (by kernel_rfl) (by kernel_rfl) (fun _ _ _ h => h) rfl ?_ hz3 ?_; rotate_left; (focus (intro w hSw; (try dsimp only at hSw);  go_simp; (try with_reducible rfl))); (try simp only [Act.put, List.setIfInBounds_toArray, List.set_cons_zero, List.set_cons_succ])
          refine tk 7 (v := ?_) rfl (by kernel_rfl) (by kernel_rfl) (by kernel_rfl) (fun _ _ _ h => h) rfl ?_ hz3 ?_; rotate_left; (focus (intro w hSw; (try dsimp only at hSw);  go_simp; (try with_reducible rfl))); (try simp only [Act.put, List.setIfInBounds_toArray, List.set_cons_zero, List.set_cons_succ])
          refine tk 8 (v := ?_) rfl (by kernel_rfl) (by kernel_rfl) (by kernel_rfl) (fun _ _ _ h => h) rfl ?_ hz3 ?_; rotate_left; (focus (intro w hSw; (try dsimp only at hSw);  go_simp; (try with_reducible rfl))); (try simp only [Act.put, List.setIfInBounds_toArray, List.set_cons_zero, List.set_cons_succ])
          refine tk 9 (v := ?_) rfl (by kernel_rfl) (by kernel_rfl) (by kernel_rfl) (fun _ _ _ h => h) rfl ?_ hz3 ?_; rotate_left; (focus (intro w hSw; (try dsimp only at hSw);  go_simp; (try with_reducible rfl))); (try simp only [Act.put, List.setIfInBounds_toArray, List.set_cons_zero, List.set_cons_succ])
          have ST := NN.storeA u
          have NW := NN.whole u
          refine only 11 rfl (by kernel_rfl) rfl (fun K hK => ?_)
          refine ov_store rfl rfl rfl ST ?_
          refine hK.out _ _ (SG.sets hz3 nL (by simp) lN) (fun hE => ?_)
          clear hK
          try simp only [Act.put, List.setIfInBounds_toArray, List.set_cons_zero, List.set_cons_succ]
          refine tk 12 (v := ?_) rfl (by kernel_rfl) (by kernel_rfl) (by kernel_rfl) (fun _ _ _ h => h) rfl ?_ hE ?_; rotate_left; (focus (intro w hSw; (try dsimp only at hSw);  go_simp; (try with_reducible rfl))); (try simp only [Act.put, List.setIfInBounds_toArray, List.set_cons_zero, List.set_cons_succ])
          refine tk 13 (v := ?_) rfl (by kernel_rfl) (by kernel_rfl) (by kernel_rfl) (fun _ _ _ h => h) rfl ?_ hE ?_; rotate_left; (focus (intro w hSw; (try dsimp only at hSw);  go_simp; (try with_reducible rfl))); (try simp only [Act.put, List.setIfInBounds_toArray, List.set_cons_zero, List.set_cons_succ])
          refine wpAnyH_done (by kernel_rfl) ?_ _
          go_wp2_with fail
          go_meet
          exact ⟨_, rfl, rfl, rfl, NW, hE⟩
      case rest =>
        obtain ⟨U, rfl, rfl, rfl, hU, hS⟩ := hcut
        have S50 := hid (hS.cons hU)
        clear hS hU S8
        have n1_ : ¬ (N : Int) < 1 := by omega
        have n2_ : decide (N < 1) = false := by simp; omega
        have n3_ : ¬ N < 1 := by omega
        have bre : ((re + 1) != (re + 1)) = false := by simp
        go_upto_region 18 with (fail)
        refine wp_region_held_drew (S := fun w' => SG W w' ((U, u) :: [(R, r), (P, p)]) []) (by kernel_rfl) ?_ (fun hHeld => ?_)
        · exact S50.out.drew
        refine tk 0 (v := ?_) rfl (by kernel_rfl) (by kernel_rfl) (by kernel_rfl) (fun _ _ _ h => h) rfl ?_ hHeld ?_; rotate_left; (focus (intro w hSw; (try dsimp only at hSw);  go_simp; (try with_reducible rfl))); (try simp only [Act.put, List.setIfInBounds_toArray, List.set_cons_zero, List.set_cons_succ])
        refine tk 1 (v := ?_) rfl (by kernel_rfl) (by kernel_rfl) (by kernel_rfl) (fun _ _ _ h => h) rfl ?_ hHeld ?_; rotate_left; (focus (intro w hSw; (try dsimp only at hSw);  go_simp; (try with_reducible rfl))); (try simp only [Act.put, List.setIfInBounds_toArray, List.set_cons_zero, List.set_cons_succ])
        refine tk 2 (v := ?_) rfl (by kernel_rfl) (by kernel_rfl) (by kernel_rfl) (fun _ _ _ h => h) rfl ?_ hHeld ?_; rotate_left; (focus (intro w hSw; (try dsimp only at hSw);  go_simp; (try with_reducible rfl))); (try simp only [Act.put, List.setIfInBounds_toArray, List.set_cons_zero, List.set_cons_succ])
        refine tk 3 (v := ?_) rfl (by kernel_rfl) (by kernel_rfl) (by kernel_rfl) (fun _ _ _ h => h) rfl ?_ hHeld ?_; rotate_left; (focus (intro w hSw; (try dsimp only at hSw);  go_simp; (try with_reducible rfl))); (try simp only [Act.put, List.setIfInBounds_toArray, List.set_cons_zero, List.set_cons_succ])
        refine tk 4 (v := ?_) rfl (by kernel_rfl) (by kernel_rfl) (by kernel_rfl) (fun _ _ _ h => h) rfl ?_ hHeld ?_; rotate_left; (focus (intro w hSw; (try dsimp only at hSw);  go_simp; (try with_reducible rfl))); (try simp only [Act.put, List.setIfInBounds_toArray, List.set_cons_zero, List.set_cons_succ])
        refine tk 5 (v := ?_) rfl (by kernel_rfl) (by kernel_rfl) (by kernel_rfl) (fun _ _ _ h => h) rfl ?_ hHeld ?_; rotate_left; (focus (intro w hSw; (try dsimp only at hSw);  go_simp; (try with_reducible rfl))); (try simp only [Act.put, List.setIfInBounds_toArray, List.set_cons_zero, List.set_cons_succ])
        refine tk 6 (v := ?_) rfl (by kernel_rfl) (by kernel_rfl) (by kernel_rfl) (fun _ _ _ h => h) rfl ?_ hHeld ?_; rotate_left; (focus (intro w hSw; (try dsimp only at hSw);  go_simp; (try with_reducible rfl))); (try simp only [Act.put, List.setIfInBounds_toArray, List.set_cons_zero, List.set_cons_succ])
        refine tk 7 (v := ?_) rfl (by kernel_rfl) (by kernel_rfl) (by kernel_rfl) (fun _ _ _ h => h) rfl ?_ hHeld ?_; rotate_left; (focus (intro w hSw; (try dsimp only at hSw);  go_simp; (try with_reducible rfl))); (try simp only [Act.put, List.setIfInBounds_toArray, List.set_cons_zero, List.set_cons_succ])
        refine tk 8 (v := ?_) rfl (by kernel_rfl) (by kernel_rfl) (by kernel_rfl) (fun _ _ _ h => h) rfl ?_ hHeld ?_; rotate_left; (focus (intro w hSw; (try dsimp only at hSw);  go_simp; (try with_reducible rfl))); (try simp only [Act.put, List.setIfInBounds_toArray, List.set_cons_zero, List.set_cons_succ])
        refine tk 9 (v := .agg #[.int .u64 ka, .int .u64 kb]) rfl (by kernel_rfl) (by kernel_rfl) (by kernel_rfl) (fun _ _ _ h => h) rfl (fun w (hSw : SG W w ((U, u) :: [(R, r), (P, p)]) []) => ex_load rfl rfl (PoolAt.loadN_ (SG.get hSw (b := U) (p := u) (by simp)) HUN.out)) hHeld ?_; (try simp only [Act.put, List.setIfInBounds_toArray, List.set_cons_zero, List.set_cons_succ])
        refine tk 10 (v := ?_) rfl (by kernel_rfl) (by kernel_rfl) (by kernel_rfl) (fun _ _ _ h => h) rfl ?_ hHeld ?_; rotate_left; (focus (intro w hSw; (try dsimp only at hSw);  go_simp; (try with_reducible rfl))); (try simp only [Act.put, List.setIfInBounds_toArray, List.set_cons_zero, List.set_cons_succ])
        refine only 11 rfl (by kernel_rfl) rfl (fun K hK => ?_)
        go_simp
        refine (LK.out _).mono ?_
        rintro e' w' ⟨rfl, hb⟩
        try go_wp2_with fail
        refine hK.out _ _ (SG.below hHeld hb) (fun h2 => ?_)
        clear hK hb
        try simp only [Act.put, List.setIfInBounds_toArray, List.set_cons_zero, List.set_cons_succ]
        refine tk 12 (v := ?_) rfl (by kernel_rfl) (by kernel_rfl) (by kernel_rfl) (fun _ _ _ h => h) rfl ?_ h2 ?_; rotate_left; (focus (intro w hSw; (try dsimp only at hSw);  go_simp; (try with_reducible rfl))); (try simp only [Act.put, List.setIfInBounds_toArray, List.set_cons_zero, List.set_cons_succ])
        refine tk 13 (v := ?_) rfl (by kernel_rfl) (by kernel_rfl) (by kernel_rfl) (fun _ _ _ h => h) rfl ?_ h2 ?_; rotate_left; (focus (intro w hSw; (try dsimp only at hSw);  go_simp; (try with_reducible rfl))); (try simp only [Act.put, List.setIfInBounds_toArray, List.set_cons_zero, List.set_cons_succ])
        refine tk 14 (v := ?_) rfl (by kernel_rfl) (by kernel_rfl) (by kernel_rfl) (fun _ _ _ h => h) rfl ?_ h2 ?_; rotate_left; (focus (intro w hSw; (try dsimp only at hSw);  go_simp; (try with_reducible rfl))); (try simp only [Act.put, List.setIfInBounds_toArray, List.set_cons_zero, List.set_cons_succ])
        refine tk 15 (v := ?_) rfl (by kernel_rfl) (by kernel_rfl) (by kernel_rfl) (fun _ _ _ h => h) rfl ?_ h2 ?_; rotate_left; (focus (intro w hSw; (try dsimp only at hSw);  go_simp; (try with_reducible rfl))); (try simp only [Act.put, List.setIfInBounds_toArray, List.set_cons_zero, List.set_cons_succ])
        refine tk 16 (v := ?_) rfl (by kernel_rfl) (by kernel_rfl) (by kernel_rfl) (fun _ _ _ h => h) rfl ?_ h2 ?_; rotate_left; (focus (intro w hSw; (try dsimp only at hSw);  go_simp; (try with_reducible rfl))); (try simp only [Act.put, List.setIfInBounds_toArray, List.set_cons_zero, List.set_cons_succ])
        refine tk 17 (v := ?_) rfl (by kernel_rfl) (by kernel_rfl) (by kernel_rfl) (fun _ _ _ h => h) rfl ?_ h2 ?_; rotate_left; (focus (intro w hSw; (try dsimp only at hSw); have z0 : w.cell? ⟨U, 323, none⟩ = some (.int .i64 (re + 1)) := PoolAt.epo_ (SG.get hSw (b := U) (p := u) (by simp)) HUE.out; go_simp; (try with_reducible rfl))); (try simp only [Act.put, List.setIfInBounds_toArray, List.set_cons_zero, List.set_cons_succ])
        refine tk 18 (v := ?_) rfl (by kernel_rfl) (by kernel_rfl) (by kernel_rfl) (fun _ _ _ h => h) rfl ?_ h2 ?_; rotate_left; (focus (intro w hSw; (try dsimp only at hSw);  go_simp; (try with_reducible rfl))); (try simp only [Act.put, List.setIfInBounds_toArray, List.set_cons_zero, List.set_cons_succ])
        refine tk 19 (v := ?_) rfl (by kernel_rfl) (by kernel_rfl) (by kernel_rfl) (fun _ _ _ h => h) rfl ?_ h2 ?_; rotate_left; (focus (intro w hSw; (try dsimp only at hSw);  go_simp; (try with_reducible rfl))); (try simp only [Act.put, List.setIfInBounds_toArray, List.set_cons_zero, List.set_cons_succ])
        refine tk 20 (v := ?_) rfl (by kernel_rfl) (by kernel_rfl) (by kernel_rfl) (fun _ _ _ h => h) rfl ?_ h2 ?_; rotate_left; (focus (intro w hSw; (try dsimp only at hSw); have z1 : w.cell? ⟨P, 323, none⟩ = some (.int .i64 re) := PoolAt.epo_ (SG.get hSw (b := P) (p := p) (by simp)) HRE.out.symm; go_simp; (try with_reducible rfl))); (try simp only [Act.put, List.setIfInBounds_toArray, List.set_cons_zero, List.set_cons_succ])
        refine tk 21 (v := ?_) rfl (by kernel_rfl) (by kernel_rfl) (by kernel_rfl) (fun _ _ _ h => h) rfl ?_ h2 ?_; rotate_left; (focus (intro w hSw; (try dsimp only at hSw);  go_simp; (try with_reducible rfl))); (try simp only [Act.put, List.setIfInBounds_toArray, List.set_cons_zero, List.set_cons_succ])
        refine tk 22 (v := ?_) rfl (by kernel_rfl) (by kernel_rfl) (by kernel_rfl) (fun _ _ _ h => h) rfl ?_ h2 ?_; rotate_left; (focus (intro w hSw; (try dsimp only at hSw);  go_simp; (try with_reducible rfl))); (try simp only [Act.put, List.setIfInBounds_toArray, List.set_cons_zero, List.set_cons_succ])
        refine tk 23 (v := ?_) rfl (by kernel_rfl) (by kernel_rfl) (by kernel_rfl) (fun _ _ _ h => h) rfl ?_ h2 ?_; rotate_left; (focus (intro w hSw; (try dsimp only at hSw);  go_simp; (try with_reducible rfl))); (try simp only [Act.put, List.setIfInBounds_toArray, List.set_cons_zero, List.set_cons_succ])
        refine wpAnyH_done (by kernel_rfl) ?_ _
        have S51 := hid h2
        clear h2 hHeld S50
        go_wp2_with fail
        go_loopw [27] (fun i wr => ∃ j : Nat, j ≤ 64 ∧ i = .int .i64 (j : Int) ∧ SG W wr ((U, u) :: [(R, r), (P, p)]) []) (fun i _ => 64 - (intOf i).toNat)
        case atStart => exact ⟨0, by omega, rfl, S51.out⟩
        case round =>
          clear S51
          obtain ⟨j, hj, rfl, hS⟩ := hrel
          have S52 := hid hS
          clear hS
          by_cases hlt : j < 64
          · have i0 : (0 : Int) ≤ j := by omega
            have i1 : (j : Int) < 64 := by omega
            have PU := SG.get S52.out (b := U) (p := u) (by simp)
            have ce : wr.cell? ⟨U, 323, none⟩ = some (.int .i64 (re + 1)) := PoolAt.epo_ PU HUE.out
            have c0 : wr.cell? ⟨U, 3 + j * 5, none⟩ = some (.int .i64 (u.s j).st) := PU.cs j 0 hlt (by omega)
            have c4 : wr.cell? ⟨U, 3 + j * 5 + 4, none⟩ = some (.int .i64 (u.s j).si) := PU.cs j 4 hlt (by omega)
            clear PU
            have hd := HUD.out j hlt
            rw [HUE.out] at hd
            have hsi := HPU.out.2.2 j hlt
            obtain ⟨hs1, hs2⟩ := hsi
            obtain ⟨st, hst⟩ : ∃ x, x = (u.s j).st := ⟨_, rfl⟩
            obtain ⟨si, hsi⟩ : ∃ x, x = (u.s j).si := ⟨_, rfl⟩
            rw [← hst] at c0 hd
            rw [← hsi] at c4 hs1 hs2 hd
            clear hst hsi
            have w3_ : IntKind.i64.wrap (si + 3) = si + 3 := IntWalk.i64_in _ (by omega)
            cases h4 : (st == 4)
            · clear hd
              go_wp2_with fail
              go_quiet (fail)
              go_wp2_with fail
              go_roundw
              case rel => exact ⟨j + 1, by omega, by go_num, SGd S52.out _⟩
              case measure => simp [intOf]; omega
            · have h5 : ¬ si + 3 ≤ re + 1 := by rcases hd with hd | hd; exact absurd (by simpa using h4) hd; omega
              clear hd
              go_wp2_with fail
              go_quiet (fail)
              go_wp2_with fail
              go_roundw
              case rel => exact ⟨j + 1, by omega, by go_num, SGd S52.out _⟩
              case measure => simp [intOf]; omega
          · have e : j = 64 := by omega
            subst e
            go_wp2_with fail
            go_ret
            exact ⟨rfl, S52.out.bl⟩
    · have AD := hid (fun (w : World) => (show Calls Tryd.prog 17 #[.agg (PA p), .int .i64 xa, .int .i64 yc, .int .i64 3] w fun e w' => ∃ (A : Option Addr) (d : Nat), e = .returned (.tuple #[.slice A 0 d, .int .i64 no]) ∧ Se w' A 0 (gl []) ∧ Below w.heap.size w w' from (show Calls Tryd.prog 17 #[.agg (PA p), .int .i64 xa, .int .i64 yc, .int .i64 3] w (Lst w [] no) from by have := add_any p xa yc 3 w; rw [hA] at this; exact this).mono (fun e w' h => Lst.se_ h rfl)))
      clear hA
      have RM := hid (fun (w : World) => (show Calls Tryd.prog 19 #[.agg (PA p), .int .i64 xa, .int .i64 yc] w fun e w' => ∃ (A : Option Addr) (d : Nat), e = .returned (.tuple #[.slice A 0 d, .int .i64 9]) ∧ Se w' A 0 (gl []) ∧ Below w.heap.size w w' from (show Calls Tryd.prog 19 #[.agg (PA p), .int .i64 xa, .int .i64 yc] w (Lst w [] 9) from by have := remove_any p ST0 xa yc w; rw [hB] at this; exact this).mono (fun e w' h => Lst.se_ h rfl)))
      clear hB ST0
      go_enter Tryd.func4, Tryd.ntmps4
      go_wp2_with fail
      refine (known10_any ml _ HML.out).mono ?_
      rintro x w1 ⟨rfl, hB⟩
      have R1 := hid (hr1.below hB (Nat.le_refl _))
      have B1 := hid hB
      clear hr1 hB HML
      go_wp2_with fail
      refine (MK.out _ R1.out (fun ad e h => Nat.lt_of_lt_of_le (HL.out ad e h) B1.out.size)).mono ?_
      rintro x w2 ⟨rfl, hb⟩
      have S2 := hid ((SG.start B1.out).below hb)
      clear hb R1 B1 MK
      have ST := hid ((sg_new (w := w2) (T := 33)).storeA p)
      have S3 := hid (SG.put S2.out (T := 33) zPl p (by simp))
      go_upto_region 4 with ((with_reducible refine wl_id ?_); refine wl_store rfl rfl rfl rfl ST.out ?_)
      clear ST S2
      generalize (w2.alloc (.cells (PA zPl) 33)).setCells w2.heap.size 0 (PA p).toList = w3 at *
      generalize w2.heap.size = P at *
      go_wp2_with fail
      refine (Wxa.out _).mono ?_
      rintro e w' ⟨rfl, rfl⟩
      go_wp2_with fail
      refine (Wyc.out _).mono ?_
      rintro e w' ⟨rfl, rfl⟩
      go_upto_region 5 with (fail)
      have LP := (SG.get S3.out (b := P) (p := p) (by simp)).loadA
      go_wp2_with ((with_reducible refine wl_id ?_); refine wl_load rfl rfl rfl LP ?_)
      clear LP
      refine (AD.out _).mono ?_
      rintro e w4 ⟨A4, d4, rfl, _, hb⟩
      have S4 := hid (S3.out.below hb)
      clear AD
      clear hb S3
      go_upto_region 11 with (fail)
      have LP := (SG.get S4.out (b := P) (p := p) (by simp)).loadA
      go_wp2_with ((with_reducible refine wl_id ?_); refine wl_load rfl rfl rfl LP ?_)
      clear LP
      refine (RM.out _).mono ?_
      rintro e w5 ⟨A8, d8, rfl, _, hb⟩
      have S5 := hid (S4.out.below hb)
      clear RM
      clear hb S4
      go_upto_region 17 with (fail)
      go_cut [24, 25, 26] from 130 to 140 (fun f g h wx => ∃ (UU : Nat), f = .pointer (some ⟨UU, 0, none⟩) ∧ g = .int .i64 (N : Nat) ∧ h = .int .i64 0 ∧ PoolAt wx UU u ∧ SG W wx [(P, p)] [])
      case first =>
        refine wp_region_held_drew (S := fun w' => SG W w' [(P, p)] []) (by kernel_rfl) ?_ (fun hHeld => ?_)
        · exact S5.out.drew
        refine tk 0 (v := .agg (PA p)) rfl (by kernel_rfl) (by kernel_rfl) (by kernel_rfl) (fun _ _ _ h => h) rfl (fun w hSw => ex_load rfl rfl (SG.get hSw (b := P) (p := p) (by simp)).loadA) hHeld ?_; (try simp only [Act.put, List.setIfInBounds_toArray, List.set_cons_zero, List.set_cons_succ])
        refine tk 1 (v := .agg (PA p)) rfl (by kernel_rfl) (by kernel_rfl) (by kernel_rfl) (fun _ _ _ h => h) rfl (fun w hSw => ex_load rfl rfl (SG.get hSw (b := P) (p := p) (by simp)).loadA) hHeld ?_; (try simp only [Act.put, List.setIfInBounds_toArray, List.set_cons_zero, List.set_cons_succ])
        refine tk 2 (v := ?_) rfl (by kernel_rfl) (by kernel_rfl) (by kernel_rfl) (fun _ _ _ h => h) rfl ?_ hHeld ?_; rotate_left; (focus (intro w hSw; (try dsimp only at hSw);  go_simp; (try with_reducible rfl))); (try simp only [Act.put, List.setIfInBounds_toArray, List.set_cons_zero, List.set_cons_succ])
        refine twoUp 3 10 rfl rfl (by kernel_rfl) rfl rfl (fun K hK => ?_) (fun K hK => ?_)
        · go_simp
          refine (LK.out _).mono ?_
          rintro e' w' ⟨rfl, hb⟩
          try go_wp2_with fail
          refine hK.out _ _ (SG.below hHeld hb) (fun hz0 => ?_)
          clear hK hb
          try simp only [Act.put, List.setIfInBounds_toArray, List.set_cons_zero, List.set_cons_succ]
          refine twoUp 4 10 rfl rfl (by kernel_rfl) rfl rfl (fun K hK => ?_) (fun K hK => ?_)
          · go_simp
            refine (RT.out _).mono ?_
            rintro e' w' ⟨A, d, rfl, SE, hb⟩
            try go_wp2_with fail
            refine hK.out _ _ (SG.below hz0 hb) (fun hz1 => ?_)
            clear hK hb
            try simp only [Act.put, List.setIfInBounds_toArray, List.set_cons_zero, List.set_cons_succ]
            refine twoUp 5 10 rfl rfl (by kernel_rfl) rfl rfl (fun K hK => ?_) (fun K hK => ?_)
            · go_simp
              refine (AL3.out A d _ SE).mono ?_
              rintro e' w' ⟨rfl, hb⟩
              try go_wp2_with fail
              have SE := Se.below SE hb (Nat.le_refl _)
              refine hK.out _ _ (SG.below hz1 hb) (fun hz2 => ?_)
              clear hK hb
              try simp only [Act.put, List.setIfInBounds_toArray, List.set_cons_zero, List.set_cons_succ]
              refine tk 6 (v := ?_) rfl (by kernel_rfl) (by kernel_rfl) (by kernel_rfl) (fun _ _ _ h => h) rfl ?_ hz2 ?_; rotate_left; (focus (intro w hSw; (try dsimp only at hSw);  go_simp; (try with_reducible rfl))); (try simp only [Act.put, List.setIfInBounds_toArray, List.set_cons_zero, List.set_cons_succ])
              refine tk 7 (v := ?_) rfl (by kernel_rfl) (by kernel_rfl) (by kernel_rfl) (fun _ _ _ h => h) rfl ?_ hz2 ?_; rotate_left; (focus (intro w hSw; (try dsimp only at hSw);  go_simp; (try with_reducible rfl))); (try simp only [Act.put, List.setIfInBounds_toArray, List.set_cons_zero, List.set_cons_succ])
              refine tk 8 (v := ?_) rfl (by kernel_rfl) (by kernel_rfl) (by kernel_rfl) (fun _ _ _ h => h) rfl ?_ hz2 ?_; rotate_left; (focus (intro w hSw; (try dsimp only at hSw);  go_simp; (try with_reducible rfl))); (try simp only [Act.put, List.setIfInBounds_toArray, List.set_cons_zero, List.set_cons_succ])
              refine tk 9 (v := ?_) rfl (by kernel_rfl) (by kernel_rfl) (by kernel_rfl) (fun _ _ _ h => h) rfl ?_ hz2 ?_; rotate_left; (focus (intro w hSw; (try dsimp only at hSw);  go_simp; (try with_reducible rfl))); (try simp only [Act.put, List.setIfInBounds_toArray, List.set_cons_zero, List.set_cons_succ])
              refine only 10 rfl (by kernel_rfl) rfl (fun K hK => ?_)
              go_simp
              have nL := SG.ne hz2
              have lN := (SG.bl hz2).size
              have SE := Sl.alloc SE (.cells (PA zPl) 33)
              refine hK.out _ _ (SG.alloc hz2 _) (fun hz3 => ?_)
              clear hK
              try simp only [Act.put, List.setIfInBounds_toArray, List.set_cons_zero, List.set_cons_succ]
              have NN := sg_newH hz3
              generalize w'.alloc (.cells (PA zPl) 33) = w' at *
              have ST := NN.storeA u
              have NW := NN.whole u
              refine only 11 rfl (by kernel_rfl) rfl (fun K hK => ?_)
              refine ov_store rfl rfl rfl ST ?_
              refine hK.out _ _ (SG.sets hz3 nL (by simp) lN) (fun hE => ?_)
              clear hK
              try simp only [Act.put, List.setIfInBounds_toArray, List.set_cons_zero, List.set_cons_succ]
              refine tk 12 (v := ?_) rfl (by kernel_rfl) (by kernel_rfl) (by kernel_rfl) (fun _ _ _ h => h) rfl ?_ hE ?_; rotate_left; (focus (intro w hSw; (try dsimp only at hSw);  go_simp; (try with_reducible rfl))); (try simp only [Act.put, List.setIfInBounds_toArray, List.set_cons_zero, List.set_cons_succ])
              refine tk 13 (v := ?_) rfl (by kernel_rfl) (by kernel_rfl) (by kernel_rfl) (fun _ _ _ h => h) rfl ?_ hE ?_; rotate_left; (focus (intro w hSw; (try dsimp only at hSw);  go_simp; (try with_reducible rfl))); (try simp only [Act.put, List.setIfInBounds_toArray, List.set_cons_zero, List.set_cons_succ])
              refine wpAnyH_done (by kernel_rfl) ?_ _
              go_wp2_with fail
              go_meet
              exact ⟨_, rfl, rfl, rfl, NW, hE⟩
            · go_simp
              have nL := SG.ne hz1
              have lN := (SG.bl hz1).size
              have SE := Sl.alloc SE (.cells (PA zPl) 33)
              refine hK.out _ _ (SG.alloc hz1 _) (fun hz2 => ?_)
              clear hK
              try simp only [Act.put, List.setIfInBounds_toArray, List.set_cons_zero, List.set_cons_succ]
              have NN := sg_newH hz2
              generalize w'.alloc (.cells (PA zPl) 33) = w' at *
              refine only 5 rfl (by kernel_rfl) rfl (fun K hK => ?_)
              go_simp
              refine (AL3.out A d _ SE).mono ?_
              rintro e' w' ⟨rfl, hb⟩
              try go_wp2_with fail
              have SE := Se.below SE hb (Nat.le_refl _)
              have NN := NN.below hb
              refine hK.out _ _ (SG.below hz2 hb) (fun hz3 => ?_)
              clear hK hb
              try simp only [Act.put, List.setIfInBounds_toArray, List.set_cons_zero, List.set_cons_succ]
              refine tk 6 (v := ?_) rfl (by kernel_rfl) (by kernel_rfl) (by kernel_rfl) (fun _ _ _ h => h) rfl ?_ hz3 ?_; rotate_left; (focus (intro w hSw; (try dsimp only at hSw);  go_simp; (try with_reducible rfl))); (try simp only [Act.put, List.setIfInBounds_toArray, List.set_cons_zero, List.set_cons_succ])
              refine tk 7 (v := ?_) rfl (by kernel_rfl) (by kernel_rfl) (by kernel_rfl) (fun _ _ _ h => h) rfl ?_ hz3 ?_; rotate_left; (focus (intro w hSw; (try dsimp only at hSw);  go_simp; (try with_reducible rfl))); (try simp only [Act.put, List.setIfInBounds_toArray, List.set_cons_zero, List.set_cons_succ])
              refine tk 8 (v := ?_) rfl (by kernel_rfl) (by kernel_rfl) (by kernel_rfl) (fun _ _ _ h => h) rfl ?_ hz3 ?_; rotate_left; (focus (intro w hSw; (try dsimp only at hSw);  go_simp; (try with_reducible rfl))); (try simp only [Act.put, List.setIfInBounds_toArray, List.set_cons_zero, List.set_cons_succ])
              refine tk 9 (v := ?_) rfl (by kernel_rfl) (by kernel_rfl) (by kernel_rfl) (fun _ _ _ h => h) rfl ?_ hz3 ?_; rotate_left; (focus (intro w hSw; (try dsimp only at hSw);  go_simp; (try with_reducible rfl))); (try simp only [Act.put, List.setIfInBounds_toArray, List.set_cons_zero, List.set_cons_succ])
              have ST := NN.storeA u
              have NW := NN.whole u
              refine only 11 rfl (by kernel_rfl) rfl (fun K hK => ?_)
              refine ov_store rfl rfl rfl ST ?_
              refine hK.out _ _ (SG.sets hz3 nL (by simp) lN) (fun hE => ?_)
              clear hK
              try simp only [Act.put, List.setIfInBounds_toArray, List.set_cons_zero, List.set_cons_succ]
              refine tk 12 (v := ?_) rfl (by kernel_rfl) (by kernel_rfl) (by kernel_rfl) (fun _ _ _ h => h) rfl ?_ hE ?_; rotate_left; (focus (intro w hSw; (try dsimp only at hSw);  go_simp; (try with_reducible rfl))); (try simp only [Act.put, List.setIfInBounds_toArray, List.set_cons_zero, List.set_cons_succ])
              refine tk 13 (v := ?_) rfl (by kernel_rfl) (by kernel_rfl) (by kernel_rfl) (fun _ _ _ h => h) rfl ?_ hE ?_; rotate_left; (focus (intro w hSw; (try dsimp only at hSw);  go_simp; (try with_reducible rfl))); (try simp only [Act.put, List.setIfInBounds_toArray, List.set_cons_zero, List.set_cons_succ])
              refine wpAnyH_done (by kernel_rfl) ?_ _
              go_wp2_with fail
              go_meet
              exact ⟨_, rfl, rfl, rfl, NW, hE⟩
          · go_simp
            have nL := SG.ne hz0
            have lN := (SG.bl hz0).size
            refine hK.out _ _ (SG.alloc hz0 _) (fun hz1 => ?_)
            clear hK
            try simp only [Act.put, List.setIfInBounds_toArray, List.set_cons_zero, List.set_cons_succ]
            have NN := sg_newH hz1
            generalize w'.alloc (.cells (PA zPl) 33) = w' at *
            refine only 4 rfl (by kernel_rfl) rfl (fun K hK => ?_)
            go_simp
            refine (RT.out _).mono ?_
            rintro e' w' ⟨A, d, rfl, SE, hb⟩
            try go_wp2_with fail
            have NN := NN.below hb
            refine hK.out _ _ (SG.below hz1 hb) (fun hz2 => ?_)
            clear hK hb
            try simp only [Act.put, List.setIfInBounds_toArray, List.set_cons_zero, List.set_cons_succ]
            refine only 5 rfl (by kernel_rfl) rfl (fun K hK => ?_)
            go_simp
            refine (AL3.out A d _ SE).mono ?_
            rintro e' w' ⟨rfl, hb⟩
            try go_wp2_with fail
            have NN := NN.below hb
            have SE := Se.below SE hb (Nat.le_refl _)
            refine hK.out _ _ (SG.below hz2 hb) (fun hz3 => ?_)
            clear hK hb
            try simp only [Act.put, List.setIfInBounds_toArray, List.set_cons_zero, List.set_cons_succ]
            refine tk 6 (v := ?_) rfl (by kernel_rfl) (by kernel_rfl) (by kernel_rfl) (fun _ _ _ h => h) rfl ?_ hz3 ?_; rotate_left; (focus (intro w hSw; (try dsimp only at hSw);  go_simp; (try with_reducible rfl))); (try simp only [Act.put, List.setIfInBounds_toArray, List.set_cons_zero, List.set_cons_succ])
            refine tk 7 (v := ?_) rfl (by kernel_rfl) (by kernel_rfl) (by kernel_rfl) (fun _ _ _ h => h) rfl ?_ hz3 ?_; rotate_left; (focus (intro w hSw; (try dsimp only at hSw);  go_simp; (try with_reducible rfl))); (try simp only [Act.put, List.setIfInBounds_toArray, List.set_cons_zero, List.set_cons_succ])
            refine tk 8 (v := ?_) rfl (by kernel_rfl) (by kernel_rfl) (by kernel_rfl) (fun _ _ _ h => h) rfl ?_ hz3 ?_; rotate_left; (focus (intro w hSw; (try dsimp only at hSw);  go_simp; (try with_reducible rfl))); (try simp only [Act.put, List.setIfInBounds_toArray, List.set_cons_zero, List.set_cons_succ])
            refine tk 9 (v := ?_) rfl (by kernel_rfl) (by kernel_rfl) (by kernel_rfl) (fun _ _ _ h => h) rfl ?_ hz3 ?_; rotate_left; (focus (intro w hSw; (try dsimp only at hSw);  go_simp; (try with_reducible rfl))); (try simp only [Act.put, List.setIfInBounds_toArray, List.set_cons_zero, List.set_cons_succ])
            have ST := NN.storeA u
            have NW := NN.whole u
            refine only 11 rfl (by kernel_rfl) rfl (fun K hK => ?_)
            refine ov_store rfl rfl rfl ST ?_
            refine hK.out _ _ (SG.sets hz3 nL (by simp) lN) (fun hE => ?_)
            clear hK
            try simp only [Act.put, List.setIfInBounds_toArray, List.set_cons_zero, List.set_cons_succ]
            refine tk 12 (v := ?_) rfl (by kernel_rfl) (by kernel_rfl) (by kernel_rfl) (fun _ _ _ h => h) rfl ?_ hE ?_; rotate_left; (focus (intro w hSw; (try dsimp only at hSw);  go_simp; (try with_reducible rfl))); (try simp only [Act.put, List.setIfInBounds_toArray, List.set_cons_zero, List.set_cons_succ])
            refine tk 13 (v := ?_) rfl (by kernel_rfl) (by kernel_rfl) (by kernel_rfl) (fun _ _ _ h => h) rfl ?_ hE ?_; rotate_left; (focus (intro w hSw; (try dsimp only at hSw);  go_simp; (try with_reducible rfl))); (try simp only [Act.put, List.setIfInBounds_toArray, List.set_cons_zero, List.set_cons_succ])
            refine wpAnyH_done (by kernel_rfl) ?_ _
            go_wp2_with fail
            go_meet
            exact ⟨_, rfl, rfl, rfl, NW, hE⟩
        · go_simp
          have nL := SG.ne hHeld
          have lN := (SG.bl hHeld).size
          refine hK.out _ _ (SG.alloc hHeld _) (fun hz0 => ?_)
          clear hK
          try simp only [Act.put, List.setIfInBounds_toArray, List.set_cons_zero, List.set_cons_succ]
          have NN := sg_newHD hz0
          generalize (w5.alloc (.cells (PA zPl) 33)).drew = w' at *
          refine only 3 rfl (by kernel_rfl) rfl (fun K hK => ?_)
          go_simp
          refine (LK.out _).mono ?_
          rintro e' w' ⟨rfl, hb⟩
          try go_wp2_with fail
          have NN := NN.below hb
          refine hK.out _ _ (SG.below hz0 hb) (fun hz1 => ?_)
          clear hK hb
          try simp only [Act.put, List.setIfInBounds_toArray, List.set_cons_zero, List.set_cons_succ]
          refine only 4 rfl (by kernel_rfl) rfl (fun K hK => ?_)
          go_simp
          refine (RT.out _).mono ?_
          rintro e' w' ⟨A, d, rfl, SE, hb⟩
          try go_wp2_with fail
          have NN := NN.below hb
          refine hK.out _ _ (SG.below hz1 hb) (fun hz2 => ?_)
          clear hK hb
          try simp only [Act.put, List.setIfInBounds_toArray, List.set_cons_zero, List.set_cons_succ]
          refine only 5 rfl (by kernel_rfl) rfl (fun K hK => ?_)
          go_simp
          refine (AL3.out A d _ SE).mono ?_
          rintro e' w' ⟨rfl, hb⟩
          try go_wp2_with fail
          have NN := NN.below hb
          have SE := Se.below SE hb (Nat.le_refl _)
          refine hK.out _ _ (SG.below hz2 hb) (fun hz3 => ?_)
          clear hK hb
          try simp only [Act.put, List.setIfInBounds_toArray, List.set_cons_zero, List.set_cons_succ]
          refine tk 6 (v := ?_) rfl (by kernel_rfl) (by kernel_rfl) (by kernel_rfl) (fun _ _ _ h => h) rfl ?_ hz3 ?_; rotate_left; (focus (intro w hSw; (try dsimp only at hSw);  go_simp; (try with_reducible rfl))); (try simp only [Act.put, List.setIfInBounds_toArray, List.set_cons_zero, List.set_cons_succ])
          refine tk 7 (v := ?_) rfl (by kernel_rfl) (by kernel_rfl) (by kernel_rfl) (fun _ _ _ h => h) rfl ?_ hz3 ?_; rotate_left; (focus (intro w hSw; (try dsimp only at hSw);  go_simp; (try with_reducible rfl))); (try simp only [Act.put, List.setIfInBounds_toArray, List.set_cons_zero, List.set_cons_succ])
          refine tk 8 (v := ?_) rfl (by kernel_rfl) (by kernel_rfl) (by kernel_rfl) (fun _ _ _ h => h) rfl ?_ hz3 ?_; rotate_left; (focus (intro w hSw; (try dsimp only at hSw);  go_simp; (try with_reducible rfl))); (try simp only [Act.put, List.setIfInBounds_toArray, List.set_cons_zero, List.set_cons_succ])
          refine tk 9 (v := ?_) rfl (by kernel_rfl) (by kernel_rfl) (by kernel_rfl) (fun _ _ _ h => h) rfl ?_ hz3 ?_; rotate_left; (focus (intro w hSw; (try dsimp only at hSw);  go_simp; (try with_reducible rfl))); (try simp only [Act.put, List.setIfInBounds_toArray, List.set_cons_zero, List.set_cons_succ])
          have ST := NN.storeA u
          have NW := NN.whole u
          refine only 11 rfl (by kernel_rfl) rfl (fun K hK => ?_)
          refine ov_store rfl rfl rfl ST ?_
          refine hK.out _ _ (SG.sets hz3 nL (by simp) lN) (fun hE => ?_)
          clear hK
          try simp only [Act.put, List.setIfInBounds_toArray, List.set_cons_zero, List.set_cons_succ]
          refine tk 12 (v := ?_) rfl (by kernel_rfl) (by kernel_rfl) (by kernel_rfl) (fun _ _ _ h => h) rfl ?_ hE ?_; rotate_left; (focus (intro w hSw; (try dsimp only at hSw);  go_simp; (try with_reducible rfl))); (try simp only [Act.put, List.setIfInBounds_toArray, List.set_cons_zero, List.set_cons_succ])
          refine tk 13 (v := ?_) rfl (by kernel_rfl) (by kernel_rfl) (by kernel_rfl) (fun _ _ _ h => h) rfl ?_ hE ?_; rotate_left; (focus (intro w hSw; (try dsimp only at hSw);  go_simp; (try with_reducible rfl))); (try simp only [Act.put, List.setIfInBounds_toArray, List.set_cons_zero, List.set_cons_succ])
          refine wpAnyH_done (by kernel_rfl) ?_ _
          go_wp2_with fail
          go_meet
          exact ⟨_, rfl, rfl, rfl, NW, hE⟩
      case rest =>
        obtain ⟨U, rfl, rfl, rfl, hU, hS⟩ := hcut
        have S50 := hid (hS.cons hU)
        clear hS hU S5
        have n1_ : ¬ (N : Int) < 1 := by omega
        have n2_ : decide (N < 1) = false := by simp; omega
        have n3_ : ¬ N < 1 := by omega
        have bre : ((re + 1) != (re + 1)) = false := by simp
        go_upto_region 18 with (fail)
        refine wp_region_held_drew (S := fun w' => SG W w' ((U, u) :: [(P, p)]) []) (by kernel_rfl) ?_ (fun hHeld => ?_)
        · exact S50.out.drew
        refine tk 0 (v := ?_) rfl (by kernel_rfl) (by kernel_rfl) (by kernel_rfl) (fun _ _ _ h => h) rfl ?_ hHeld ?_; rotate_left; (focus (intro w hSw; (try dsimp only at hSw);  go_simp; (try with_reducible rfl))); (try simp only [Act.put, List.setIfInBounds_toArray, List.set_cons_zero, List.set_cons_succ])
        refine tk 1 (v := ?_) rfl (by kernel_rfl) (by kernel_rfl) (by kernel_rfl) (fun _ _ _ h => h) rfl ?_ hHeld ?_; rotate_left; (focus (intro w hSw; (try dsimp only at hSw);  go_simp; (try with_reducible rfl))); (try simp only [Act.put, List.setIfInBounds_toArray, List.set_cons_zero, List.set_cons_succ])
        refine tk 2 (v := ?_) rfl (by kernel_rfl) (by kernel_rfl) (by kernel_rfl) (fun _ _ _ h => h) rfl ?_ hHeld ?_; rotate_left; (focus (intro w hSw; (try dsimp only at hSw);  go_simp; (try with_reducible rfl))); (try simp only [Act.put, List.setIfInBounds_toArray, List.set_cons_zero, List.set_cons_succ])
        refine tk 3 (v := ?_) rfl (by kernel_rfl) (by kernel_rfl) (by kernel_rfl) (fun _ _ _ h => h) rfl ?_ hHeld ?_; rotate_left; (focus (intro w hSw; (try dsimp only at hSw);  go_simp; (try with_reducible rfl))); (try simp only [Act.put, List.setIfInBounds_toArray, List.set_cons_zero, List.set_cons_succ])
        refine tk 4 (v := ?_) rfl (by kernel_rfl) (by kernel_rfl) (by kernel_rfl) (fun _ _ _ h => h) rfl ?_ hHeld ?_; rotate_left; (focus (intro w hSw; (try dsimp only at hSw);  go_simp; (try with_reducible rfl))); (try simp only [Act.put, List.setIfInBounds_toArray, List.set_cons_zero, List.set_cons_succ])
        refine tk 5 (v := ?_) rfl (by kernel_rfl) (by kernel_rfl) (by kernel_rfl) (fun _ _ _ h => h) rfl ?_ hHeld ?_; rotate_left; (focus (intro w hSw; (try dsimp only at hSw);  go_simp; (try with_reducible rfl))); (try simp only [Act.put, List.setIfInBounds_toArray, List.set_cons_zero, List.set_cons_succ])
        refine tk 6 (v := ?_) rfl (by kernel_rfl) (by kernel_rfl) (by kernel_rfl) (fun _ _ _ h => h) rfl ?_ hHeld ?_; rotate_left; (focus (intro w hSw; (try dsimp only at hSw);  go_simp; (try with_reducible rfl))); (try simp only [Act.put, List.setIfInBounds_toArray, List.set_cons_zero, List.set_cons_succ])
        refine tk 7 (v := ?_) rfl (by kernel_rfl) (by kernel_rfl) (by kernel_rfl) (fun _ _ _ h => h) rfl ?_ hHeld ?_; rotate_left; (focus (intro w hSw; (try dsimp only at hSw);  go_simp; (try with_reducible rfl))); (try simp only [Act.put, List.setIfInBounds_toArray, List.set_cons_zero, List.set_cons_succ])
        refine tk 8 (v := ?_) rfl (by kernel_rfl) (by kernel_rfl) (by kernel_rfl) (fun _ _ _ h => h) rfl ?_ hHeld ?_; rotate_left; (focus (intro w hSw; (try dsimp only at hSw);  go_simp; (try with_reducible rfl))); (try simp only [Act.put, List.setIfInBounds_toArray, List.set_cons_zero, List.set_cons_succ])
        refine tk 9 (v := .agg #[.int .u64 ka, .int .u64 kb]) rfl (by kernel_rfl) (by kernel_rfl) (by kernel_rfl) (fun _ _ _ h => h) rfl (fun w (hSw : SG W w ((U, u) :: [(P, p)]) []) => ex_load rfl rfl (PoolAt.loadN_ (SG.get hSw (b := U) (p := u) (by simp)) HUN.out)) hHeld ?_; (try simp only [Act.put, List.setIfInBounds_toArray, List.set_cons_zero, List.set_cons_succ])
        refine tk 10 (v := ?_) rfl (by kernel_rfl) (by kernel_rfl) (by kernel_rfl) (fun _ _ _ h => h) rfl ?_ hHeld ?_; rotate_left; (focus (intro w hSw; (try dsimp only at hSw);  go_simp; (try with_reducible rfl))); (try simp only [Act.put, List.setIfInBounds_toArray, List.set_cons_zero, List.set_cons_succ])
        refine only 11 rfl (by kernel_rfl) rfl (fun K hK => ?_)
        go_simp
        refine (LK.out _).mono ?_
        rintro e' w' ⟨rfl, hb⟩
        try go_wp2_with fail
        refine hK.out _ _ (SG.below hHeld hb) (fun h2 => ?_)
        clear hK hb
        try simp only [Act.put, List.setIfInBounds_toArray, List.set_cons_zero, List.set_cons_succ]
        refine tk 12 (v := ?_) rfl (by kernel_rfl) (by kernel_rfl) (by kernel_rfl) (fun _ _ _ h => h) rfl ?_ h2 ?_; rotate_left; (focus (intro w hSw; (try dsimp only at hSw);  go_simp; (try with_reducible rfl))); (try simp only [Act.put, List.setIfInBounds_toArray, List.set_cons_zero, List.set_cons_succ])
        refine tk 13 (v := ?_) rfl (by kernel_rfl) (by kernel_rfl) (by kernel_rfl) (fun _ _ _ h => h) rfl ?_ h2 ?_; rotate_left; (focus (intro w hSw; (try dsimp only at hSw);  go_simp; (try with_reducible rfl))); (try simp only [Act.put, List.setIfInBounds_toArray, List.set_cons_zero, List.set_cons_succ])
        refine tk 14 (v := ?_) rfl (by kernel_rfl) (by kernel_rfl) (by kernel_rfl) (fun _ _ _ h => h) rfl ?_ h2 ?_; rotate_left; (focus (intro w hSw; (try dsimp only at hSw);  go_simp; (try with_reducible rfl))); (try simp only [Act.put, List.setIfInBounds_toArray, List.set_cons_zero, List.set_cons_succ])
        refine tk 15 (v := ?_) rfl (by kernel_rfl) (by kernel_rfl) (by kernel_rfl) (fun _ _ _ h => h) rfl ?_ h2 ?_; rotate_left; (focus (intro w hSw; (try dsimp only at hSw);  go_simp; (try with_reducible rfl))); (try simp only [Act.put, List.setIfInBounds_toArray, List.set_cons_zero, List.set_cons_succ])
        refine tk 16 (v := ?_) rfl (by kernel_rfl) (by kernel_rfl) (by kernel_rfl) (fun _ _ _ h => h) rfl ?_ h2 ?_; rotate_left; (focus (intro w hSw; (try dsimp only at hSw);  go_simp; (try with_reducible rfl))); (try simp only [Act.put, List.setIfInBounds_toArray, List.set_cons_zero, List.set_cons_succ])
        refine tk 17 (v := ?_) rfl (by kernel_rfl) (by kernel_rfl) (by kernel_rfl) (fun _ _ _ h => h) rfl ?_ h2 ?_; rotate_left; (focus (intro w hSw; (try dsimp only at hSw); have z0 : w.cell? ⟨U, 323, none⟩ = some (.int .i64 (re + 1)) := PoolAt.epo_ (SG.get hSw (b := U) (p := u) (by simp)) HUE.out; go_simp; (try with_reducible rfl))); (try simp only [Act.put, List.setIfInBounds_toArray, List.set_cons_zero, List.set_cons_succ])
        refine tk 18 (v := ?_) rfl (by kernel_rfl) (by kernel_rfl) (by kernel_rfl) (fun _ _ _ h => h) rfl ?_ h2 ?_; rotate_left; (focus (intro w hSw; (try dsimp only at hSw);  go_simp; (try with_reducible rfl))); (try simp only [Act.put, List.setIfInBounds_toArray, List.set_cons_zero, List.set_cons_succ])
        refine tk 19 (v := ?_) rfl (by kernel_rfl) (by kernel_rfl) (by kernel_rfl) (fun _ _ _ h => h) rfl ?_ h2 ?_; rotate_left; (focus (intro w hSw; (try dsimp only at hSw);  go_simp; (try with_reducible rfl))); (try simp only [Act.put, List.setIfInBounds_toArray, List.set_cons_zero, List.set_cons_succ])
        refine tk 20 (v := ?_) rfl (by kernel_rfl) (by kernel_rfl) (by kernel_rfl) (fun _ _ _ h => h) rfl ?_ h2 ?_; rotate_left; (focus (intro w hSw; (try dsimp only at hSw); have z1 : w.cell? ⟨P, 323, none⟩ = some (.int .i64 re) := PoolAt.epo_ (SG.get hSw (b := P) (p := p) (by simp)) HRE.out.symm; go_simp; (try with_reducible rfl))); (try simp only [Act.put, List.setIfInBounds_toArray, List.set_cons_zero, List.set_cons_succ])
        refine tk 21 (v := ?_) rfl (by kernel_rfl) (by kernel_rfl) (by kernel_rfl) (fun _ _ _ h => h) rfl ?_ h2 ?_; rotate_left; (focus (intro w hSw; (try dsimp only at hSw);  go_simp; (try with_reducible rfl))); (try simp only [Act.put, List.setIfInBounds_toArray, List.set_cons_zero, List.set_cons_succ])
        refine tk 22 (v := ?_) rfl (by kernel_rfl) (by kernel_rfl) (by kernel_rfl) (fun _ _ _ h => h) rfl ?_ h2 ?_; rotate_left; (focus (intro w hSw; (try dsimp only at hSw);  go_simp; (try with_reducible rfl))); (try simp only [Act.put, List.setIfInBounds_toArray, List.set_cons_zero, List.set_cons_succ])
        refine tk 23 (v := ?_) rfl (by kernel_rfl) (by kernel_rfl) (by kernel_rfl) (fun _ _ _ h => h) rfl ?_ h2 ?_; rotate_left; (focus (intro w hSw; (try dsimp only at hSw);  go_simp; (try with_reducible rfl))); (try simp only [Act.put, List.setIfInBounds_toArray, List.set_cons_zero, List.set_cons_succ])
        refine wpAnyH_done (by kernel_rfl) ?_ _
        have S51 := hid h2
        clear h2 hHeld S50
        go_wp2_with fail
        go_loopw [27] (fun i wr => ∃ j : Nat, j ≤ 64 ∧ i = .int .i64 (j : Int) ∧ SG W wr ((U, u) :: [(P, p)]) []) (fun i _ => 64 - (intOf i).toNat)
        case atStart => exact ⟨0, by omega, rfl, S51.out⟩
        case round =>
          clear S51
          obtain ⟨j, hj, rfl, hS⟩ := hrel
          have S52 := hid hS
          clear hS
          by_cases hlt : j < 64
          · have i0 : (0 : Int) ≤ j := by omega
            have i1 : (j : Int) < 64 := by omega
            have PU := SG.get S52.out (b := U) (p := u) (by simp)
            have ce : wr.cell? ⟨U, 323, none⟩ = some (.int .i64 (re + 1)) := PoolAt.epo_ PU HUE.out
            have c0 : wr.cell? ⟨U, 3 + j * 5, none⟩ = some (.int .i64 (u.s j).st) := PU.cs j 0 hlt (by omega)
            have c4 : wr.cell? ⟨U, 3 + j * 5 + 4, none⟩ = some (.int .i64 (u.s j).si) := PU.cs j 4 hlt (by omega)
            clear PU
            have hd := HUD.out j hlt
            rw [HUE.out] at hd
            have hsi := HPU.out.2.2 j hlt
            obtain ⟨hs1, hs2⟩ := hsi
            obtain ⟨st, hst⟩ : ∃ x, x = (u.s j).st := ⟨_, rfl⟩
            obtain ⟨si, hsi⟩ : ∃ x, x = (u.s j).si := ⟨_, rfl⟩
            rw [← hst] at c0 hd
            rw [← hsi] at c4 hs1 hs2 hd
            clear hst hsi
            have w3_ : IntKind.i64.wrap (si + 3) = si + 3 := IntWalk.i64_in _ (by omega)
            cases h4 : (st == 4)
            · clear hd
              go_wp2_with fail
              go_quiet (fail)
              go_wp2_with fail
              go_roundw
              case rel => exact ⟨j + 1, by omega, by go_num, SGd S52.out _⟩
              case measure => simp [intOf]; omega
            · have h5 : ¬ si + 3 ≤ re + 1 := by rcases hd with hd | hd; exact absurd (by simpa using h4) hd; omega
              clear hd
              go_wp2_with fail
              go_quiet (fail)
              go_wp2_with fail
              go_roundw
              case rel => exact ⟨j + 1, by omega, by go_num, SGd S52.out _⟩
              case measure => simp [intOf]; omega
          · have e : j = 64 := by omega
            subst e
            go_wp2_with fail
            go_ret
            exact ⟨rfl, S52.out.bl⟩

set_option maxRecDepth 100000 in
theorem lifted (os : Os) (started : os.Started) (H : Type) (enc : TypeId × Value → H) :
    ReturnsInHanded {} Tryd.checked os 4 .any (fun w args => (Rows.orderDoneSpec.pre enc Tryd.prog Tryd.f4 [] false w args ∧ laidMetH Tryd.prog Rows.orderDoneRow.laid w) ∧ sizedMet enc Tryd.prog Tryd.f4 (OpenSpec.ofChange Rows.orderDoneSpec) false w args) (Rows.orderDoneSpec.post enc Tryd.prog Tryd.f4 false true false false) :=
  law_door (s := Rows.orderDoneSpec) (laid := Rows.orderDoneRow.laid) started (by kernel_rfl) Tryd.func4
    (ChangeSpec.witness_shaped (enc := enc) (C := Tryd.checked) (os := os) (X := fun w _ => laidMetH Tryd.prog Rows.orderDoneRow.laid w) false (World.laidAll Tryd.prog os Rows.orderDoneRow.laid) #[.slice none 0 0, .int .i64 0, .int .i64 0, .int .i64 0] 8 (World.laidAll_os _ _ _)
      (World.shaped_of_ZipB (by kernel_rfl) (by kernel_rfl)) (by kernel_rfl) (by kernel_rfl) (by kernel_rfl)
      (by rw [MakeChecks.laidMetH_plain _ _ _ (by kernel_rfl)]; exact laidMet_laidAll _ (by kernel_rfl) (by kernel_rfl)))
    rfl (by rw [Tryd.params4]; decide +kernel) rfl Tryd.underlying4
    (fun ds h => by
      rw [Tryd.params4] at h
      match ds, h with
      | [_, _, _, _], _ => rfl)
    (fun W base args ds ps hsh hval hA hsz => by
      rw [Tryd.params4] at hA hval hsz
      obtain ⟨v0, vs0, d0, ds0, p0, q0, hargs, rfl, rfl, h0, r0⟩ := trodAll_cons hA
      obtain ⟨v1, vs1, d1, ds1, p1, q1, rfl, rfl, rfl, h1, r1⟩ := trodAll_cons r0
      obtain ⟨v2, vs2, d2, ds2, p2, q2, rfl, rfl, rfl, h2, r2⟩ := trodAll_cons r1
      obtain ⟨v3, vs3, d3, ds3, p3, q3, rfl, rfl, rfl, h3, r3⟩ := trodAll_cons r2
      obtain ⟨rfl, rfl, rfl⟩ := trodAll_nil r3
      obtain rfl : args = #[v0, v1, v2, v3] := by cases args; simp_all
      obtain ⟨A0, n0, c0, g0, rfl, hn0, hc0, hs0, hw0, hl0, hd0⟩ := open_row Tryd.underlying22 Tryd.underlying3 (by kernel_rfl) (hval 0 22 v0 rfl rfl) h0
      have re0 : c0 * 8 ≤ 140737488351232 := by
        rcases hd0 with ⟨_, h0⟩ | ⟨xs, ys, h1, h2⟩
        · omega
        · have := sized_slice hsz (j := 0) (t := 22) (e := 3) rfl (by rw [h1]; rfl) Tryd.underlying22
          rw [h2, show Tryd.prog.bytesOf 3 = 8 from by kernel_rfl] at this
          simpa [reachBytes] using this
      obtain ⟨a1, rfl, rfl, rfl, w1⟩ := open_int Tryd.underlying3 (hval 1 3 v1 rfl rfl) h1
      obtain ⟨a2, rfl, rfl, rfl, w2⟩ := open_int Tryd.underlying3 (hval 2 3 v2 rfl rfl) h2
      obtain ⟨a3, rfl, rfl, rfl, w3⟩ := open_int Tryd.underlying3 (hval 3 3 v3 rfl rfl) h3
      exact walk W hsh A0 n0 c0 g0 hn0 hc0 hs0 (fun j => bounds_i64 (hw0 j)) hl0 re0 a1 (bounds_i64 w1) a2 (bounds_i64 w2) a3 (bounds_i64 w3))

theorem holds : Rows.OrderDoneSaid :=
  OpenClaim.holds_of_wide 4 Tryd.f4 rfl rfl rfl rfl rfl rfl rfl ⟨rfl, rfl, rfl, rfl, rfl⟩ rfl rfl rfl rfl rfl (by kernel_rfl) Tryd.func4 (by kernel_rfl)
    (of_decide_eq_true (by kernel_rfl)) (by unfold Func.isWrapper; first | (rw [if_pos (by decide +kernel)]; kernel_rfl) | (rw [if_neg (by decide +kernel)]; exact ⟨rfl, rfl⟩))
    (fun os started H enc _ => lifted os started H enc)
theorem proved : Rows.OrderDoneCardSaid :=
  Claim7.holds_tied_plain_at .later [] Rows.orderDoneCard.laidKinds true Rows.orderDoneCard.stood.harness false holds (fun _ h => by cases h) (by kernel_rfl) (fun _ h => by cases h) orderDone_row_tie rfl ⟨rfl, rfl⟩ (by kernel_rfl) rfl
    (fun f fn hf hfn => by
      obtain rfl : f = 4 := Option.some.inj ((show Tryd.prog.funcNamed Rows.orderDoneRow.func = some 4 by kernel_rfl).symm.trans hf) |>.symm
      obtain rfl : fn = Tryd.f4 := (Option.some.inj (Tryd.func4.symm.trans hfn)).symm
      exact ⟨by kernel_rfl, fun j t ht => by
        rw [Tryd.params4] at ht
        have hm : t ∈ [22, 3, 3, 3] := by simpa using Array.mem_of_getElem? ht
        have hall : ([22, 3, 3, 3].all fun u => !Tryd.prog.wantsStandIn u) = true := by kernel_rfl
        exact (show Tryd.prog.wantsStandIn t = false by simpa using List.all_eq_true.1 hall t hm)⟩)
    (by kernel_rfl)
end Go.Proofs.YtljgcffpijjliaaDoor.orderDone
