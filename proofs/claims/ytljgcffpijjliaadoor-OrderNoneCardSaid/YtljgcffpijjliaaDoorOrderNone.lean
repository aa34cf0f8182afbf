/- roundhouselaw10.OrderNone answers true for every row, any two numbers; no condition. -/
import Derived.Test.YtljgcffpijjliaaDoorOrdMark
import Derived.Test.YtljgcffpijjliaaDoorOrdKnown10
import Derived.Test.YtljgcffpijjliaaDoorDoor
import Derived.BigQuiet
import Derived.Deep.RegionHeld3
import Derived.Deep.Cut
namespace Go.Proofs.YtljgcffpijjliaaDoor.orderNone
set_option linter.unusedVariables false
set_option linter.unusedSimpArgs false
open Go.RowKit Go.ChangeShapes Go.WideShapes Go.ChangeAt

theorem mrk_out {p : Pl} {s v : Int} (h : s < 0 ∨ 64 ≤ s) : mrkL p s v = [] := by unfold mrkL; rw [if_pos h]
theorem mrk_no {p : Pl} {s v : Int} (h1 : v ≠ 1) (h2 : v ≠ 2) : mrkL p s v = [] := by
  unfold mrkL
  split
  · rfl
  · rw [if_neg (fun h => h1 h.1), if_neg (fun h => h2 h.1)]
attribute [local irreducible] PA
set_option maxRecDepth 100000 in
set_option maxHeartbeats 8000000 in
theorem walk (W : World) (hsh : W.ShapedOpen Tryd.prog) (A1 : Option Addr) (n1 c1 : Nat) (g1 : Nat → Int) (hn1 : n1 ≤ c1) (hc1 : c1 ≤ maxLen) (hr1 : Is W A1 n1 g1) (hg1 : IsI g1) (hl1 : ∀ ad, A1 = some ad → 0 < n1 → ad.block < W.heap.size) (re1 : c1 * 8 ≤ 140737488351232) (a0 : Int) (r_a0 : -9223372036854775808 ≤ a0 ∧ a0 ≤ 9223372036854775807) (b0 : Int) (r_b0 : -9223372036854775808 ≤ b0 ∧ b0 ≤ 9223372036854775807) :
    Calls Tryd.prog 12 #[.slice A1 n1 c1, .int .i64 a0, .int .i64 b0] W fun e w' => e = .returned (.bool true) ∧ Below W.heap.size W w' := by
  have hz : ∀ w : World, (zeroValue 33).run Tryd.prog w = .ok (.agg (PA zPl)) w := fun w => zero_pl w
  have hz1 := pa_size zPl
  have hz2 := pa_ne zPl
  unfold maxLen at hc1
  have hnm : (n1 : Int) ≤ 9223372036854775807 := by have := hn1; omega
  have HL := hid hl1
  clear hl1 re1
  obtain ⟨p, hp⟩ : ∃ p, p = mkP g1 (min n1 60) := ⟨_, rfl⟩
  have HQ := hid (show Pinv p 60 from by rw [hp]; exact (mkP_inv g1 _).mono (by omega))
  have MK := hid (fun (w : World) (h : Is w A1 n1 g1) (hl : ∀ ad, A1 = some ad → 0 < n1 → ad.block < w.heap.size) => (show Calls Tryd.prog 15 #[.slice A1 n1 c1, .int .i64 60] w fun x w' => x = .returned (.agg (PA p)) ∧ Below w.heap.size w w' from by rw [hp]; exact make_any w A1 n1 c1 g1 h hl hnm 60 (by omega)))
  clear hp
  obtain ⟨ml, hml⟩ := Tryd.laysM147.s1_3 W hsh
  have HML := hid hml
  clear hml hsh
  have M0 := hid (fun (s v : Int) (h : s < 0 ∨ 64 ≤ s) (w : World) => (show Calls Tryd.prog 25 #[.agg (PA p), .int .i64 s, .int .i64 v] w (Ls1 w []) from by have := mark_any p s v w; rw [mrk_out h] at this; exact this))
  have M1 := hid (fun (s v : Int) (h1 : v ≠ 1) (h2 : v ≠ 2) (w : World) => (show Calls Tryd.prog 25 #[.agg (PA p), .int .i64 s, .int .i64 v] w (Ls1 w []) from by have := mark_any p s v w; rw [mrk_no h1 h2] at this; exact this))
  obtain ⟨a1, a2⟩ := r_a0
  obtain ⟨b1, b2⟩ := r_b0
  rcases (by omega : a0 < 0 ∨ 64 ≤ a0 ∨ 0 ≤ a0 ∧ a0 < 64) with h1 | h1 | ⟨h1, h2⟩
  · have g1_ : ¬ (0 : Int) ≤ a0 := by omega
    by_cases e1 : b0 = 1
    · subst e1
      go_enter Tryd.func12, Tryd.ntmps12
      go_wp2_with fail
      refine (known10_any ml _ HML.out).mono ?_
      rintro x w1 ⟨rfl, hB⟩
      have R1 := hid (hr1.below hB (Nat.le_refl _))
      have B1 := hid hB
      clear hr1 hB HML
      go_wp2_with fail
      refine (MK.out _ R1.out (fun ad e h => Nat.lt_of_lt_of_le (HL.out ad e h) B1.out.size)).mono ?_
      rintro x w2 ⟨rfl, hb⟩
      have S2 := hid ((SG.start B1.out).below hb)
      clear hb R1 B1 MK
      have ST := hid ((sg_new (w := w2) (T := 33)).storeA p)
      have S3 := hid (SG.put S2.out (T := 33) zPl p (by simp))
      go_upto_region 4 with ((with_reducible refine wl_id ?_); refine wl_store rfl rfl rfl rfl ST.out ?_)
      clear ST S2
      generalize (w2.alloc (.cells (PA zPl) 33)).setCells w2.heap.size 0 (PA p).toList = w3 at *
      generalize w2.heap.size = P at *
      go_upto_region 10 with (fail)
      go_wp2_with fail
      go_loopw [10] (fun i wr => ∃ k : Nat, k ≤ 64 ∧ i = .int .i64 (k : Int) ∧ SG W wr [(P, p)] []) (fun i _ => 64 - (intOf i).toNat)
      case atStart => exact ⟨0, by omega, rfl, S3.out⟩
      case round =>
        clear S3
        obtain ⟨k, hk, rfl, hS⟩ := hrel
        have S4 := hid hS
        clear hS
        by_cases hlt : k < 64
        · have i0 : (0 : Int) ≤ k := by omega
          have i1 : (k : Int) < 64 := by omega
          have LP := (SG.get S4.out (b := P) (p := p) (by simp)).loadA
          go_wp2_with ((with_reducible refine wl_id ?_); refine wl_load rfl rfl rfl LP ?_)
          clear LP
          refine (M1.out (k : Int) 3 (by decide) (by decide) _).mono ?_
          rintro x w5 ⟨A5, d5, rfl, _, hb⟩
          have S5 := hid (S4.out.below hb)
          clear hb S4
          go_wp2_with fail
          go_roundw
          case rel => exact ⟨k + 1, by omega, by go_num, S5.out⟩
          case measure => simp [intOf]; omega
        · have e : k = 64 := by omega
          subst e
          have LP := (SG.get S4.out (b := P) (p := p) (by simp)).loadA
          go_wp2_with ((with_reducible refine wl_id ?_); refine wl_load rfl rfl rfl LP ?_)
          clear LP
          refine (M0.out a0 1 (by omega) _).mono ?_
          rintro x w5 ⟨A5, d5, rfl, _, hb⟩
          have S5 := hid (S4.out.below hb)
          clear hb S4
          have LP := (SG.get S5.out (b := P) (p := p) (by simp)).loadA
          go_wp2_with ((with_reducible refine wl_id ?_); refine wl_load rfl rfl rfl LP ?_)
          clear LP
          refine (M0.out a0 2 (by omega) _).mono ?_
          rintro x w6 ⟨A6, d6, rfl, _, hb⟩
          have S6 := hid (S5.out.below hb)
          clear hb S5
          go_wp2_with fail
          go_ret
          exact ⟨rfl, S6.out.bl⟩
    · have n1_ : (b0 == 1) = false := by simpa using e1
      by_cases e2 : b0 = 2
      · subst e2
        clear n1_
        go_enter Tryd.func12, Tryd.ntmps12
        go_wp2_with fail
        refine (known10_any ml _ HML.out).mono ?_
        rintro x w1 ⟨rfl, hB⟩
        have R1 := hid (hr1.below hB (Nat.le_refl _))
        have B1 := hid hB
        clear hr1 hB HML
        go_wp2_with fail
        refine (MK.out _ R1.out (fun ad e h => Nat.lt_of_lt_of_le (HL.out ad e h) B1.out.size)).mono ?_
        rintro x w2 ⟨rfl, hb⟩
        have S2 := hid ((SG.start B1.out).below hb)
        clear hb R1 B1 MK
        have ST := hid ((sg_new (w := w2) (T := 33)).storeA p)
        have S3 := hid (SG.put S2.out (T := 33) zPl p (by simp))
        go_upto_region 4 with ((with_reducible refine wl_id ?_); refine wl_store rfl rfl rfl rfl ST.out ?_)
        clear ST S2
        generalize (w2.alloc (.cells (PA zPl) 33)).setCells w2.heap.size 0 (PA p).toList = w3 at *
        generalize w2.heap.size = P at *
        go_upto_region 10 with (fail)
        go_wp2_with fail
        go_loopw [10] (fun i wr => ∃ k : Nat, k ≤ 64 ∧ i = .int .i64 (k : Int) ∧ SG W wr [(P, p)] []) (fun i _ => 64 - (intOf i).toNat)
        case atStart => exact ⟨0, by omega, rfl, S3.out⟩
        case round =>
          clear S3
          obtain ⟨k, hk, rfl, hS⟩ := hrel
          have S4 := hid hS
          clear hS
          by_cases hlt : k < 64
          · have i0 : (0 : Int) ≤ k := by omega
            have i1 : (k : Int) < 64 := by omega
            have LP := (SG.get S4.out (b := P) (p := p) (by simp)).loadA
            go_wp2_with ((with_reducible refine wl_id ?_); refine wl_load rfl rfl rfl LP ?_)
            clear LP
            refine (M1.out (k : Int) 4 (by decide) (by decide) _).mono ?_
            rintro x w5 ⟨A5, d5, rfl, _, hb⟩
            have S5 := hid (S4.out.below hb)
            clear hb S4
            go_wp2_with fail
            go_roundw
            case rel => exact ⟨k + 1, by omega, by go_num, S5.out⟩
            case measure => simp [intOf]; omega
          · have e : k = 64 := by omega
            subst e
            have LP := (SG.get S4.out (b := P) (p := p) (by simp)).loadA
            go_wp2_with ((with_reducible refine wl_id ?_); refine wl_load rfl rfl rfl LP ?_)
            clear LP
            refine (M0.out a0 1 (by omega) _).mono ?_
            rintro x w5 ⟨A5, d5, rfl, _, hb⟩
            have S5 := hid (S4.out.below hb)
            clear hb S4
            have LP := (SG.get S5.out (b := P) (p := p) (by simp)).loadA
            go_wp2_with ((with_reducible refine wl_id ?_); refine wl_load rfl rfl rfl LP ?_)
            clear LP
            refine (M0.out a0 2 (by omega) _).mono ?_
            rintro x w6 ⟨A6, d6, rfl, _, hb⟩
            have S6 := hid (S5.out.below hb)
            clear hb S5
            go_wp2_with fail
            go_ret
            exact ⟨rfl, S6.out.bl⟩
      · have n2_ : (b0 == 2) = false := by simpa using e2
        have E1 := hid e1
        have E2 := hid e2
        clear e1 e2
        go_enter Tryd.func12, Tryd.ntmps12
        go_wp2_with fail
        refine (known10_any ml _ HML.out).mono ?_
        rintro x w1 ⟨rfl, hB⟩
        have R1 := hid (hr1.below hB (Nat.le_refl _))
        have B1 := hid hB
        clear hr1 hB HML
        go_wp2_with fail
        refine (MK.out _ R1.out (fun ad e h => Nat.lt_of_lt_of_le (HL.out ad e h) B1.out.size)).mono ?_
        rintro x w2 ⟨rfl, hb⟩
        have S2 := hid ((SG.start B1.out).below hb)
        clear hb R1 B1 MK
        have ST := hid ((sg_new (w := w2) (T := 33)).storeA p)
        have S3 := hid (SG.put S2.out (T := 33) zPl p (by simp))
        go_upto_region 4 with ((with_reducible refine wl_id ?_); refine wl_store rfl rfl rfl rfl ST.out ?_)
        clear ST S2
        generalize (w2.alloc (.cells (PA zPl) 33)).setCells w2.heap.size 0 (PA p).toList = w3 at *
        generalize w2.heap.size = P at *
        go_upto_region 10 with (fail)
        go_wp2_with fail
        go_loopw [10] (fun i wr => ∃ k : Nat, k ≤ 64 ∧ i = .int .i64 (k : Int) ∧ SG W wr [(P, p)] []) (fun i _ => 64 - (intOf i).toNat)
        case atStart => exact ⟨0, by omega, rfl, S3.out⟩
        case round =>
          clear S3
          obtain ⟨k, hk, rfl, hS⟩ := hrel
          have S4 := hid hS
          clear hS
          by_cases hlt : k < 64
          · have i0 : (0 : Int) ≤ k := by omega
            have i1 : (k : Int) < 64 := by omega
            have LP := (SG.get S4.out (b := P) (p := p) (by simp)).loadA
            go_wp2_with ((with_reducible refine wl_id ?_); refine wl_load rfl rfl rfl LP ?_)
            clear LP
            refine (M1.out (k : Int) b0 E1.out E2.out _).mono ?_
            rintro x w5 ⟨A5, d5, rfl, _, hb⟩
            have S5 := hid (S4.out.below hb)
            clear hb S4
            go_wp2_with fail
            go_roundw
            case rel => exact ⟨k + 1, by omega, by go_num, S5.out⟩
            case measure => simp [intOf]; omega
          · have e : k = 64 := by omega
            subst e
            have LP := (SG.get S4.out (b := P) (p := p) (by simp)).loadA
            go_wp2_with ((with_reducible refine wl_id ?_); refine wl_load rfl rfl rfl LP ?_)
            clear LP
            refine (M0.out a0 1 (by omega) _).mono ?_
            rintro x w5 ⟨A5, d5, rfl, _, hb⟩
            have S5 := hid (S4.out.below hb)
            clear hb S4
            have LP := (SG.get S5.out (b := P) (p := p) (by simp)).loadA
            go_wp2_with ((with_reducible refine wl_id ?_); refine wl_load rfl rfl rfl LP ?_)
            clear LP
            refine (M0.out a0 2 (by omega) _).mono ?_
            rintro x w6 ⟨A6, d6, rfl, _, hb⟩
            have S6 := hid (S5.out.below hb)
            clear hb S5
            go_wp2_with fail
            go_ret
            exact ⟨rfl, S6.out.bl⟩
  · have g1_ : (0 : Int) ≤ a0 := by omega
    have g2_ : ¬ a0 < (64 : Int) := by omega
    by_cases e1 : b0 = 1
    · subst e1
      go_enter Tryd.func12, Tryd.ntmps12
      go_wp2_with fail
      refine (known10_any ml _ HML.out).mono ?_
      rintro x w1 ⟨rfl, hB⟩
      have R1 := hid (hr1.below hB (Nat.le_refl _))
      have B1 := hid hB
      clear hr1 hB HML
      go_wp2_with fail
      refine (MK.out _ R1.out (fun ad e h => Nat.lt_of_lt_of_le (HL.out ad e h) B1.out.size)).mono ?_
      rintro x w2 ⟨rfl, hb⟩
      have S2 := hid ((SG.start B1.out).below hb)
      clear hb R1 B1 MK
      have ST := hid ((sg_new (w := w2) (T := 33)).storeA p)
      have S3 := hid (SG.put S2.out (T := 33) zPl p (by simp))
      go_upto_region 4 with ((with_reducible refine wl_id ?_); refine wl_store rfl rfl rfl rfl ST.out ?_)
      clear ST S2
      generalize (w2.alloc (.cells (PA zPl) 33)).setCells w2.heap.size 0 (PA p).toList = w3 at *
      generalize w2.heap.size = P at *
      go_upto_region 10 with (fail)
      go_wp2_with fail
      go_loopw [10] (fun i wr => ∃ k : Nat, k ≤ 64 ∧ i = .int .i64 (k : Int) ∧ SG W wr [(P, p)] []) (fun i _ => 64 - (intOf i).toNat)
      case atStart => exact ⟨0, by omega, rfl, S3.out⟩
      case round =>
        clear S3
        obtain ⟨k, hk, rfl, hS⟩ := hrel
        have S4 := hid hS
        clear hS
        by_cases hlt : k < 64
        · have i0 : (0 : Int) ≤ k := by omega
          have i1 : (k : Int) < 64 := by omega
          have LP := (SG.get S4.out (b := P) (p := p) (by simp)).loadA
          go_wp2_with ((with_reducible refine wl_id ?_); refine wl_load rfl rfl rfl LP ?_)
          clear LP
          refine (M1.out (k : Int) 3 (by decide) (by decide) _).mono ?_
          rintro x w5 ⟨A5, d5, rfl, _, hb⟩
          have S5 := hid (S4.out.below hb)
          clear hb S4
          go_wp2_with fail
          go_roundw
          case rel => exact ⟨k + 1, by omega, by go_num, S5.out⟩
          case measure => simp [intOf]; omega
        · have e : k = 64 := by omega
          subst e
          have LP := (SG.get S4.out (b := P) (p := p) (by simp)).loadA
          go_wp2_with ((with_reducible refine wl_id ?_); refine wl_load rfl rfl rfl LP ?_)
          clear LP
          refine (M0.out a0 1 (by omega) _).mono ?_
          rintro x w5 ⟨A5, d5, rfl, _, hb⟩
          have S5 := hid (S4.out.below hb)
          clear hb S4
          have LP := (SG.get S5.out (b := P) (p := p) (by simp)).loadA
          go_wp2_with ((with_reducible refine wl_id ?_); refine wl_load rfl rfl rfl LP ?_)
          clear LP
          refine (M0.out a0 2 (by omega) _).mono ?_
          rintro x w6 ⟨A6, d6, rfl, _, hb⟩
          have S6 := hid (S5.out.below hb)
          clear hb S5
          go_wp2_with fail
          go_ret
          exact ⟨rfl, S6.out.bl⟩
    · have n1_ : (b0 == 1) = false := by simpa using e1
      by_cases e2 : b0 = 2
      · subst e2
        clear n1_
        go_enter Tryd.func12, Tryd.ntmps12
        go_wp2_with fail
        refine (known10_any ml _ HML.out).mono ?_
        rintro x w1 ⟨rfl, hB⟩
        have R1 := hid (hr1.below hB (Nat.le_refl _))
        have B1 := hid hB
        clear hr1 hB HML
        go_wp2_with fail
        refine (MK.out _ R1.out (fun ad e h => Nat.lt_of_lt_of_le (HL.out ad e h) B1.out.size)).mono ?_
        rintro x w2 ⟨rfl, hb⟩
        have S2 := hid ((SG.start B1.out).below hb)
        clear hb R1 B1 MK
        have ST := hid ((sg_new (w := w2) (T := 33)).storeA p)
        have S3 := hid (SG.put S2.out (T := 33) zPl p (by simp))
        go_upto_region 4 with ((with_reducible refine wl_id ?_); refine wl_store rfl rfl rfl rfl ST.out ?_)
        clear ST S2
        generalize (w2.alloc (.cells (PA zPl) 33)).setCells w2.heap.size 0 (PA p).toList = w3 at *
        generalize w2.heap.size = P at *
        go_upto_region 10 with (fail)
        go_wp2_with fail
        go_loopw [10] (fun i wr => ∃ k : Nat, k ≤ 64 ∧ i = .int .i64 (k : Int) ∧ SG W wr [(P, p)] []) (fun i _ => 64 - (intOf i).toNat)
        case atStart => exact ⟨0, by omega, rfl, S3.out⟩
        case round =>
          clear S3
          obtain ⟨k, hk, rfl, hS⟩ := hrel
          have S4 := hid hS
          clear hS
          by_cases hlt : k < 64
          · have i0 : (0 : Int) ≤ k := by omega
            have i1 : (k : Int) < 64 := by omega
            have LP := (SG.get S4.out (b := P) (p := p) (by simp)).loadA
            go_wp2_with ((with_reducible refine wl_id ?_); refine wl_load rfl rfl rfl LP ?_)
            clear LP
            refine (M1.out (k : Int) 4 (by decide) (by decide) _).mono ?_
            rintro x w5 ⟨A5, d5, rfl, _, hb⟩
            have S5 := hid (S4.out.below hb)
            clear hb S4
            go_wp2_with fail
            go_roundw
            case rel => exact ⟨k + 1, by omega, by go_num, S5.out⟩
            case measure => simp [intOf]; omega
          · have e : k = 64 := by omega
            subst e
            have LP := (SG.get S4.out (b := P) (p := p) (by simp)).loadA
            go_wp2_with ((with_reducible refine wl_id ?_); refine wl_load rfl rfl rfl LP ?_)
            clear LP
            refine (M0.out a0 1 (by omega) _).mono ?_
            rintro x w5 ⟨A5, d5, rfl, _, hb⟩
            have S5 := hid (S4.out.below hb)
            clear hb S4
            have LP := (SG.get S5.out (b := P) (p := p) (by simp)).loadA
            go_wp2_with ((with_reducible refine wl_id ?_); refine wl_load rfl rfl rfl LP ?_)
            clear LP
            refine (M0.out a0 2 (by omega) _).mono ?_
            rintro x w6 ⟨A6, d6, rfl, _, hb⟩
            have S6 := hid (S5.out.below hb)
            clear hb S5
            go_wp2_with fail
            go_ret
            exact ⟨rfl, S6.out.bl⟩
      · have n2_ : (b0 == 2) = false := by simpa using e2
        have E1 := hid e1
        have E2 := hid e2
        clear e1 e2
        go_enter Tryd.func12, Tryd.ntmps12
        go_wp2_with fail
        refine (known10_any ml _ HML.out).mono ?_
        rintro x w1 ⟨rfl, hB⟩
        have R1 := hid (hr1.below hB (Nat.le_refl _))
        have B1 := hid hB
        clear hr1 hB HML
        go_wp2_with fail
        refine (MK.out _ R1.out (fun ad e h => Nat.lt_of_lt_of_le (HL.out ad e h) B1.out.size)).mono ?_
        rintro x w2 ⟨rfl, hb⟩
        have S2 := hid ((SG.start B1.out).below hb)
        clear hb R1 B1 MK
        have ST := hid ((sg_new (w := w2) (T := 33)).storeA p)
        have S3 := hid (SG.put S2.out (T := 33) zPl p (by simp))
        go_upto_region 4 with ((with_reducible refine wl_id ?_); refine wl_store rfl rfl rfl rfl ST.out ?_)
        clear ST S2
        generalize (w2.alloc (.cells (PA zPl) 33)).setCells w2.heap.size 0 (PA p).toList = w3 at *
        generalize w2.heap.size = P at *
        go_upto_region 10 with (fail)
        go_wp2_with fail
        go_loopw [10] (fun i wr => ∃ k : Nat, k ≤ 64 ∧ i = .int .i64 (k : Int) ∧ SG W wr [(P, p)] []) (fun i _ => 64 - (intOf i).toNat)
        case atStart => exact ⟨0, by omega, rfl, S3.out⟩
        case round =>
          clear S3
          obtain ⟨k, hk, rfl, hS⟩ := hrel
          have S4 := hid hS
          clear hS
          by_cases hlt : k < 64
          · have i0 : (0 : Int) ≤ k := by omega
            have i1 : (k : Int) < 64 := by omega
            have LP := (SG.get S4.out (b := P) (p := p) (by simp)).loadA
            go_wp2_with ((with_reducible refine wl_id ?_); refine wl_load rfl rfl rfl LP ?_)
            clear LP
            refine (M1.out (k : Int) b0 E1.out E2.out _).mono ?_
            rintro x w5 ⟨A5, d5, rfl, _, hb⟩
            have S5 := hid (S4.out.below hb)
            clear hb S4
            go_wp2_with fail
            go_roundw
            case rel => exact ⟨k + 1, by omega, by go_num, S5.out⟩
            case measure => simp [intOf]; omega
          · have e : k = 64 := by omega
            subst e
            have LP := (SG.get S4.out (b := P) (p := p) (by simp)).loadA
            go_wp2_with ((with_reducible refine wl_id ?_); refine wl_load rfl rfl rfl LP ?_)
            clear LP
            refine (M0.out a0 1 (by omega) _).mono ?_
            rintro x w5 ⟨A5, d5, rfl, _, hb⟩
            have S5 := hid (S4.out.below hb)
            clear hb S4
            have LP := (SG.get S5.out (b := P) (p := p) (by simp)).loadA
            go_wp2_with ((with_reducible refine wl_id ?_); refine wl_load rfl rfl rfl LP ?_)
            clear LP
            refine (M0.out a0 2 (by omega) _).mono ?_
            rintro x w6 ⟨A6, d6, rfl, _, hb⟩
            have S6 := hid (S5.out.below hb)
            clear hb S5
            go_wp2_with fail
            go_ret
            exact ⟨rfl, S6.out.bl⟩
  · have wr_ : IntKind.i64.wrap (a0 + 64) = a0 + 64 := IntWalk.i64_in _ (by omega)
    by_cases e1 : b0 = 1
    · subst e1
      go_enter Tryd.func12, Tryd.ntmps12
      go_wp2_with fail
      refine (known10_any ml _ HML.out).mono ?_
      rintro x w1 ⟨rfl, hB⟩
      have R1 := hid (hr1.below hB (Nat.le_refl _))
      have B1 := hid hB
      clear hr1 hB HML
      go_wp2_with fail
      refine (MK.out _ R1.out (fun ad e h => Nat.lt_of_lt_of_le (HL.out ad e h) B1.out.size)).mono ?_
      rintro x w2 ⟨rfl, hb⟩
      have S2 := hid ((SG.start B1.out).below hb)
      clear hb R1 B1 MK
      have ST := hid ((sg_new (w := w2) (T := 33)).storeA p)
      have S3 := hid (SG.put S2.out (T := 33) zPl p (by simp))
      go_upto_region 4 with ((with_reducible refine wl_id ?_); refine wl_store rfl rfl rfl rfl ST.out ?_)
      clear ST S2
      generalize (w2.alloc (.cells (PA zPl) 33)).setCells w2.heap.size 0 (PA p).toList = w3 at *
      generalize w2.heap.size = P at *
      go_upto_region 10 with (fail)
      go_wp2_with fail
      go_loopw [10] (fun i wr => ∃ k : Nat, k ≤ 64 ∧ i = .int .i64 (k : Int) ∧ SG W wr [(P, p)] []) (fun i _ => 64 - (intOf i).toNat)
      case atStart => exact ⟨0, by omega, rfl, S3.out⟩
      case round =>
        clear S3
        obtain ⟨k, hk, rfl, hS⟩ := hrel
        have S4 := hid hS
        clear hS
        by_cases hlt : k < 64
        · have i0 : (0 : Int) ≤ k := by omega
          have i1 : (k : Int) < 64 := by omega
          have LP := (SG.get S4.out (b := P) (p := p) (by simp)).loadA
          go_wp2_with ((with_reducible refine wl_id ?_); refine wl_load rfl rfl rfl LP ?_)
          clear LP
          refine (M1.out (k : Int) 3 (by decide) (by decide) _).mono ?_
          rintro x w5 ⟨A5, d5, rfl, _, hb⟩
          have S5 := hid (S4.out.below hb)
          clear hb S4
          go_wp2_with fail
          go_roundw
          case rel => exact ⟨k + 1, by omega, by go_num, S5.out⟩
          case measure => simp [intOf]; omega
        · have e : k = 64 := by omega
          subst e
          have LP := (SG.get S4.out (b := P) (p := p) (by simp)).loadA
          go_wp2_with ((with_reducible refine wl_id ?_); refine wl_load rfl rfl rfl LP ?_)
          clear LP
          refine (M0.out (a0 + 64) 1 (by omega) _).mono ?_
          rintro x w5 ⟨A5, d5, rfl, _, hb⟩
          have S5 := hid (S4.out.below hb)
          clear hb S4
          have LP := (SG.get S5.out (b := P) (p := p) (by simp)).loadA
          go_wp2_with ((with_reducible refine wl_id ?_); refine wl_load rfl rfl rfl LP ?_)
          clear LP
          refine (M0.out (a0 + 64) 2 (by omega) _).mono ?_
          rintro x w6 ⟨A6, d6, rfl, _, hb⟩
          have S6 := hid (S5.out.below hb)
          clear hb S5
          go_wp2_with fail
          go_ret
          exact ⟨rfl, S6.out.bl⟩
    · have n1_ : (b0 == 1) = false := by simpa using e1
      by_cases e2 : b0 = 2
      · subst e2
        clear n1_
        go_enter Tryd.func12, Tryd.ntmps12
        go_wp2_with fail
        refine (known10_any ml _ HML.out).mono ?_
        rintro x w1 ⟨rfl, hB⟩
        have R1 := hid (hr1.below hB (Nat.le_refl _))
        have B1 := hid hB
        clear hr1 hB HML
        go_wp2_with fail
        refine (MK.out _ R1.out (fun ad e h => Nat.lt_of_lt_of_le (HL.out ad e h) B1.out.size)).mono ?_
        rintro x w2 ⟨rfl, hb⟩
        have S2 := hid ((SG.start B1.out).below hb)
        clear hb R1 B1 MK
        have ST := hid ((sg_new (w := w2) (T := 33)).storeA p)
        have S3 := hid (SG.put S2.out (T := 33) zPl p (by simp))
        go_upto_region 4 with ((with_reducible refine wl_id ?_); refine wl_store rfl rfl rfl rfl ST.out ?_)
        clear ST S2
        generalize (w2.alloc (.cells (PA zPl) 33)).setCells w2.heap.size 0 (PA p).toList = w3 at *
        generalize w2.heap.size = P at *
        go_upto_region 10 with (fail)
        go_wp2_with fail
        go_loopw [10] (fun i wr => ∃ k : Nat, k ≤ 64 ∧ i = .int .i64 (k : Int) ∧ SG W wr [(P, p)] []) (fun i _ => 64 - (intOf i).toNat)
        case atStart => exact ⟨0, by omega, rfl, S3.out⟩
        case round =>
          clear S3
          obtain ⟨k, hk, rfl, hS⟩ := hrel
          have S4 := hid hS
          clear hS
          by_cases hlt : k < 64
          · have i0 : (0 : Int) ≤ k := by omega
            have i1 : (k : Int) < 64 := by omega
            have LP := (SG.get S4.out (b := P) (p := p) (by simp)).loadA
            go_wp2_with ((with_reducible refine wl_id ?_); refine wl_load rfl rfl rfl LP ?_)
            clear LP
            refine (M1.out (k : Int) 4 (by decide) (by decide) _).mono ?_
            rintro x w5 ⟨A5, d5, rfl, _, hb⟩
            have S5 := hid (S4.out.below hb)
            clear hb S4
            go_wp2_with fail
            go_roundw
            case rel => exact ⟨k + 1, by omega, by go_num, S5.out⟩
            case measure => simp [intOf]; omega
          · have e : k = 64 := by omega
            subst e
            have LP := (SG.get S4.out (b := P) (p := p) (by simp)).loadA
            go_wp2_with ((with_reducible refine wl_id ?_); refine wl_load rfl rfl rfl LP ?_)
            clear LP
            refine (M0.out (a0 + 64) 1 (by omega) _).mono ?_
            rintro x w5 ⟨A5, d5, rfl, _, hb⟩
            have S5 := hid (S4.out.below hb)
            clear hb S4
            have LP := (SG.get S5.out (b := P) (p := p) (by simp)).loadA
            go_wp2_with ((with_reducible refine wl_id ?_); refine wl_load rfl rfl rfl LP ?_)
            clear LP
            refine (M0.out (a0 + 64) 2 (by omega) _).mono ?_
            rintro x w6 ⟨A6, d6, rfl, _, hb⟩
            have S6 := hid (S5.out.below hb)
            clear hb S5
            go_wp2_with fail
            go_ret
            exact ⟨rfl, S6.out.bl⟩
      · have n2_ : (b0 == 2) = false := by simpa using e2
        have E1 := hid e1
        have E2 := hid e2
        clear e1 e2
        go_enter Tryd.func12, Tryd.ntmps12
        go_wp2_with fail
        refine (known10_any ml _ HML.out).mono ?_
        rintro x w1 ⟨rfl, hB⟩
        have R1 := hid (hr1.below hB (Nat.le_refl _))
        have B1 := hid hB
        clear hr1 hB HML
        go_wp2_with fail
        refine (MK.out _ R1.out (fun ad e h => Nat.lt_of_lt_of_le (HL.out ad e h) B1.out.size)).mono ?_
        rintro x w2 ⟨rfl, hb⟩
        have S2 := hid ((SG.start B1.out).below hb)
        clear hb R1 B1 MK
        have ST := hid ((sg_new (w := w2) (T := 33)).storeA p)
        have S3 := hid (SG.put S2.out (T := 33) zPl p (by simp))
        go_upto_region 4 with ((with_reducible refine wl_id ?_); refine wl_store rfl rfl rfl rfl ST.out ?_)
        clear ST S2
        generalize (w2.alloc (.cells (PA zPl) 33)).setCells w2.heap.size 0 (PA p).toList = w3 at *
        generalize w2.heap.size = P at *
        go_upto_region 10 with (fail)
        go_wp2_with fail
        go_loopw [10] (fun i wr => ∃ k : Nat, k ≤ 64 ∧ i = .int .i64 (k : Int) ∧ SG W wr [(P, p)] []) (fun i _ => 64 - (intOf i).toNat)
        case atStart => exact ⟨0, by omega, rfl, S3.out⟩
        case round =>
          clear S3
          obtain ⟨k, hk, rfl, hS⟩ := hrel
          have S4 := hid hS
          clear hS
          by_cases hlt : k < 64
          · have i0 : (0 : Int) ≤ k := by omega
            have i1 : (k : Int) < 64 := by omega
            have LP := (SG.get S4.out (b := P) (p := p) (by simp)).loadA
            go_wp2_with ((with_reducible refine wl_id ?_); refine wl_load rfl rfl rfl LP ?_)
            clear LP
            refine (M1.out (k : Int) b0 E1.out E2.out _).mono ?_
            rintro x w5 ⟨A5, d5, rfl, _, hb⟩
            have S5 := hid (S4.out.below hb)
            clear hb S4
            go_wp2_with fail
            go_roundw
            case rel => exact ⟨k + 1, by omega, by go_num, S5.out⟩
            case measure => simp [intOf]; omega
          · have e : k = 64 := by omega
            subst e
            have LP := (SG.get S4.out (b := P) (p := p) (by simp)).loadA
            go_wp2_with ((with_reducible refine wl_id ?_); refine wl_load rfl rfl rfl LP ?_)
            clear LP
            refine (M0.out (a0 + 64) 1 (by omega) _).mono ?_
            rintro x w5 ⟨A5, d5, rfl, _, hb⟩
            have S5 := hid (S4.out.below hb)
            clear hb S4
            have LP := (SG.get S5.out (b := P) (p := p) (by simp)).loadA
            go_wp2_with ((with_reducible refine wl_id ?_); refine wl_load rfl rfl rfl LP ?_)
            clear LP
            refine (M0.out (a0 + 64) 2 (by omega) _).mono ?_
            rintro x w6 ⟨A6, d6, rfl, _, hb⟩
            have S6 := hid (S5.out.below hb)
            clear hb S5
            go_wp2_with fail
            go_ret
            exact ⟨rfl, S6.out.bl⟩

set_option maxRecDepth 100000 in
theorem lifted (os : Os) (started : os.Started) (H : Type) (enc : TypeId × Value → H) :
    ReturnsInHanded {} Tryd.checked os 12 .any (fun w args => (Rows.orderNoneSpec.pre enc Tryd.prog Tryd.f12 [] false w args ∧ laidMetH Tryd.prog Rows.orderNoneRow.laid w) ∧ sizedMet enc Tryd.prog Tryd.f12 (OpenSpec.ofChange Rows.orderNoneSpec) false w args) (Rows.orderNoneSpec.post enc Tryd.prog Tryd.f12 false true false false) :=
  law_door (s := Rows.orderNoneSpec) (laid := Rows.orderNoneRow.laid) started (by kernel_rfl) Tryd.func12
    (ChangeSpec.witness_shaped (enc := enc) (C := Tryd.checked) (os := os) (X := fun w _ => laidMetH Tryd.prog Rows.orderNoneRow.laid w) false (World.laidAll Tryd.prog os Rows.orderNoneRow.laid) #[.slice none 0 0, .int .i64 0, .int .i64 0] 8 (World.laidAll_os _ _ _)
      (World.shaped_of_ZipB (by kernel_rfl) (by kernel_rfl)) (by kernel_rfl) (by kernel_rfl) (by kernel_rfl)
      (by rw [MakeChecks.laidMetH_plain _ _ _ (by kernel_rfl)]; exact laidMet_laidAll _ (by kernel_rfl) (by kernel_rfl)))
    rfl (by rw [Tryd.params12]; decide +kernel) rfl Tryd.underlying4
    (fun ds h => by
      rw [Tryd.params12] at h
      match ds, h with
      | [_, _, _], _ => rfl)
    (fun W base args ds ps hsh hval hA hsz => by
      rw [Tryd.params12] at hA hval hsz
      obtain ⟨v0, vs0, d0, ds0, p0, q0, hargs, rfl, rfl, h0, r0⟩ := trodAll_cons hA
      obtain ⟨v1, vs1, d1, ds1, p1, q1, rfl, rfl, rfl, h1, r1⟩ := trodAll_cons r0
      obtain ⟨v2, vs2, d2, ds2, p2, q2, rfl, rfl, rfl, h2, r2⟩ := trodAll_cons r1
      obtain ⟨rfl, rfl, rfl⟩ := trodAll_nil r2
      obtain rfl : args = #[v0, v1, v2] := by cases args; simp_all
      obtain ⟨A0, n0, c0, g0, rfl, hn0, hc0, hs0, hw0, hl0, hd0⟩ := open_row Tryd.underlying22 Tryd.underlying3 (by kernel_rfl) (hval 0 22 v0 rfl rfl) h0
      have re0 : c0 * 8 ≤ 140737488351232 := by
        rcases hd0 with ⟨_, h0⟩ | ⟨xs, ys, h1, h2⟩
        · omega
        · have := sized_slice hsz (j := 0) (t := 22) (e := 3) rfl (by rw [h1]; rfl) Tryd.underlying22
          rw [h2, show Tryd.prog.bytesOf 3 = 8 from by kernel_rfl] at this
          simpa [reachBytes] using this
      obtain ⟨a1, rfl, rfl, rfl, w1⟩ := open_int Tryd.underlying3 (hval 1 3 v1 rfl rfl) h1
      obtain ⟨a2, rfl, rfl, rfl, w2⟩ := open_int Tryd.underlying3 (hval 2 3 v2 rfl rfl) h2
      exact walk W hsh A0 n0 c0 g0 hn0 hc0 hs0 (fun j => bounds_i64 (hw0 j)) hl0 re0 a1 (bounds_i64 w1) a2 (bounds_i64 w2))

theorem holds : Rows.OrderNoneSaid :=
  OpenClaim.holds_of_wide 12 Tryd.f12 rfl rfl rfl rfl rfl rfl rfl ⟨rfl, rfl, rfl, rfl, rfl⟩ rfl rfl rfl rfl rfl (by kernel_rfl) Tryd.func12 (by kernel_rfl)
    (of_decide_eq_true (by kernel_rfl)) (by unfold Func.isWrapper; first | (rw [if_pos (by decide +kernel)]; kernel_rfl) | (rw [if_neg (by decide +kernel)]; exact ⟨rfl, rfl⟩))
    (fun os started H enc _ => lifted os started H enc)
theorem proved : Rows.OrderNoneCardSaid :=
  Claim7.holds_tied_plain_at .later [] Rows.orderNoneCard.laidKinds true Rows.orderNoneCard.stood.harness false holds (fun _ h => by cases h) (by kernel_rfl) (fun _ h => by cases h) orderNone_row_tie rfl ⟨rfl, rfl⟩ (by kernel_rfl) rfl
    (fun f fn hf hfn => by
      obtain rfl : f = 12 := Option.some.inj ((show Tryd.prog.funcNamed Rows.orderNoneRow.func = some 12 by kernel_rfl).symm.trans hf) |>.symm
      obtain rfl : fn = Tryd.f12 := (Option.some.inj (Tryd.func12.symm.trans hfn)).symm
      exact ⟨by kernel_rfl, fun j t ht => by
        rw [Tryd.params12] at ht
        have hm : t ∈ [22, 3, 3] := by simpa using Array.mem_of_getElem? ht
        have hall : ([22, 3, 3].all fun u => !Tryd.prog.wantsStandIn u) = true := by kernel_rfl
        exact (show Tryd.prog.wantsStandIn t = false by simpa using List.all_eq_true.1 hall t hm)⟩)
    (by kernel_rfl)
end Go.Proofs.YtljgcffpijjliaaDoor.orderNone
