/- What is wished, as the reference tells it. -/
import Derived.Test.YtljgcffpijjliaaDoorOrdAdd
import Derived.BigQuiet
import Derived.Deep.RegionHeld3
import Derived.Deep.Cut
namespace Go.Proofs.YtljgcffpijjliaaDoor
set_option linter.unusedVariables false
set_option linter.unusedSimpArgs false
open Go.RowKit Go.ChangeShapes Go.WideShapes Go.ChangeAt

attribute [local irreducible] PA
set_option maxRecDepth 100000 in
set_option maxHeartbeats 4000000 in
theorem radd_any (p : Pl) (a q m : Int) (w : World) : Calls Tryd.prog 18 #[plV p, .int .i64 a, .int .i64 q, .int .i64 m] w (Lst w (addR p a q m).1 (addR p a q m).2) := by
  have CK0 := fun w => rcheck_any (adE a q m) w
  have TK := hid (fun w => held_any p a q w)
  unfold plV at TK ⊢
  rcases ad_chk a q m with hc | hc
  · have CK := hid (fun w => re_i64 (CK0 w) hc)
    clear CK0
    unfold enV adE at CK
    simp only at CK
    cases hh : heldB p a q
    · replace TK := hid (fun w => re_bool (TK.out w) hh)
      cases hf : freeO p
      · have HR : addR p a q m = ([], 9) := by unfold addR; rw [if_neg (by rw [hc]; decide), hh, hf]; rfl
        rw [HR]
        have FN := hid (fun j (hj : j < 64) => free_none hf j hj)
        clear HR hc hh hf
        go_enter Tryd.func18, Tryd.ntmps18
        go_upto_region 1 with (fail)
        have P1 := hid (PoolAt.made (w := w) (p := p) (T := 33) rfl)
        have B1 := hid ((Below.refl w.heap.size w).alloc (Nat.le_refl _) (.cells (PA p) 33))
        generalize w.alloc (.cells (PA p) 33) = w1 at *
        generalize hK : w.heap.size = P at *
        have HK := hid hK
        clear hK
        have C2 := hid (Ce.made (w := w1) (l := enL (adE a q m)) (T := 56) (g := w1.heap.size) rfl)
        unfold adE enL zKy at C2
        simp only [List.toArray] at C2
        have P2 := hid (P1.out.alloc (.cells #[.int .i64 1, .int .i64 0, .int .i64 a, .int .i64 q, .int .i64 m, .int .u64 0, .int .u64 0] 56))
        have B2 := hid (ba HK.out B1.out (.cells #[.int .i64 1, .int .i64 0, .int .i64 a, .int .i64 q, .int .i64 m, .int .u64 0, .int .u64 0] 56))
        have HPE := hid (show P ≤ w1.heap.size from by have := B1.out.size; rw [HK.out] at this; exact this)
        clear P1 B1
        go_upto_region 2 with (fail)
        generalize w1.alloc (.cells #[.int .i64 1, .int .i64 0, .int .i64 a, .int .i64 q, .int .i64 m, .int .u64 0, .int .u64 0] 56) = w2 at *
        generalize w1.heap.size = E at *
        have e0 := C2.out.2.1 0 _ rfl
        have e1 := C2.out.2.1 1 _ rfl
        have e2 := C2.out.2.1 2 _ rfl
        have e3 := C2.out.2.1 3 _ rfl
        have e4 := C2.out.2.1 4 _ rfl
        have e5 := C2.out.2.1 5 _ rfl
        have e6 := C2.out.2.1 6 _ rfl
        have ef := C2.out.2.2
        go_wp2_with fail
        clear e0 e1 e2 e3 e4 e5 e6 ef
        refine (CK.out _).mono ?_
        rintro x w3 ⟨rfl, hb⟩
        have P3 := hid (P2.out.below hb)
        have C3 := hid (C2.out.below hb)
        have B3 := hid (bt HK.out B2.out hb)
        clear hb P2 B2 C2
        go_upto_region 4 with (fail)
        have LP := P3.out.loadA
        go_wp2_with ((with_reducible refine wl_id ?_); refine wl_load rfl rfl rfl LP ?_)
        clear LP
        refine (TK.out _).mono ?_
        rintro x w4 ⟨rfl, hb⟩
        have P4 := hid (P3.out.below hb)
        have C4 := hid (C3.out.below hb)
        have B4 := hid (bt HK.out B3.out hb)
        clear hb P3 B3 C3
        go_wp2_with fail
        go_loopw [11] (fun i wr => ∃ j : Nat, j ≤ 64 ∧ i = .int .i64 (j : Int) ∧ PoolAt wr P p ∧ Ce wr E [.int .i64 1, .int .i64 0, .int .i64 a, .int .i64 q, .int .i64 m, .int .u64 0, .int .u64 0] ∧ Below P w wr) (fun i _ => 64 - (intOf i).toNat)
        case atStart => exact ⟨0, by omega, rfl, P4.out, C4.out, B4.out⟩
        case round =>
          clear P4 C4 B4
          obtain ⟨j, hj, rfl, hp, hc, hb⟩ := hrel
          have P5 := hid hp
          have C5 := hid hc
          have B5 := hid hb
          clear hp hc hb
          have j0 : (0 : Int) ≤ j := by omega
          by_cases hlt : j < 64
          · have cs : wr.cell? ⟨P, 3 + j * 5, none⟩ = some (.int .i64 (p.s j).st) := P5.out.cs j 0 (by omega) (by omega)
            have i1 : (j : Int) < 64 := by omega
            have b1 : ((p.s j).st == 0) = false := FN.out j hlt
            generalize (p.s j).st = st at *
            go_wp2_with fail
            go_roundw
            case rel => exact ⟨j + 1, by omega, by go_num, P5.out, C5.out, B5.out⟩
            case measure => simp [intOf]; omega
          · have e : j = 64 := by omega
            subst e
            go_wp2_with fail
            go_ret2
            exact Lst.nil (by rw [HK.out]; exact B5.out)
      · rename_i k
        have HR : addR p a q m = ([⟨1, (k : Int), a, q, m, zKy⟩, ⟨2, (k : Int), 0, 0, 0, zKy⟩], 0) := by unfold addR; rw [if_neg (by rw [hc]; decide), hh, hf]; rfl
        rw [HR]
        have FS := hid (free_some hf)
        clear HR hc hh hf
        go_enter Tryd.func18, Tryd.ntmps18
        go_upto_region 1 with (fail)
        have P1 := hid (PoolAt.made (w := w) (p := p) (T := 33) rfl)
        have B1 := hid ((Below.refl w.heap.size w).alloc (Nat.le_refl _) (.cells (PA p) 33))
        generalize w.alloc (.cells (PA p) 33) = w1 at *
        generalize hK : w.heap.size = P at *
        have HK := hid hK
        clear hK
        have C2 := hid (Ce.made (w := w1) (l := enL (adE a q m)) (T := 56) (g := w1.heap.size) rfl)
        unfold adE enL zKy at C2
        simp only [List.toArray] at C2
        have P2 := hid (P1.out.alloc (.cells #[.int .i64 1, .int .i64 0, .int .i64 a, .int .i64 q, .int .i64 m, .int .u64 0, .int .u64 0] 56))
        have B2 := hid (ba HK.out B1.out (.cells #[.int .i64 1, .int .i64 0, .int .i64 a, .int .i64 q, .int .i64 m, .int .u64 0, .int .u64 0] 56))
        have HPE := hid (show P ≤ w1.heap.size from by have := B1.out.size; rw [HK.out] at this; exact this)
        clear P1 B1
        go_upto_region 2 with (fail)
        generalize w1.alloc (.cells #[.int .i64 1, .int .i64 0, .int .i64 a, .int .i64 q, .int .i64 m, .int .u64 0, .int .u64 0] 56) = w2 at *
        generalize w1.heap.size = E at *
        have e0 := C2.out.2.1 0 _ rfl
        have e1 := C2.out.2.1 1 _ rfl
        have e2 := C2.out.2.1 2 _ rfl
        have e3 := C2.out.2.1 3 _ rfl
        have e4 := C2.out.2.1 4 _ rfl
        have e5 := C2.out.2.1 5 _ rfl
        have e6 := C2.out.2.1 6 _ rfl
        have ef := C2.out.2.2
        go_wp2_with fail
        clear e0 e1 e2 e3 e4 e5 e6 ef
        refine (CK.out _).mono ?_
        rintro x w3 ⟨rfl, hb⟩
        have P3 := hid (P2.out.below hb)
        have C3 := hid (C2.out.below hb)
        have B3 := hid (bt HK.out B2.out hb)
        clear hb P2 B2 C2
        go_upto_region 4 with (fail)
        have LP := P3.out.loadA
        go_wp2_with ((with_reducible refine wl_id ?_); refine wl_load rfl rfl rfl LP ?_)
        clear LP
        refine (TK.out _).mono ?_
        rintro x w4 ⟨rfl, hb⟩
        have P4 := hid (P3.out.below hb)
        have C4 := hid (C3.out.below hb)
        have B4 := hid (bt HK.out B3.out hb)
        clear hb P3 B3 C3
        go_wp2_with fail
        go_loopw [11] (fun i wr => ∃ j : Nat, j ≤ k ∧ i = .int .i64 (j : Int) ∧ PoolAt wr P p ∧ Ce wr E [.int .i64 1, .int .i64 0, .int .i64 a, .int .i64 q, .int .i64 m, .int .u64 0, .int .u64 0] ∧ Below P w wr) (fun i _ => k - (intOf i).toNat)
        case atStart => exact ⟨0, by omega, rfl, P4.out, C4.out, B4.out⟩
        case round =>
          clear P4 C4 B4
          obtain ⟨j, hj, rfl, hp, hc, hb⟩ := hrel
          have P5 := hid hp
          have C5 := hid hc
          have B5 := hid hb
          clear hp hc hb
          have j0 : (0 : Int) ≤ j := by omega
          have k64 := FS.out.1
          by_cases hlt : j < k
          · have cs : wr.cell? ⟨P, 3 + j * 5, none⟩ = some (.int .i64 (p.s j).st) := P5.out.cs j 0 (by omega) (by omega)
            have i1 : (j : Int) < 64 := by omega
            have b1 : ((p.s j).st == 0) = false := FS.out.2.2 j hlt
            generalize (p.s j).st = st at *
            go_wp2_with fail
            go_roundw
            case rel => exact ⟨j + 1, by omega, by go_num, P5.out, C5.out, B5.out⟩
            case measure => simp [intOf]; omega
          · have e : j = k := by omega
            subst e
            have cs : wr.cell? ⟨P, 3 + j * 5, none⟩ = some (.int .i64 (p.s j).st) := P5.out.cs j 0 (by omega) (by omega)
            have i1 : (j : Int) < 64 := by omega
            have b1 : ((p.s j).st == 0) = true := FS.out.2.1
            generalize (p.s j).st = st at *
            have e0 := C5.out.2.1 0 _ rfl
            have e1 := C5.out.2.1 1 _ rfl
            have e2 := C5.out.2.1 2 _ rfl
            have e3 := C5.out.2.1 3 _ rfl
            have e4 := C5.out.2.1 4 _ rfl
            have e5 := C5.out.2.1 5 _ rfl
            have e6 := C5.out.2.1 6 _ rfl
            have ef := C5.out.2.2
            go_upto_region 11 with (fail)
            clear e0 e1 e2 e3 e4 e5 e6 ef
            clear cs
            have C6 := hid (C5.out.set 1 (.int .i64 (j : Int)) (by simp))
            simp only [List.set_cons_succ, List.set_cons_zero] at C6
            have B6 := hid (B5.out.setCell (p := ⟨E, 1, none⟩) HPE.out (.int .i64 (j : Int)))
            generalize wr.setCell ⟨E, 1, none⟩ (.int .i64 (j : Int)) = w6 at *
            have e0 := C6.out.2.1 0 _ rfl
            have e1 := C6.out.2.1 1 _ rfl
            have e2 := C6.out.2.1 2 _ rfl
            have e3 := C6.out.2.1 3 _ rfl
            have e4 := C6.out.2.1 4 _ rfl
            have e5 := C6.out.2.1 5 _ rfl
            have e6 := C6.out.2.1 6 _ rfl
            have ef := C6.out.2.2
            go_wp2_with fail
            clear e0 e1 e2 e3 e4 e5 e6 ef
            go_ret2
            exact Lst.lit [⟨1, (j : Int), a, q, m, zKy⟩, ⟨2, (j : Int), 0, 0, 0, zKy⟩] rfl rfl (by simp) rfl (by rw [HK.out]; exact B6.out)
    · replace TK := hid (fun w => re_bool (TK.out w) hh)
      have HR : addR p a q m = ([], 12) := by unfold addR; rw [if_neg (by rw [hc]; decide), hh]; rfl
      rw [HR]
      clear HR hc hh
      go_enter Tryd.func18, Tryd.ntmps18
      go_upto_region 1 with (fail)
      have P1 := hid (PoolAt.made (w := w) (p := p) (T := 33) rfl)
      have B1 := hid ((Below.refl w.heap.size w).alloc (Nat.le_refl _) (.cells (PA p) 33))
      generalize w.alloc (.cells (PA p) 33) = w1 at *
      generalize hK : w.heap.size = P at *
      have HK := hid hK
      clear hK
      have C2 := hid (Ce.made (w := w1) (l := enL (adE a q m)) (T := 56) (g := w1.heap.size) rfl)
      unfold adE enL zKy at C2
      simp only [List.toArray] at C2
      have P2 := hid (P1.out.alloc (.cells #[.int .i64 1, .int .i64 0, .int .i64 a, .int .i64 q, .int .i64 m, .int .u64 0, .int .u64 0] 56))
      have B2 := hid (ba HK.out B1.out (.cells #[.int .i64 1, .int .i64 0, .int .i64 a, .int .i64 q, .int .i64 m, .int .u64 0, .int .u64 0] 56))
      have HPE := hid (show P ≤ w1.heap.size from by have := B1.out.size; rw [HK.out] at this; exact this)
      clear P1 B1
      go_upto_region 2 with (fail)
      generalize w1.alloc (.cells #[.int .i64 1, .int .i64 0, .int .i64 a, .int .i64 q, .int .i64 m, .int .u64 0, .int .u64 0] 56) = w2 at *
      generalize w1.heap.size = E at *
      have e0 := C2.out.2.1 0 _ rfl
      have e1 := C2.out.2.1 1 _ rfl
      have e2 := C2.out.2.1 2 _ rfl
      have e3 := C2.out.2.1 3 _ rfl
      have e4 := C2.out.2.1 4 _ rfl
      have e5 := C2.out.2.1 5 _ rfl
      have e6 := C2.out.2.1 6 _ rfl
      have ef := C2.out.2.2
      go_wp2_with fail
      clear e0 e1 e2 e3 e4 e5 e6 ef
      refine (CK.out _).mono ?_
      rintro x w3 ⟨rfl, hb⟩
      have P3 := hid (P2.out.below hb)
      have C3 := hid (C2.out.below hb)
      have B3 := hid (bt HK.out B2.out hb)
      clear hb P2 B2 C2
      go_upto_region 4 with (fail)
      have LP := P3.out.loadA
      go_wp2_with ((with_reducible refine wl_id ?_); refine wl_load rfl rfl rfl LP ?_)
      clear LP
      refine (TK.out _).mono ?_
      rintro x w4 ⟨rfl, hb⟩
      have P4 := hid (P3.out.below hb)
      have C4 := hid (C3.out.below hb)
      have B4 := hid (bt HK.out B3.out hb)
      clear hb P3 B3 C3
      go_wp2_with fail
      go_ret2
      exact Lst.nil (by rw [HK.out]; exact B4.out)
  · have CK := hid (fun w => re_i64 (CK0 w) hc)
    clear CK0
    unfold enV adE at CK
    simp only at CK
    have HR : addR p a q m = ([], 14) := by unfold addR; rw [if_pos (by rw [hc]; decide)]
    rw [HR]
    clear HR hc
    go_enter Tryd.func18, Tryd.ntmps18
    go_upto_region 1 with (fail)
    have P1 := hid (PoolAt.made (w := w) (p := p) (T := 33) rfl)
    have B1 := hid ((Below.refl w.heap.size w).alloc (Nat.le_refl _) (.cells (PA p) 33))
    generalize w.alloc (.cells (PA p) 33) = w1 at *
    generalize hK : w.heap.size = P at *
    have HK := hid hK
    clear hK
    have C2 := hid (Ce.made (w := w1) (l := enL (adE a q m)) (T := 56) (g := w1.heap.size) rfl)
    unfold adE enL zKy at C2
    simp only [List.toArray] at C2
    have P2 := hid (P1.out.alloc (.cells #[.int .i64 1, .int .i64 0, .int .i64 a, .int .i64 q, .int .i64 m, .int .u64 0, .int .u64 0] 56))
    have B2 := hid (ba HK.out B1.out (.cells #[.int .i64 1, .int .i64 0, .int .i64 a, .int .i64 q, .int .i64 m, .int .u64 0, .int .u64 0] 56))
    have HPE := hid (show P ≤ w1.heap.size from by have := B1.out.size; rw [HK.out] at this; exact this)
    clear P1 B1
    go_upto_region 2 with (fail)
    generalize w1.alloc (.cells #[.int .i64 1, .int .i64 0, .int .i64 a, .int .i64 q, .int .i64 m, .int .u64 0, .int .u64 0] 56) = w2 at *
    generalize w1.heap.size = E at *
    have e0 := C2.out.2.1 0 _ rfl
    have e1 := C2.out.2.1 1 _ rfl
    have e2 := C2.out.2.1 2 _ rfl
    have e3 := C2.out.2.1 3 _ rfl
    have e4 := C2.out.2.1 4 _ rfl
    have e5 := C2.out.2.1 5 _ rfl
    have e6 := C2.out.2.1 6 _ rfl
    have ef := C2.out.2.2
    go_wp2_with fail
    clear e0 e1 e2 e3 e4 e5 e6 ef
    refine (CK.out _).mono ?_
    rintro x w3 ⟨rfl, hb⟩
    have P3 := hid (P2.out.below hb)
    have C3 := hid (C2.out.below hb)
    have B3 := hid (bt HK.out B2.out hb)
    clear hb P2 B2 C2
    go_wp2_with fail
    go_ret2
    exact Lst.nil (by rw [HK.out]; exact B3.out)
end Go.Proofs.YtljgcffpijjliaaDoor
