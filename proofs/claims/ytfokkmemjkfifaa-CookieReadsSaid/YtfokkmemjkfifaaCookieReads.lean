/- roundhouselaw5.CookieReads answers true for every epoch, number, kind, flow, slot, bit, number and step; no condition. -/
import Derived.Test.YtfokkmemjkfifaaCookLaw
namespace Go.Proofs.Ytfokkmemjkfifaa.cookieReads
set_option linter.unusedVariables false
set_option linter.unusedSimpArgs false
open Go.RowKit Go.ChangeShapes Go.WideShapes Go.ChangeAt

/-- Eight numbers laid out: just that they are there is kept. -/
theorem wp_eight {P : Program} {c : Code} {Q : Exit → Act → World → Prop} {act : Act} {w : World} {T : TypeId} {a0 a1 a2 a3 a4 a5 a6 a7 : Int}
    (h : ∀ (w' : World) (lv : Nat → Int), Is w' (some ⟨w.heap.size, 0, none⟩) 8 lv → w.heap.size < w'.heap.size → Below w.heap.size w w' → c.wp P Q act w') :
    c.wp P Q act (w.alloc (.cells #[.int .i64 a0, .int .i64 a1, .int .i64 a2, .int .i64 a3, .int .i64 a4, .int .i64 a5, .int .i64 a6, .int .i64 a7] T)) :=
  h _ _ (row_lit .i64 w T [a0, a1, a2, a3, a4, a5, a6, a7]) (by simp) ((Below.refl _ _).alloc (Nat.le_refl _) _)

set_option maxRecDepth 100000 in
set_option maxHeartbeats 8000000 in
theorem walk (W : World) (ep : Int) (rep : -9223372036854775808 ≤ ep ∧ ep ≤ 9223372036854775807)
    (a : Int) (ra : -9223372036854775808 ≤ a ∧ a ≤ 9223372036854775807) (b : Bool) (f0 : Int) (rf0 : -9223372036854775808 ≤ f0 ∧ f0 ≤ 9223372036854775807)
    (g0 : Int) (rg0 : -9223372036854775808 ≤ g0 ∧ g0 ≤ 9223372036854775807) (s0 : Int) (rs0 : -9223372036854775808 ≤ s0 ∧ s0 ≤ 9223372036854775807)
    (bit : Int) (rbit : -9223372036854775808 ≤ bit ∧ bit ≤ 9223372036854775807) (c0 : Int) (rc0 : -9223372036854775808 ≤ c0 ∧ c0 ≤ 9223372036854775807)
    (h0 : Int) (rh0 : -9223372036854775808 ≤ h0 ∧ h0 ≤ 9223372036854775807) :
    Calls Try.prog 4 #[.int .i64 ep, .int .i64 a, .bool b, .int .i64 f0, .int .i64 g0, .int .i64 s0, .int .i64 bit, .int .i64 c0, .int .i64 h0] W fun e w' => e = .returned (.bool true) ∧ Below W.heap.size W w' := by
  obtain ⟨r, hr⟩ : ∃ r, r = rgE ep a := ⟨_, rfl⟩
  have hE := rgE_ep ep a
  rw [← hr] at hE
  have LR := fun w => re_v (lring_any ep a rep ra w) (show _ = rgV r by rw [hr])
  obtain ⟨f, hf⟩ : ∃ f, f = flN f0 g0 := ⟨_, rfl⟩
  have hI : f.I := by rw [hf]; exact flN_I _ _
  have LF := fun w => re_v (lflow_any f0 g0 w rf0 rg0) (show _ = flV f by rw [hf])
  have wb := wi_bd s0 64 (by omega)
  obtain ⟨s, hs⟩ : ∃ s, s = wi s0 64 := ⟨_, rfl⟩
  rw [← hs] at wb
  have WS := fun w => re_i64 (within_any s0 64 w (by omega) (by omega)) hs.symm
  have wr1 : I64 (wrap64 (ep + h0)) := by unfold I64 wrap64; omega
  have wr2 : I64 (wrap64 (g0 + h0)) := by unfold I64 wrap64; omega
  obtain ⟨r2, hr2⟩ : ∃ r2, r2 = rgE (wrap64 (ep + h0)) a := ⟨_, rfl⟩
  have hE2 := rgE_ep (wrap64 (ep + h0)) a
  rw [← hr2] at hE2
  have LR2 := fun w => re_v (lring_any (wrap64 (ep + h0)) a wr1 ra w) (show _ = rgV r2 by rw [hr2])
  obtain ⟨f2, hf2⟩ : ∃ f2, f2 = flN f0 (wrap64 (g0 + h0)) := ⟨_, rfl⟩
  have hI2 : f2.I := by rw [hf2]; exact flN_I _ _
  have LF2 := fun w => re_v (lflow_any f0 (wrap64 (g0 + h0)) w rf0 wr2) (show _ = flV f2 by rw [hf2])
  have wb3 := wi_bd bit 21 (by omega)
  obtain ⟨bt, hbt⟩ : ∃ bt, bt = wi bit 21 := ⟨_, rfl⟩
  rw [← hbt] at wb3
  have WS3 := fun w => re_i64 (within_any bit 21 w (by omega) (by omega)) hbt.symm
  have wb4 := wi_bd c0 1048576 (by omega)
  obtain ⟨m1, hm1⟩ : ∃ m1, m1 = wi c0 1048576 := ⟨_, rfl⟩
  rw [← hm1] at wb4
  have WS4 := fun w => re_i64 (within_any c0 1048576 w (by omega) (by omega)) hm1.symm
  have wb5 := wi_bd c0 65536 (by omega)
  obtain ⟨m2, hm2⟩ : ∃ m2, m2 = wi c0 65536 := ⟨_, rfl⟩
  rw [← hm2] at wb5
  have WS5 := fun w => re_i64 (within_any c0 65536 w (by omega) (by omega)) hm2.symm
  obtain ⟨x, hx⟩ : ∃ x, x = cok (tB b) r.c (kdB b) f s (r.e % 4) := ⟨_, rfl⟩
  have hp := cok_parts (tB b) r.c (kdB b) f s (r.e % 4) (tB_T b) wb (by omega)
  rw [← hx] at hp
  obtain ⟨_, _, _, hp4, hp5⟩ := hp
  have hx20 : x < 1048576 := by rcases tB_T b with h | h <;> rw [h] at hp5 <;> omega
  have RM := fun w => re_i64 (rmake_b b r f s hI wb w) hx.symm
  obtain ⟨o, ho⟩ : ∃ o : Int → Option Int, o = fun c => readC (tB b) r (kdB b) f c := ⟨_, rfl⟩
  obtain ⟨o2, ho2⟩ : ∃ o2 : Int → Option Int, o2 = fun c => readC (tB b) r2 (kdB b) f2 c := ⟨_, rfl⟩
  have RD := fun c w => re_v (read_b b r f c hI hE.1 w) (show _ = rdO (o c) by rw [ho])
  have RR := fun c w => re_v (rread_b b r f c hI hE.1 w) (show _ = rdO (o c) by rw [ho])
  have RD2 := fun c w => re_v (read_b b r2 f2 c hI2 hE2.1 w) (show _ = rdO (o2 c) by rw [ho2])
  have RR2 := fun c w => re_v (rread_b b r2 f2 c hI2 hE2.1 w) (show _ = rdO (o2 c) by rw [ho2])
  have u3 : IntKind.u64.wrap bt = bt := by rw [IntKind.wrap_u64]; omega
  obtain ⟨v31, v32⟩ := wb3
  have LR2' := LR2
  have LF2' := LF2
  rw [← IntWalk.i64_left] at LR2' LF2'
  clear hx hp5 hr hf hs hr2 hf2 hbt hm1 hm2 ho ho2
  cases b
  all_goals
    unfold rgV flV rdO kdB tB at *
    simp only [if_true, Bool.false_eq_true, if_false, Option.getD_some, Option.isSome_some, Option.getD_none, Option.isSome_none] at *
    replace LR := hid LR
    replace LF := hid LF
    replace WS := hid WS
    replace LR2 := hid LR2
    replace LF2 := hid LF2
    replace LR2' := hid LR2'
    replace LF2' := hid LF2'
    replace WS3 := hid WS3
    replace WS4 := hid WS4
    replace WS5 := hid WS5
    replace RM := hid RM
    replace RD := hid RD
    replace RR := hid RR
    replace RD2 := hid RD2
    replace RR2 := hid RR2
    go_enter Try.func4, Try.ntmps4
    go_wp2_with fail
    refine (known_any _).mono ?_
    rintro e' w ⟨rfl, hb1⟩
    have B := hb1
    clear hb1
    go_wp2_with fail
    refine (LR.out _).mono ?_
    rintro e' w1 ⟨rfl, hb⟩
    replace B := B.trans (hb.mono B.size)
    clear hb
    go_wp2_with fail
    have CA := Ce.made (w := w1) (l := [.int .i64 r.e, .int .u64 r.p.a, .int .u64 r.p.b, .int .u64 r.c.a, .int .u64 r.c.b, .int .u64 r.n.a, .int .u64 r.n.b]) (T := 27) (g := w1.heap.size) rfl
    replace B := B.alloc B.size (.cells #[.int .i64 r.e, .int .u64 r.p.a, .int .u64 r.p.b, .int .u64 r.c.a, .int .u64 r.c.b, .int .u64 r.n.a, .int .u64 r.n.b] 27)
    generalize w1.alloc (.cells #[.int .i64 r.e, .int .u64 r.p.a, .int .u64 r.p.b, .int .u64 r.c.a, .int .u64 r.c.b, .int .u64 r.n.a, .int .u64 r.n.b] 27) = w2 at *
    generalize w1.heap.size = A at *
    obtain ⟨kA, qA, zA⟩ := id CA
    have cA0 := qA 0 _ rfl
    have cA1 := qA 1 _ rfl
    have cA2 := qA 2 _ rfl
    have cA3 := qA 3 _ rfl
    have cA4 := qA 4 _ rfl
    have cA5 := qA 5 _ rfl
    have cA6 := qA 6 _ rfl
    clear qA zA
    first
     | (go_region_held3 (fun w' => w'.cell? ⟨A, 0, none⟩ = some (.int .i64 r.e) ∧ w'.cell? ⟨A, 1, none⟩ = some (.int .u64 r.p.a) ∧ w'.cell? ⟨A, 2, none⟩ = some (.int .u64 r.p.b) ∧ w'.cell? ⟨A, 3, none⟩ = some (.int .u64 r.c.a) ∧ w'.cell? ⟨A, 4, none⟩ = some (.int .u64 r.c.b) ∧ w'.cell? ⟨A, 5, none⟩ = some (.int .u64 r.n.a) ∧ w'.cell? ⟨A, 6, none⟩ = some (.int .u64 r.n.b) ∧ A < w'.heap.size ∧ Below W.heap.size W w')
      (first
        | (go_split_ands; refine ⟨?_, ?_, ?_, ?_, ?_, ?_, ?_, ?_, ?_⟩; exact (hb5.cell (p := ⟨A, 0, none⟩) (by assumption)).trans (by assumption); exact (hb5.cell (p := ⟨A, 1, none⟩) (by assumption)).trans (by assumption); exact (hb5.cell (p := ⟨A, 2, none⟩) (by assumption)).trans (by assumption); exact (hb5.cell (p := ⟨A, 3, none⟩) (by assumption)).trans (by assumption); exact (hb5.cell (p := ⟨A, 4, none⟩) (by assumption)).trans (by assumption); exact (hb5.cell (p := ⟨A, 5, none⟩) (by assumption)).trans (by assumption); exact (hb5.cell (p := ⟨A, 6, none⟩) (by assumption)).trans (by assumption); exact Nat.lt_of_lt_of_le (by assumption) hb5.size; exact Below.trans (by assumption) (hb5.mono (by first | exact Nat.le_of_lt (by assumption) | exact Below.size (by assumption))))
        | (refine ⟨?_, ?_, ?_, ?_, ?_, ?_, ?_, ?_, ?_⟩; assumption; assumption; assumption; assumption; assumption; assumption; assumption; assumption; exact Below.drew (by assumption))
        | (go_split_ands; refine ⟨?_, ?_, ?_, ?_, ?_, ?_, ?_, ?_, ?_⟩; exact (World.cell?_alloc_lt _ _ ⟨A, 0, none⟩ (by assumption)).trans (by assumption); exact (World.cell?_alloc_lt _ _ ⟨A, 1, none⟩ (by assumption)).trans (by assumption); exact (World.cell?_alloc_lt _ _ ⟨A, 2, none⟩ (by assumption)).trans (by assumption); exact (World.cell?_alloc_lt _ _ ⟨A, 3, none⟩ (by assumption)).trans (by assumption); exact (World.cell?_alloc_lt _ _ ⟨A, 4, none⟩ (by assumption)).trans (by assumption); exact (World.cell?_alloc_lt _ _ ⟨A, 5, none⟩ (by assumption)).trans (by assumption); exact (World.cell?_alloc_lt _ _ ⟨A, 6, none⟩ (by assumption)).trans (by assumption); (simp; omega); exact Below.alloc (by assumption) (by first | exact Nat.le_of_lt (by assumption) | exact Below.size (by assumption)) _)
        | (go_split_ands; refine ⟨?_, ?_, ?_, ?_, ?_, ?_, ?_, ?_, ?_⟩; exact (World.cell?_alloc_lt _ _ ⟨A, 0, none⟩ (by assumption)).trans (by assumption); exact (World.cell?_alloc_lt _ _ ⟨A, 1, none⟩ (by assumption)).trans (by assumption); exact (World.cell?_alloc_lt _ _ ⟨A, 2, none⟩ (by assumption)).trans (by assumption); exact (World.cell?_alloc_lt _ _ ⟨A, 3, none⟩ (by assumption)).trans (by assumption); exact (World.cell?_alloc_lt _ _ ⟨A, 4, none⟩ (by assumption)).trans (by assumption); exact (World.cell?_alloc_lt _ _ ⟨A, 5, none⟩ (by assumption)).trans (by assumption); exact (World.cell?_alloc_lt _ _ ⟨A, 6, none⟩ (by assumption)).trans (by assumption); exact Nat.lt_of_lt_of_le (by assumption) (Below.drew (Below.alloc (Below.refl _ _) (Nat.le_refl _) _)).size; exact Below.drew (Below.alloc (by assumption) (Below.size (by assumption)) _))
        | (go_split_ands; refine ⟨?_, ?_, ?_, ?_, ?_, ?_, ?_, ?_, ?_⟩; assumption; assumption; assumption; assumption; assumption; assumption; assumption; assumption; assumption)
        | go_keep)
      ((first
        | (go_at_call 19
           go_split_ands
           with_reducible refine (LF.out _).mono ?_
           rintro e w5 ⟨rfl, hb5⟩)
        | (go_at_call 17
           go_split_ands
           with_reducible refine (WS.out _).mono ?_
           rintro e w5 ⟨rfl, rfl⟩)
        | (go_at_call 21
           go_split_ands
           with_reducible refine (RM.out _).mono ?_
           rintro e w5 ⟨rfl, hb5⟩))))
     | fail "the region"
    go_split_ands
    go_wp2_with fail
    refine (WS3.out _).mono ?_
    rintro e' w7 ⟨rfl, rfl⟩
    go_wp2_with fail
    refine (WS4.out _).mono ?_
    rintro e' w7 ⟨rfl, rfl⟩
    go_wp2_with fail
    refine (WS5.out _).mono ?_
    rintro e' w7 ⟨rfl, rfl⟩
    go_wp2_with fail
    refine wp_eight ?_
    intro w8 lv hL hlt hb8
    have d0 := (hb8.cell (p := ⟨A, 0, none⟩) (by assumption)).trans (show _ = some (.int .i64 r.e) by assumption)
    have d1 := (hb8.cell (p := ⟨A, 1, none⟩) (by assumption)).trans (show _ = some (.int .u64 r.p.a) by assumption)
    have d2 := (hb8.cell (p := ⟨A, 2, none⟩) (by assumption)).trans (show _ = some (.int .u64 r.p.b) by assumption)
    have d3 := (hb8.cell (p := ⟨A, 3, none⟩) (by assumption)).trans (show _ = some (.int .u64 r.c.a) by assumption)
    have d4 := (hb8.cell (p := ⟨A, 4, none⟩) (by assumption)).trans (show _ = some (.int .u64 r.c.b) by assumption)
    have d5 := (hb8.cell (p := ⟨A, 5, none⟩) (by assumption)).trans (show _ = some (.int .u64 r.n.a) by assumption)
    have d6 := (hb8.cell (p := ⟨A, 6, none⟩) (by assumption)).trans (show _ = some (.int .u64 r.n.b) by assumption)
    have dA : A < w8.heap.size := Nat.lt_of_lt_of_le (by assumption) hb8.size
    have B8 : Below W.heap.size W w8 := Below.trans (by assumption) (hb8.mono (Below.size (by assumption)))
    generalize w5.heap.size = X at *
    clear hb8 hlt
    go_loopw [23, 24, 25, 26, 27, 28, 29, 30, 31] (fun i _ _ _ _ _ _ _ _ wr => ∃ k : Nat, k ≤ 8 ∧ i = .int .i64 k ∧ wr.cell? ⟨A, 0, none⟩ = some (.int .i64 r.e) ∧ wr.cell? ⟨A, 1, none⟩ = some (.int .u64 r.p.a) ∧ wr.cell? ⟨A, 2, none⟩ = some (.int .u64 r.p.b) ∧ wr.cell? ⟨A, 3, none⟩ = some (.int .u64 r.c.a) ∧ wr.cell? ⟨A, 4, none⟩ = some (.int .u64 r.c.b) ∧ wr.cell? ⟨A, 5, none⟩ = some (.int .u64 r.n.a) ∧ wr.cell? ⟨A, 6, none⟩ = some (.int .u64 r.n.b) ∧ A < wr.heap.size ∧ Is wr (some ⟨X, 0, none⟩) 8 lv ∧ Below W.heap.size W wr) (fun i _ _ _ _ _ _ _ _ _ => 8 - (intOf i).toNat)
    case atStart => exact ⟨0, by omega, rfl, d0, d1, d2, d3, d4, d5, d6, dA, hL, B8⟩
    case round =>
      obtain ⟨k, hk, rfl, e0, e1, e2, e3, e4, e5, e6, eA, eL, eB⟩ := hrel
      clear d0 d1 d2 d3 d4 d5 d6 dA hL B8
      by_cases hlt : k < 8
      · have ck : wr.cell? ⟨X, k, none⟩ = some (.int .i64 (lv k)) := by
          have := eL.at_ hlt
          simpa using this
        have kX : X < wr.heap.size := eL.lt (by omega)
        have i1 : (k : Int) < 8 := by omega
        have i0 : (0 : Int) ≤ k := by omega
        go_wp2_with fail
        first
         | (go_region_held3 (fun w' => w'.cell? ⟨A, 0, none⟩ = some (.int .i64 r.e) ∧ w'.cell? ⟨A, 1, none⟩ = some (.int .u64 r.p.a) ∧ w'.cell? ⟨A, 2, none⟩ = some (.int .u64 r.p.b) ∧ w'.cell? ⟨A, 3, none⟩ = some (.int .u64 r.c.a) ∧ w'.cell? ⟨A, 4, none⟩ = some (.int .u64 r.c.b) ∧ w'.cell? ⟨A, 5, none⟩ = some (.int .u64 r.n.a) ∧ w'.cell? ⟨A, 6, none⟩ = some (.int .u64 r.n.b) ∧ w'.cell? ⟨X, k, none⟩ = some (.int .i64 (lv k)) ∧ A < w'.heap.size ∧ X < w'.heap.size ∧ Is w' (some ⟨X, 0, none⟩) 8 lv ∧ Below W.heap.size W w')
          (first
            | (go_split_ands; refine ⟨?_, ?_, ?_, ?_, ?_, ?_, ?_, ?_, ?_, ?_, ?_, ?_⟩; exact (hb5.cell (p := ⟨A, 0, none⟩) (by assumption)).trans (by assumption); exact (hb5.cell (p := ⟨A, 1, none⟩) (by assumption)).trans (by assumption); exact (hb5.cell (p := ⟨A, 2, none⟩) (by assumption)).trans (by assumption); exact (hb5.cell (p := ⟨A, 3, none⟩) (by assumption)).trans (by assumption); exact (hb5.cell (p := ⟨A, 4, none⟩) (by assumption)).trans (by assumption); exact (hb5.cell (p := ⟨A, 5, none⟩) (by assumption)).trans (by assumption); exact (hb5.cell (p := ⟨A, 6, none⟩) (by assumption)).trans (by assumption); exact (hb5.cell (p := ⟨X, k, none⟩) (by assumption)).trans (by assumption); exact Nat.lt_of_lt_of_le (by assumption) hb5.size; exact Nat.lt_of_lt_of_le (by assumption) hb5.size; exact Sl.below (by assumption) hb5 (Nat.le_refl _); exact Below.trans (by assumption) (hb5.mono (by first | exact Nat.le_of_lt (by assumption) | exact Below.size (by assumption))))
            | (refine ⟨?_, ?_, ?_, ?_, ?_, ?_, ?_, ?_, ?_, ?_, ?_, ?_⟩; assumption; assumption; assumption; assumption; assumption; assumption; assumption; assumption; assumption; assumption; exact Sl.drew (by assumption); exact Below.drew (by assumption))
            | (go_split_ands; refine ⟨?_, ?_, ?_, ?_, ?_, ?_, ?_, ?_, ?_, ?_, ?_, ?_⟩; exact (World.cell?_alloc_lt _ _ ⟨A, 0, none⟩ (by assumption)).trans (by assumption); exact (World.cell?_alloc_lt _ _ ⟨A, 1, none⟩ (by assumption)).trans (by assumption); exact (World.cell?_alloc_lt _ _ ⟨A, 2, none⟩ (by assumption)).trans (by assumption); exact (World.cell?_alloc_lt _ _ ⟨A, 3, none⟩ (by assumption)).trans (by assumption); exact (World.cell?_alloc_lt _ _ ⟨A, 4, none⟩ (by assumption)).trans (by assumption); exact (World.cell?_alloc_lt _ _ ⟨A, 5, none⟩ (by assumption)).trans (by assumption); exact (World.cell?_alloc_lt _ _ ⟨A, 6, none⟩ (by assumption)).trans (by assumption); exact (World.cell?_alloc_lt _ _ ⟨X, k, none⟩ (by assumption)).trans (by assumption); (simp; omega); (simp; omega); exact Sl.alloc (by assumption) _; exact Below.alloc (by assumption) (by first | exact Nat.le_of_lt (by assumption) | exact Below.size (by assumption)) _)
            | (go_split_ands; refine ⟨?_, ?_, ?_, ?_, ?_, ?_, ?_, ?_, ?_, ?_, ?_, ?_⟩; exact (World.cell?_alloc_lt _ _ ⟨A, 0, none⟩ (by assumption)).trans (by assumption); exact (World.cell?_alloc_lt _ _ ⟨A, 1, none⟩ (by assumption)).trans (by assumption); exact (World.cell?_alloc_lt _ _ ⟨A, 2, none⟩ (by assumption)).trans (by assumption); exact (World.cell?_alloc_lt _ _ ⟨A, 3, none⟩ (by assumption)).trans (by assumption); exact (World.cell?_alloc_lt _ _ ⟨A, 4, none⟩ (by assumption)).trans (by assumption); exact (World.cell?_alloc_lt _ _ ⟨A, 5, none⟩ (by assumption)).trans (by assumption); exact (World.cell?_alloc_lt _ _ ⟨A, 6, none⟩ (by assumption)).trans (by assumption); exact (World.cell?_alloc_lt _ _ ⟨X, k, none⟩ (by assumption)).trans (by assumption); exact Nat.lt_of_lt_of_le (by assumption) (Below.drew (Below.alloc (Below.refl _ _) (Nat.le_refl _) _)).size; exact Nat.lt_of_lt_of_le (by assumption) (Below.drew (Below.alloc (Below.refl _ _) (Nat.le_refl _) _)).size; exact Sl.drew (Sl.alloc (by assumption) _); exact Below.drew (Below.alloc (by assumption) (Below.size (by assumption)) _))
            | (go_split_ands; refine ⟨?_, ?_, ?_, ?_, ?_, ?_, ?_, ?_, ?_, ?_, ?_, ?_⟩; assumption; assumption; assumption; assumption; assumption; assumption; assumption; assumption; assumption; assumption; assumption; assumption)
            | go_keep)
          ((first
            | (go_at_call 19
               go_split_ands
               with_reducible refine (LF.out _).mono ?_
               rintro e w5 ⟨rfl, hb5⟩)
            | (go_at_call 20
               go_split_ands
               with_reducible refine (RD.out (lv k) _).mono ?_
               rintro e w5 ⟨rfl, hb5⟩))))
         | fail "the region"
        go_split_ands
        go_wp2_with fail
        first
         | (go_region_held3 (fun w' => w'.cell? ⟨A, 0, none⟩ = some (.int .i64 r.e) ∧ w'.cell? ⟨A, 1, none⟩ = some (.int .u64 r.p.a) ∧ w'.cell? ⟨A, 2, none⟩ = some (.int .u64 r.p.b) ∧ w'.cell? ⟨A, 3, none⟩ = some (.int .u64 r.c.a) ∧ w'.cell? ⟨A, 4, none⟩ = some (.int .u64 r.c.b) ∧ w'.cell? ⟨A, 5, none⟩ = some (.int .u64 r.n.a) ∧ w'.cell? ⟨A, 6, none⟩ = some (.int .u64 r.n.b) ∧ w'.cell? ⟨X, k, none⟩ = some (.int .i64 (lv k)) ∧ A < w'.heap.size ∧ X < w'.heap.size ∧ Is w' (some ⟨X, 0, none⟩) 8 lv ∧ Below W.heap.size W w')
          (first
            | (go_split_ands; refine ⟨?_, ?_, ?_, ?_, ?_, ?_, ?_, ?_, ?_, ?_, ?_, ?_⟩; exact (hb5.cell (p := ⟨A, 0, none⟩) (by assumption)).trans (by assumption); exact (hb5.cell (p := ⟨A, 1, none⟩) (by assumption)).trans (by assumption); exact (hb5.cell (p := ⟨A, 2, none⟩) (by assumption)).trans (by assumption); exact (hb5.cell (p := ⟨A, 3, none⟩) (by assumption)).trans (by assumption); exact (hb5.cell (p := ⟨A, 4, none⟩) (by assumption)).trans (by assumption); exact (hb5.cell (p := ⟨A, 5, none⟩) (by assumption)).trans (by assumption); exact (hb5.cell (p := ⟨A, 6, none⟩) (by assumption)).trans (by assumption); exact (hb5.cell (p := ⟨X, k, none⟩) (by assumption)).trans (by assumption); exact Nat.lt_of_lt_of_le (by assumption) hb5.size; exact Nat.lt_of_lt_of_le (by assumption) hb5.size; exact Sl.below (by assumption) hb5 (Nat.le_refl _); exact Below.trans (by assumption) (hb5.mono (by first | exact Nat.le_of_lt (by assumption) | exact Below.size (by assumption))))
            | (refine ⟨?_, ?_, ?_, ?_, ?_, ?_, ?_, ?_, ?_, ?_, ?_, ?_⟩; assumption; assumption; assumption; assumption; assumption; assumption; assumption; assumption; assumption; assumption; exact Sl.drew (by assumption); exact Below.drew (by assumption))
            | (go_split_ands; refine ⟨?_, ?_, ?_, ?_, ?_, ?_, ?_, ?_, ?_, ?_, ?_, ?_⟩; exact (World.cell?_alloc_lt _ _ ⟨A, 0, none⟩ (by assumption)).trans (by assumption); exact (World.cell?_alloc_lt _ _ ⟨A, 1, none⟩ (by assumption)).trans (by assumption); exact (World.cell?_alloc_lt _ _ ⟨A, 2, none⟩ (by assumption)).trans (by assumption); exact (World.cell?_alloc_lt _ _ ⟨A, 3, none⟩ (by assumption)).trans (by assumption); exact (World.cell?_alloc_lt _ _ ⟨A, 4, none⟩ (by assumption)).trans (by assumption); exact (World.cell?_alloc_lt _ _ ⟨A, 5, none⟩ (by assumption)).trans (by assumption); exact (World.cell?_alloc_lt _ _ ⟨A, 6, none⟩ (by assumption)).trans (by assumption); exact (World.cell?_alloc_lt _ _ ⟨X, k, none⟩ (by assumption)).trans (by assumption); (simp; omega); (simp; omega); exact Sl.alloc (by assumption) _; exact Below.alloc (by assumption) (by first | exact Nat.le_of_lt (by assumption) | exact Below.size (by assumption)) _)
            | (go_split_ands; refine ⟨?_, ?_, ?_, ?_, ?_, ?_, ?_, ?_, ?_, ?_, ?_, ?_⟩; exact (World.cell?_alloc_lt _ _ ⟨A, 0, none⟩ (by assumption)).trans (by assumption); exact (World.cell?_alloc_lt _ _ ⟨A, 1, none⟩ (by assumption)).trans (by assumption); exact (World.cell?_alloc_lt _ _ ⟨A, 2, none⟩ (by assumption)).trans (by assumption); exact (World.cell?_alloc_lt _ _ ⟨A, 3, none⟩ (by assumption)).trans (by assumption); exact (World.cell?_alloc_lt _ _ ⟨A, 4, none⟩ (by assumption)).trans (by assumption); exact (World.cell?_alloc_lt _ _ ⟨A, 5, none⟩ (by assumption)).trans (by assumption); exact (World.cell?_alloc_lt _ _ ⟨A, 6, none⟩ (by assumption)).trans (by assumption); exact (World.cell?_alloc_lt _ _ ⟨X, k, none⟩ (by assumption)).trans (by assumption); exact Nat.lt_of_lt_of_le (by assumption) (Below.drew (Below.alloc (Below.refl _ _) (Nat.le_refl _) _)).size; exact Nat.lt_of_lt_of_le (by assumption) (Below.drew (Below.alloc (Below.refl _ _) (Nat.le_refl _) _)).size; exact Sl.drew (Sl.alloc (by assumption) _); exact Below.drew (Below.alloc (by assumption) (Below.size (by assumption)) _))
            | (go_split_ands; refine ⟨?_, ?_, ?_, ?_, ?_, ?_, ?_, ?_, ?_, ?_, ?_, ?_⟩; assumption; assumption; assumption; assumption; assumption; assumption; assumption; assumption; assumption; assumption; assumption; assumption)
            | go_keep)
          ((first
            | (go_at_call 19
               go_split_ands
               with_reducible refine (LF.out _).mono ?_
               rintro e w5 ⟨rfl, hb5⟩)
            | (go_at_call 22
               go_split_ands
               with_reducible refine (RR.out (lv k) _).mono ?_
               rintro e w5 ⟨rfl, hb5⟩))))
         | fail "the region"
        go_split_ands
        go_wp2_with fail
        first
         | (go_region_held3 (fun w' => w'.cell? ⟨A, 0, none⟩ = some (.int .i64 r.e) ∧ w'.cell? ⟨A, 1, none⟩ = some (.int .u64 r.p.a) ∧ w'.cell? ⟨A, 2, none⟩ = some (.int .u64 r.p.b) ∧ w'.cell? ⟨A, 3, none⟩ = some (.int .u64 r.c.a) ∧ w'.cell? ⟨A, 4, none⟩ = some (.int .u64 r.c.b) ∧ w'.cell? ⟨A, 5, none⟩ = some (.int .u64 r.n.a) ∧ w'.cell? ⟨A, 6, none⟩ = some (.int .u64 r.n.b) ∧ w'.cell? ⟨X, k, none⟩ = some (.int .i64 (lv k)) ∧ A < w'.heap.size ∧ X < w'.heap.size ∧ Is w' (some ⟨X, 0, none⟩) 8 lv ∧ Below W.heap.size W w')
          (first
            | (go_split_ands; refine ⟨?_, ?_, ?_, ?_, ?_, ?_, ?_, ?_, ?_, ?_, ?_, ?_⟩; exact (hb5.cell (p := ⟨A, 0, none⟩) (by assumption)).trans (by assumption); exact (hb5.cell (p := ⟨A, 1, none⟩) (by assumption)).trans (by assumption); exact (hb5.cell (p := ⟨A, 2, none⟩) (by assumption)).trans (by assumption); exact (hb5.cell (p := ⟨A, 3, none⟩) (by assumption)).trans (by assumption); exact (hb5.cell (p := ⟨A, 4, none⟩) (by assumption)).trans (by assumption); exact (hb5.cell (p := ⟨A, 5, none⟩) (by assumption)).trans (by assumption); exact (hb5.cell (p := ⟨A, 6, none⟩) (by assumption)).trans (by assumption); exact (hb5.cell (p := ⟨X, k, none⟩) (by assumption)).trans (by assumption); exact Nat.lt_of_lt_of_le (by assumption) hb5.size; exact Nat.lt_of_lt_of_le (by assumption) hb5.size; exact Sl.below (by assumption) hb5 (Nat.le_refl _); exact Below.trans (by assumption) (hb5.mono (by first | exact Nat.le_of_lt (by assumption) | exact Below.size (by assumption))))
            | (refine ⟨?_, ?_, ?_, ?_, ?_, ?_, ?_, ?_, ?_, ?_, ?_, ?_⟩; assumption; assumption; assumption; assumption; assumption; assumption; assumption; assumption; assumption; assumption; exact Sl.drew (by assumption); exact Below.drew (by assumption))
            | (go_split_ands; refine ⟨?_, ?_, ?_, ?_, ?_, ?_, ?_, ?_, ?_, ?_, ?_, ?_⟩; exact (World.cell?_alloc_lt _ _ ⟨A, 0, none⟩ (by assumption)).trans (by assumption); exact (World.cell?_alloc_lt _ _ ⟨A, 1, none⟩ (by assumption)).trans (by assumption); exact (World.cell?_alloc_lt _ _ ⟨A, 2, none⟩ (by assumption)).trans (by assumption); exact (World.cell?_alloc_lt _ _ ⟨A, 3, none⟩ (by assumption)).trans (by assumption); exact (World.cell?_alloc_lt _ _ ⟨A, 4, none⟩ (by assumption)).trans (by assumption); exact (World.cell?_alloc_lt _ _ ⟨A, 5, none⟩ (by assumption)).trans (by assumption); exact (World.cell?_alloc_lt _ _ ⟨A, 6, none⟩ (by assumption)).trans (by assumption); exact (World.cell?_alloc_lt _ _ ⟨X, k, none⟩ (by assumption)).trans (by assumption); (simp; omega); (simp; omega); exact Sl.alloc (by assumption) _; exact Below.alloc (by assumption) (by first | exact Nat.le_of_lt (by assumption) | exact Below.size (by assumption)) _)
            | (go_split_ands; refine ⟨?_, ?_, ?_, ?_, ?_, ?_, ?_, ?_, ?_, ?_, ?_, ?_⟩; exact (World.cell?_alloc_lt _ _ ⟨A, 0, none⟩ (by assumption)).trans (by assumption); exact (World.cell?_alloc_lt _ _ ⟨A, 1, none⟩ (by assumption)).trans (by assumption); exact (World.cell?_alloc_lt _ _ ⟨A, 2, none⟩ (by assumption)).trans (by assumption); exact (World.cell?_alloc_lt _ _ ⟨A, 3, none⟩ (by assumption)).trans (by assumption); exact (World.cell?_alloc_lt _ _ ⟨A, 4, none⟩ (by assumption)).trans (by assumption); exact (World.cell?_alloc_lt _ _ ⟨A, 5, none⟩ (by assumption)).trans (by assumption); exact (World.cell?_alloc_lt _ _ ⟨A, 6, none⟩ (by assumption)).trans (by assumption); exact (World.cell?_alloc_lt _ _ ⟨X, k, none⟩ (by assumption)).trans (by assumption); exact Nat.lt_of_lt_of_le (by assumption) (Below.drew (Below.alloc (Below.refl _ _) (Nat.le_refl _) _)).size; exact Nat.lt_of_lt_of_le (by assumption) (Below.drew (Below.alloc (Below.refl _ _) (Nat.le_refl _) _)).size; exact Sl.drew (Sl.alloc (by assumption) _); exact Below.drew (Below.alloc (by assumption) (Below.size (by assumption)) _))
            | (go_split_ands; refine ⟨?_, ?_, ?_, ?_, ?_, ?_, ?_, ?_, ?_, ?_, ?_, ?_⟩; assumption; assumption; assumption; assumption; assumption; assumption; assumption; assumption; assumption; assumption; assumption; assumption)
            | go_keep)
          ((first
            | (go_at_call 19
               go_split_ands
               with_reducible refine (LF2.out _).mono ?_
               rintro e w5 ⟨rfl, hb5⟩)
            | (go_at_call 19
               go_split_ands
               with_reducible refine (LF2'.out _).mono ?_
               rintro e w5 ⟨rfl, hb5⟩)
            | (go_at_call 16
               go_split_ands
               with_reducible refine (LR2.out _).mono ?_
               rintro e w5 ⟨rfl, hb5⟩)
            | (go_at_call 16
               go_split_ands
               with_reducible refine (LR2'.out _).mono ?_
               rintro e w5 ⟨rfl, hb5⟩)
            | (go_at_call 20
               go_split_ands
               with_reducible refine (RD2.out (lv k) _).mono ?_
               rintro e w5 ⟨rfl, hb5⟩))))
         | fail "the region"
        go_split_ands
        go_wp2_with fail
        first
         | (go_region_held3 (fun w' => w'.cell? ⟨A, 0, none⟩ = some (.int .i64 r.e) ∧ w'.cell? ⟨A, 1, none⟩ = some (.int .u64 r.p.a) ∧ w'.cell? ⟨A, 2, none⟩ = some (.int .u64 r.p.b) ∧ w'.cell? ⟨A, 3, none⟩ = some (.int .u64 r.c.a) ∧ w'.cell? ⟨A, 4, none⟩ = some (.int .u64 r.c.b) ∧ w'.cell? ⟨A, 5, none⟩ = some (.int .u64 r.n.a) ∧ w'.cell? ⟨A, 6, none⟩ = some (.int .u64 r.n.b) ∧ w'.cell? ⟨X, k, none⟩ = some (.int .i64 (lv k)) ∧ A < w'.heap.size ∧ X < w'.heap.size ∧ Is w' (some ⟨X, 0, none⟩) 8 lv ∧ Below W.heap.size W w')
          (first
            | (go_split_ands; refine ⟨?_, ?_, ?_, ?_, ?_, ?_, ?_, ?_, ?_, ?_, ?_, ?_⟩; exact (hb5.cell (p := ⟨A, 0, none⟩) (by assumption)).trans (by assumption); exact (hb5.cell (p := ⟨A, 1, none⟩) (by assumption)).trans (by assumption); exact (hb5.cell (p := ⟨A, 2, none⟩) (by assumption)).trans (by assumption); exact (hb5.cell (p := ⟨A, 3, none⟩) (by assumption)).trans (by assumption); exact (hb5.cell (p := ⟨A, 4, none⟩) (by assumption)).trans (by assumption); exact (hb5.cell (p := ⟨A, 5, none⟩) (by assumption)).trans (by assumption); exact (hb5.cell (p := ⟨A, 6, none⟩) (by assumption)).trans (by assumption); exact (hb5.cell (p := ⟨X, k, none⟩) (by assumption)).trans (by assumption); exact Nat.lt_of_lt_of_le (by assumption) hb5.size; exact Nat.lt_of_lt_of_le (by assumption) hb5.size; exact Sl.below (by assumption) hb5 (Nat.le_refl _); exact Below.trans (by assumption) (hb5.mono (by first | exact Nat.le_of_lt (by assumption) | exact Below.size (by assumption))))
            | (refine ⟨?_, ?_, ?_, ?_, ?_, ?_, ?_, ?_, ?_, ?_, ?_, ?_⟩; assumption; assumption; assumption; assumption; assumption; assumption; assumption; assumption; assumption; assumption; exact Sl.drew (by assumption); exact Below.drew (by assumption))
            | (go_split_ands; refine ⟨?_, ?_, ?_, ?_, ?_, ?_, ?_, ?_, ?_, ?_, ?_, ?_⟩; exact (World.cell?_alloc_lt _ _ ⟨A, 0, none⟩ (by assumption)).trans (by assumption); exact (World.cell?_alloc_lt _ _ ⟨A, 1, none⟩ (by assumption)).trans (by assumption); exact (World.cell?_alloc_lt _ _ ⟨A, 2, none⟩ (by assumption)).trans (by assumption); exact (World.cell?_alloc_lt _ _ ⟨A, 3, none⟩ (by assumption)).trans (by assumption); exact (World.cell?_alloc_lt _ _ ⟨A, 4, none⟩ (by assumption)).trans (by assumption); exact (World.cell?_alloc_lt _ _ ⟨A, 5, none⟩ (by assumption)).trans (by assumption); exact (World.cell?_alloc_lt _ _ ⟨A, 6, none⟩ (by assumption)).trans (by assumption); exact (World.cell?_alloc_lt _ _ ⟨X, k, none⟩ (by assumption)).trans (by assumption); (simp; omega); (simp; omega); exact Sl.alloc (by assumption) _; exact Below.alloc (by assumption) (by first | exact Nat.le_of_lt (by assumption) | exact Below.size (by assumption)) _)
            | (go_split_ands; refine ⟨?_, ?_, ?_, ?_, ?_, ?_, ?_, ?_, ?_, ?_, ?_, ?_⟩; exact (World.cell?_alloc_lt _ _ ⟨A, 0, none⟩ (by assumption)).trans (by assumption); exact (World.cell?_alloc_lt _ _ ⟨A, 1, none⟩ (by assumption)).trans (by assumption); exact (World.cell?_alloc_lt _ _ ⟨A, 2, none⟩ (by assumption)).trans (by assumption); exact (World.cell?_alloc_lt _ _ ⟨A, 3, none⟩ (by assumption)).trans (by assumption); exact (World.cell?_alloc_lt _ _ ⟨A, 4, none⟩ (by assumption)).trans (by assumption); exact (World.cell?_alloc_lt _ _ ⟨A, 5, none⟩ (by assumption)).trans (by assumption); exact (World.cell?_alloc_lt _ _ ⟨A, 6, none⟩ (by assumption)).trans (by assumption); exact (World.cell?_alloc_lt _ _ ⟨X, k, none⟩ (by assumption)).trans (by assumption); exact Nat.lt_of_lt_of_le (by assumption) (Below.drew (Below.alloc (Below.refl _ _) (Nat.le_refl _) _)).size; exact Nat.lt_of_lt_of_le (by assumption) (Below.drew (Below.alloc (Below.refl _ _) (Nat.le_refl _) _)).size; exact Sl.drew (Sl.alloc (by assumption) _); exact Below.drew (Below.alloc (by assumption) (Below.size (by assumption)) _))
            | (go_split_ands; refine ⟨?_, ?_, ?_, ?_, ?_, ?_, ?_, ?_, ?_, ?_, ?_, ?_⟩; assumption; assumption; assumption; assumption; assumption; assumption; assumption; assumption; assumption; assumption; assumption; assumption)
            | go_keep)
          ((first
            | (go_at_call 19
               go_split_ands
               with_reducible refine (LF2.out _).mono ?_
               rintro e w5 ⟨rfl, hb5⟩)
            | (go_at_call 19
               go_split_ands
               with_reducible refine (LF2'.out _).mono ?_
               rintro e w5 ⟨rfl, hb5⟩)
            | (go_at_call 16
               go_split_ands
               with_reducible refine (LR2.out _).mono ?_
               rintro e w5 ⟨rfl, hb5⟩)
            | (go_at_call 16
               go_split_ands
               with_reducible refine (LR2'.out _).mono ?_
               rintro e w5 ⟨rfl, hb5⟩)
            | (go_at_call 22
               go_split_ands
               with_reducible refine (RR2.out (lv k) _).mono ?_
               rintro e w5 ⟨rfl, hb5⟩))))
         | fail "the region"
        go_split_ands
        go_wp2_with fail
        go_roundw
        case rel => exact ⟨k + 1, by omega, by go_num, by assumption, by assumption, by assumption, by assumption, by assumption, by assumption, by assumption, by assumption, by assumption, by assumption⟩
        case measure => simp [intOf]; omega
      · have e : k = 8 := by omega
        subst e
        go_wp2_with fail
        go_ret
        exact ⟨rfl, eB⟩

set_option maxRecDepth 100000 in
theorem lifted (os : Os) (started : os.Started) (H : Type) (enc : TypeId × Value → H) :
    ReturnsInHanded {} Try.checked os 4 .any (Rows.cookieReadsSpec.pre6 enc Try.prog Try.f4 [] false) (Rows.cookieReadsSpec.post enc Try.prog Try.f4 false true false false) :=
  law_step (s := Rows.cookieReadsSpec) started (by kernel_rfl) Try.func4
    (ChangeSpec.witness6 (s := Rows.cookieReadsSpec) (enc := enc) (C := Try.checked) false ⟨#[], #[.int .i64 0, .int .i64 0, .bool false, .int .i64 0, .int .i64 0, .int .i64 0, .int .i64 0, .int .i64 0, .int .i64 0], []⟩ 8 (by kernel_rfl) (by kernel_rfl) (by kernel_rfl) (by kernel_rfl))
    rfl (by rw [Try.params4]; decide +kernel) rfl Try.underlying4
    (fun ds h => by
      rw [Try.params4] at h
      match ds, h with
      | [_, _, _, _, _, _, _, _, _], _ => rfl)
    (fun W base args ds ps hval hA hsz => by
      rw [Try.params4] at hA hval hsz
      obtain ⟨v0, vs0, d0, ds0, p0, q0, hargs, rfl, rfl, h0, r0⟩ := trodAll_cons hA
      obtain ⟨v1, vs1, d1, ds1, p1, q1, rfl, rfl, rfl, h1, r1⟩ := trodAll_cons r0
      obtain ⟨v2, vs2, d2, ds2, p2, q2, rfl, rfl, rfl, h2, r2⟩ := trodAll_cons r1
      obtain ⟨v3, vs3, d3, ds3, p3, q3, rfl, rfl, rfl, h3, r3⟩ := trodAll_cons r2
      obtain ⟨v4, vs4, d4, ds4, p4, q4, rfl, rfl, rfl, h4, r4⟩ := trodAll_cons r3
      obtain ⟨v5, vs5, d5, ds5, p5, q5, rfl, rfl, rfl, h5, r5⟩ := trodAll_cons r4
      obtain ⟨v6, vs6, d6, ds6, p6, q6, rfl, rfl, rfl, h6, r6⟩ := trodAll_cons r5
      obtain ⟨v7, vs7, d7, ds7, p7, q7, rfl, rfl, rfl, h7, r7⟩ := trodAll_cons r6
      obtain ⟨v8, vs8, d8, ds8, p8, q8, rfl, rfl, rfl, h8, r8⟩ := trodAll_cons r7
      obtain ⟨rfl, rfl, rfl⟩ := trodAll_nil r8
      obtain rfl : args = #[v0, v1, v2, v3, v4, v5, v6, v7, v8] := by cases args; simp_all
      obtain ⟨a0, rfl, rfl, rfl, w0⟩ := open_int Try.underlying3 (hval 0 3 v0 rfl rfl) h0
      obtain ⟨a1, rfl, rfl, rfl, w1⟩ := open_int Try.underlying3 (hval 1 3 v1 rfl rfl) h1
      obtain ⟨a2, rfl, rfl, rfl⟩ := open_bool Try.underlying4 (hval 2 4 v2 rfl rfl) h2
      obtain ⟨a3, rfl, rfl, rfl, w3⟩ := open_int Try.underlying3 (hval 3 3 v3 rfl rfl) h3
      obtain ⟨a4, rfl, rfl, rfl, w4⟩ := open_int Try.underlying3 (hval 4 3 v4 rfl rfl) h4
      obtain ⟨a5, rfl, rfl, rfl, w5⟩ := open_int Try.underlying3 (hval 5 3 v5 rfl rfl) h5
      obtain ⟨a6, rfl, rfl, rfl, w6⟩ := open_int Try.underlying3 (hval 6 3 v6 rfl rfl) h6
      obtain ⟨a7, rfl, rfl, rfl, w7⟩ := open_int Try.underlying3 (hval 7 3 v7 rfl rfl) h7
      obtain ⟨a8, rfl, rfl, rfl, w8⟩ := open_int Try.underlying3 (hval 8 3 v8 rfl rfl) h8
      exact walk W a0 (bounds_i64 w0) a1 (bounds_i64 w1) a2 a3 (bounds_i64 w3) a4 (bounds_i64 w4) a5 (bounds_i64 w5) a6 (bounds_i64 w6) a7 (bounds_i64 w7) a8 (bounds_i64 w8))

theorem proved : Rows.CookieReadsSaid :=
  OpenClaim.holds_of_wide 4 Try.f4 rfl rfl rfl rfl rfl rfl rfl ⟨rfl, rfl, rfl, rfl, rfl⟩ rfl rfl rfl rfl rfl (by kernel_rfl) Try.func4 (by kernel_rfl)
    (of_decide_eq_true (by kernel_rfl)) (by unfold Func.isWrapper; first | (rw [if_pos (by decide +kernel)]; kernel_rfl) | (rw [if_neg (by decide +kernel)]; exact ⟨rfl, rfl⟩))
    (fun os started H enc _ => lifted os started H enc)
end Go.Proofs.Ytfokkmemjkfifaa.cookieReads
