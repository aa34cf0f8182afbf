/- roundhouselaw5.CookieRings answers true for every epoch, row of numbers, epoch and number; no condition. -/
import Derived.Test.YtfokkmemjkfifaaCookLaw
namespace Go.Proofs.Ytfokkmemjkfifaa.cookieRings
set_option linter.unusedVariables false
set_option linter.unusedSimpArgs false
open Go.RowKit Go.ChangeShapes Go.WideShapes Go.ChangeAt

theorem info_key : (Try.prog.info? 25).map (fun i => (i.zero, i.size, i.bytes)) = some (some (.agg #[.int .u64 0, .int .u64 0]), 2, 16) := by kernel_rfl
theorem wp_app_k {w : World} {ops : Array Oper} {rest : List Oper} {o : Oper} {a : Act} {Q : Exit → Act → World → Prop} (hgd : o.guard = none) (s x : Operand) (ho : o.op = .call { callee := .builtin .append, args := #[s, x], argTypes := #[43, 43] })
    (base : Nat) (v : Value) (n : Nat) (f : Nat → Value) (hs : a.eval s = v) (hown : Ow w base 25 2 v n f)
    (A : Option Addr) (m c : Nat) (f2 : Nat → Int) (hx : a.eval x = .slice A m c) (hr : Sl w A (m * 2) (fun j => .int .u64 (f2 j))) (hsz : n + m ≤ 1000) (hbase : base ≤ w.heap.size)
    (h : ∀ A' c' w', Ow w' base 25 2 (.slice A' (n + m) c') (n + m) (two (n * 2) f (fun j => .int .u64 (f2 j))) → n + m ≤ c' → Below base w w' → wpList Try.prog ops Q rest (a.put o.dst (.slice A' (n + m) c')) w') : wpList Try.prog ops Q (o :: rest) a w := by
  obtain ⟨i0, hi, hz0, hz1, hz2⟩ := info_parts info_key
  exact wp_app w hgd s x 43 ho base 25 i0 _ 2 16 Try.underlying43 hi hz0 hz1 hz2 rfl (by decide) v n f hs hown A m c _ hx hr (fun _ _ => rfl) (by simp only [maxLen]; omega) (by omega) hbase fun A' c' w' h1 h2 _ h4 _ _ => h A' c' w' h1 h2 h4

set_option maxRecDepth 100000 in
set_option maxHeartbeats 8000000 in
theorem walk (W : World) (ep : Int) (rep : -9223372036854775808 ≤ ep ∧ ep ≤ 9223372036854775807)
    (A0 : Option Addr) (n c : Nat) (g0 : Nat → Int) (hn : n ≤ c) (hc : c ≤ maxLen) (h : Is W A0 n g0) (hg : IsI g0) (hl : ∀ ad, A0 = some ad → 0 < n → ad.block < W.heap.size) (re : c * 8 ≤ 140737488351232)
    (ee : Int) (ree : -9223372036854775808 ≤ ee ∧ ee ≤ 9223372036854775807) (n0 : Int) (rn0 : -9223372036854775808 ≤ n0 ∧ n0 ≤ 9223372036854775807) :
    Calls Try.prog 6 #[.int .i64 ep, .slice A0 n c, .int .i64 ee, .int .i64 n0] W fun e w' => e = .returned (.bool true) ∧ Below W.heap.size W w' := by
  have wb := wi_bd ep 1099511627776 (by omega)
  obtain ⟨x, hx⟩ : ∃ x, x = wi ep 1099511627776 := ⟨_, rfl⟩
  rw [← hx] at wb
  have WS := fun w => re_i64 (within_any ep 1099511627776 w (by omega) (by omega)) hx.symm
  obtain ⟨k1, hk1⟩ : ∃ k, k = kyN n0 := ⟨_, rfl⟩
  have LKn := fun n w => lkey_any n w
  have LK := fun w => re_v (lkey_any n0 w) (show _ = kyV k1 by rw [hk1])
  have HX := hid hx
  clear hx hk1 hl
  unfold kyV at LK LKn
  replace LK := hid LK
  replace LKn := hid LKn
  replace WS := hid WS
  go_enter Try.func6, Try.ntmps6
  go_wp2_with fail
  refine (known_any _).mono ?_
  rintro e' w ⟨rfl, hb1⟩
  have B := hb1
  clear hb1
  have hs := h.below B (Nat.le_refl _)
  have hwW := B.size
  go_wp2_with fail
  go_loopw [9, 10] (fun v i wr => ∃ (k : Nat) (A' : Option Addr) (c' : Nat) (g : Nat → Value), k ≤ n ∧ k ≤ 5 ∧ i = .int .i64 k ∧ v = .slice A' k c' ∧ Below w.heap.size w wr ∧ Ow wr w.heap.size 25 2 (.slice A' k c') k g ∧ ∃ g' : Nat → Int, ∀ j, j < 2 * k → g j = .int .u64 (g' j)) (fun _ i _ => 5 - (intOf i).toNat)
  case atStart => exact ⟨0, none, 0, fun _ => undef, by omega, by omega, rfl, rfl, Below.refl _ _, Ow.none_, fun _ => 0, fun j hj => absurd hj (by omega)⟩
  case round =>
    obtain ⟨k, A', c', g, hkn, hk5, rfl, rfl, hbr, Or, g', hg'⟩ := hrel
    by_cases hlt : k < n ∧ k < 5
    · obtain ⟨h1, h2⟩ := hlt
      obtain ⟨b, off, rfl, hbl, hcell⟩ := hs.below hbr (Nat.le_refl _) (by omega)
      have ck : wr.cell? ⟨b, off + k, none⟩ = some (.int .i64 (g0 k)) := hcell k h1
      have i1 : (k : Int) < n := by omega
      have i2 : (k : Int) < 5 := by omega
      have i0 : (0 : Int) ≤ k := by omega
      clear hcell
      go_wp2_with fail
      refine (LKn.out _ _).mono ?_
      rintro e' w2 ⟨rfl, hb2⟩
      have hb3 := hbr.trans (hb2.mono hbr.size)
      have O2 := Or.keep hb2 (Nat.le_refl _)
      go_wp2_with (at_builtin
                   refine wp_app_k rfl (.tmp 34) (.tmp 40) rfl w.heap.size (.slice A' k c') k g rfl (O2.alloc _) (some ⟨_, 0, none⟩) 1 1 (fun j => [(kyN (g0 k)).a, (kyN (g0 k)).b].getD j 0) rfl (row_at .u64 [(kyN (g0 k)).a, (kyN (g0 k)).b] rfl) (by omega) (by have := hb3.size; simp; omega) ?_
                   intro A3 c3 w3 o3 hc3 hb4)
      have hb5 : Below w.heap.size w w3 := (hb3.alloc hb3.size _).trans hb4
      go_roundw
      case rel => exact ⟨k + 1, A3, c3, _, by omega, by omega, by go_num, rfl, hb5, o3, fun j => if j < 2 * k then g' j else [(kyN (g0 k)).a, (kyN (g0 k)).b].getD (j - 2 * k) 0, fun j hj => by
        simp only [two, Nat.mul_comm k 2]
        by_cases hjk : j < 2 * k
        · rw [if_pos hjk, if_pos hjk, hg' j hjk]
        · rw [if_neg hjk, if_neg hjk]⟩
      case measure => simp [intOf]; omega
    · have hex : ¬ (k : Int) < n ∨ ¬ (k : Int) < 5 := by omega
      have SG : Sl wr A' (2 * k) (fun j => .int .u64 (g' j)) := by
        have := Or.sl
        rw [Nat.mul_comm k 2] at this
        exact this.as hg'
      have B1 : Below W.heap.size W wr := B.trans (hbr.mono hwW)
      have CRc := fun w h => re_v (cring_any x A' k c' g' w h (by omega)) (show _ = rgV (rgN x k g') from rfl)
      have RRc := fun w h => re_v (rring_any x A' k c' g' w h (by omega)) (show _ = rgV (rgN x k g') from rfl)
      have hEp : Ep (rgN x k g').e := ⟨by show _ ≤ x; omega, by show x ≤ _; omega⟩
      have KY := fun e w => key_any (rgN x k g') e hEp w
      have RK := fun e w => rkey_any (rgN x k g') e hEp w
      have NX := fun w => next_any (rgN x k g') k1 hEp w
      have RN := fun w => rnext_any (rgN x k g') k1 hEp w
      obtain ⟨r, hr⟩ : ∃ r, r = rgN x k g' := ⟨_, rfl⟩
      rw [← hr] at CRc RRc KY RK NX RN hEp
      clear hr Or hg' B hbr hs hlt h hg hwW
      unfold rgV kyO kyV at *
      replace CRc := hid CRc
      replace RRc := hid RRc
      replace KY := hid KY
      replace RK := hid RK
      replace NX := hid NX
      replace RN := hid RN
      have B := B1
      clear B1
      have hEpH := hid hEp
      clear hEp
      rcases hex with hex | hex
      · have j0 : decide ((k : Int) < n) = false := by simp; omega
        go_wp2_with fail
        refine (WS.out _).mono ?_
        rintro e' w3 ⟨rfl, rfl⟩
        go_wp2_with fail
        refine (CRc.out _ SG).mono ?_
        rintro e' w4 ⟨rfl, hb⟩
        replace B := B.trans (hb.mono B.size)
        replace SG := SG.below hb (Nat.le_refl _)
        clear hb
        go_upto_region 10 with fail
        replace SG := SG.alloc (.cells #[.int .i64 r.e, .int .u64 r.p.a, .int .u64 r.p.b, .int .u64 r.c.a, .int .u64 r.c.b, .int .u64 r.n.a, .int .u64 r.n.b] 27)
        have CA := Ce.made (w := w4) (l := [.int .i64 r.e, .int .u64 r.p.a, .int .u64 r.p.b, .int .u64 r.c.a, .int .u64 r.c.b, .int .u64 r.n.a, .int .u64 r.n.b]) (T := 27) (g := w4.heap.size) rfl
        replace B := B.alloc B.size (.cells #[.int .i64 r.e, .int .u64 r.p.a, .int .u64 r.p.b, .int .u64 r.c.a, .int .u64 r.c.b, .int .u64 r.n.a, .int .u64 r.n.b] 27)
        generalize w4.alloc (.cells #[.int .i64 r.e, .int .u64 r.p.a, .int .u64 r.p.b, .int .u64 r.c.a, .int .u64 r.c.b, .int .u64 r.n.a, .int .u64 r.n.b] 27) = w5 at *
        generalize w4.heap.size = A at *
        obtain ⟨kA, qA, zA⟩ := id CA
        have cA0 := qA 0 _ rfl
        have cA1 := qA 1 _ rfl
        have cA2 := qA 2 _ rfl
        have cA3 := qA 3 _ rfl
        have cA4 := qA 4 _ rfl
        have cA5 := qA 5 _ rfl
        have cA6 := qA 6 _ rfl
        clear qA zA
        first
         | (go_region_held3 (fun w' => w'.cell? ⟨A, 0, none⟩ = some (.int .i64 r.e) ∧ w'.cell? ⟨A, 1, none⟩ = some (.int .u64 r.p.a) ∧ w'.cell? ⟨A, 2, none⟩ = some (.int .u64 r.p.b) ∧ w'.cell? ⟨A, 3, none⟩ = some (.int .u64 r.c.a) ∧ w'.cell? ⟨A, 4, none⟩ = some (.int .u64 r.c.b) ∧ w'.cell? ⟨A, 5, none⟩ = some (.int .u64 r.n.a) ∧ w'.cell? ⟨A, 6, none⟩ = some (.int .u64 r.n.b) ∧ A < w'.heap.size ∧ Sl w' A' (2 * k) (fun j => .int .u64 (g' j)) ∧ Below W.heap.size W w')
          (first
            | (go_split_ands; refine ⟨?_, ?_, ?_, ?_, ?_, ?_, ?_, ?_, ?_, ?_⟩; exact (hb5.cell (p := ⟨A, 0, none⟩) (by assumption)).trans (by assumption); exact (hb5.cell (p := ⟨A, 1, none⟩) (by assumption)).trans (by assumption); exact (hb5.cell (p := ⟨A, 2, none⟩) (by assumption)).trans (by assumption); exact (hb5.cell (p := ⟨A, 3, none⟩) (by assumption)).trans (by assumption); exact (hb5.cell (p := ⟨A, 4, none⟩) (by assumption)).trans (by assumption); exact (hb5.cell (p := ⟨A, 5, none⟩) (by assumption)).trans (by assumption); exact (hb5.cell (p := ⟨A, 6, none⟩) (by assumption)).trans (by assumption); exact Nat.lt_of_lt_of_le (by assumption) hb5.size; exact Sl.below (by assumption) hb5 (Nat.le_refl _); exact Below.trans (by assumption) (hb5.mono (by first | exact Nat.le_of_lt (by assumption) | exact Below.size (by assumption))))
            | (refine ⟨?_, ?_, ?_, ?_, ?_, ?_, ?_, ?_, ?_, ?_⟩; assumption; assumption; assumption; assumption; assumption; assumption; assumption; assumption; exact Sl.drew (by assumption); exact Below.drew (by assumption))
            | (go_split_ands; refine ⟨?_, ?_, ?_, ?_, ?_, ?_, ?_, ?_, ?_, ?_⟩; exact (World.cell?_alloc_lt _ _ ⟨A, 0, none⟩ (by assumption)).trans (by assumption); exact (World.cell?_alloc_lt _ _ ⟨A, 1, none⟩ (by assumption)).trans (by assumption); exact (World.cell?_alloc_lt _ _ ⟨A, 2, none⟩ (by assumption)).trans (by assumption); exact (World.cell?_alloc_lt _ _ ⟨A, 3, none⟩ (by assumption)).trans (by assumption); exact (World.cell?_alloc_lt _ _ ⟨A, 4, none⟩ (by assumption)).trans (by assumption); exact (World.cell?_alloc_lt _ _ ⟨A, 5, none⟩ (by assumption)).trans (by assumption); exact (World.cell?_alloc_lt _ _ ⟨A, 6, none⟩ (by assumption)).trans (by assumption); (simp; omega); exact Sl.alloc (by assumption) _; exact Below.alloc (by assumption) (by first | exact Nat.le_of_lt (by assumption) | exact Below.size (by assumption)) _)
            | (go_split_ands; refine ⟨?_, ?_, ?_, ?_, ?_, ?_, ?_, ?_, ?_, ?_⟩; exact (World.cell?_alloc_lt _ _ ⟨A, 0, none⟩ (by assumption)).trans (by assumption); exact (World.cell?_alloc_lt _ _ ⟨A, 1, none⟩ (by assumption)).trans (by assumption); exact (World.cell?_alloc_lt _ _ ⟨A, 2, none⟩ (by assumption)).trans (by assumption); exact (World.cell?_alloc_lt _ _ ⟨A, 3, none⟩ (by assumption)).trans (by assumption); exact (World.cell?_alloc_lt _ _ ⟨A, 4, none⟩ (by assumption)).trans (by assumption); exact (World.cell?_alloc_lt _ _ ⟨A, 5, none⟩ (by assumption)).trans (by assumption); exact (World.cell?_alloc_lt _ _ ⟨A, 6, none⟩ (by assumption)).trans (by assumption); exact Nat.lt_of_lt_of_le (by assumption) (Below.drew (Below.alloc (Below.refl _ _) (Nat.le_refl _) _)).size; exact Sl.drew (Sl.alloc (by assumption) _); exact Below.drew (Below.alloc (by assumption) (Below.size (by assumption)) _))
            | (go_split_ands; refine ⟨?_, ?_, ?_, ?_, ?_, ?_, ?_, ?_, ?_, ?_⟩; assumption; assumption; assumption; assumption; assumption; assumption; assumption; assumption; assumption; assumption)
            | go_keep)
          ((first
            | (go_at_call 26
               go_split_ands
               with_reducible refine (RRc.out _ ?_).mono ?_
               · assumption
               rintro e w5 ⟨rfl, hb5⟩)
            | (go_at_call 24
               go_split_ands
               with_reducible refine (LK.out _).mono ?_
               rintro e w5 ⟨rfl, hb5⟩)
            | (go_at_call 23
               go_split_ands
               with_reducible refine (NX.out _).mono ?_
               rintro e w5 ⟨rfl, hb5⟩)
            | (go_at_call 27
               go_split_ands
               with_reducible refine (RN.out _).mono ?_
               rintro e w5 ⟨rfl, hb5⟩))))
         | fail "the region"
        go_split_ands
        go_wp2_with fail
        go_loopw [13, 14, 15, 16, 17] (fun i _ _ _ _ wr => ∃ j : Nat, j ≤ 9 ∧ i = .int .i64 ((j : Int) - 3) ∧ wr.cell? ⟨A, 0, none⟩ = some (.int .i64 r.e) ∧ wr.cell? ⟨A, 1, none⟩ = some (.int .u64 r.p.a) ∧ wr.cell? ⟨A, 2, none⟩ = some (.int .u64 r.p.b) ∧ wr.cell? ⟨A, 3, none⟩ = some (.int .u64 r.c.a) ∧ wr.cell? ⟨A, 4, none⟩ = some (.int .u64 r.c.b) ∧ wr.cell? ⟨A, 5, none⟩ = some (.int .u64 r.n.a) ∧ wr.cell? ⟨A, 6, none⟩ = some (.int .u64 r.n.b) ∧ A < wr.heap.size ∧ Below W.heap.size W wr) (fun i _ _ _ _ _ => (6 - intOf i).toNat)
        case atStart => exact ⟨0, by omega, rfl, by assumption, by assumption, by assumption, by assumption, by assumption, by assumption, by assumption, by assumption, by assumption⟩
        case round =>
          obtain ⟨j, hj, rfl, e0, e1, e2, e3, e4, e5, e6, eA, eB⟩ := hrel
          by_cases hlt : j < 9
          · have i1 : (j : Int) - 3 < 6 := by omega
            go_wp2_with fail
            refine (KY.out _ _).mono ?_
            rintro e' v1 ⟨rfl, hb⟩
            have eB1 := eB.trans (hb.mono eB.size)
            have p0 := (hb.cell (p := ⟨A, 0, none⟩) eA).trans e0
            have p1 := (hb.cell (p := ⟨A, 1, none⟩) eA).trans e1
            have p2 := (hb.cell (p := ⟨A, 2, none⟩) eA).trans e2
            have p3 := (hb.cell (p := ⟨A, 3, none⟩) eA).trans e3
            have p4 := (hb.cell (p := ⟨A, 4, none⟩) eA).trans e4
            have p5 := (hb.cell (p := ⟨A, 5, none⟩) eA).trans e5
            have p6 := (hb.cell (p := ⟨A, 6, none⟩) eA).trans e6
            have pA := Nat.lt_of_lt_of_le eA hb.size
            clear hb e0 e1 e2 e3 e4 e5 e6
            go_wp2_with fail
            have CP := Ce.made (w := v1) (l := [.int .u64 ((keyOf r (x + ((j : Int) - 3))).getD ⟨0, 0⟩).a, .int .u64 ((keyOf r (x + ((j : Int) - 3))).getD ⟨0, 0⟩).b]) (T := 25) (g := v1.heap.size) rfl
            have ha := (Below.refl v1.heap.size v1).alloc (Nat.le_refl _) (.cells #[.int .u64 ((keyOf r (x + ((j : Int) - 3))).getD ⟨0, 0⟩).a, .int .u64 ((keyOf r (x + ((j : Int) - 3))).getD ⟨0, 0⟩).b] 25)
            have eB2 := eB1.alloc eB1.size (.cells #[.int .u64 ((keyOf r (x + ((j : Int) - 3))).getD ⟨0, 0⟩).a, .int .u64 ((keyOf r (x + ((j : Int) - 3))).getD ⟨0, 0⟩).b] 25)
            have s0 := (ha.cell (p := ⟨A, 0, none⟩) pA).trans p0
            have s1 := (ha.cell (p := ⟨A, 1, none⟩) pA).trans p1
            have s2 := (ha.cell (p := ⟨A, 2, none⟩) pA).trans p2
            have s3 := (ha.cell (p := ⟨A, 3, none⟩) pA).trans p3
            have s4 := (ha.cell (p := ⟨A, 4, none⟩) pA).trans p4
            have s5 := (ha.cell (p := ⟨A, 5, none⟩) pA).trans p5
            have s6 := (ha.cell (p := ⟨A, 6, none⟩) pA).trans p6
            have sA := Nat.lt_of_lt_of_le pA ha.size
            clear ha p0 p1 p2 p3 p4 p5 p6
            generalize v1.alloc (.cells #[.int .u64 ((keyOf r (x + ((j : Int) - 3))).getD ⟨0, 0⟩).a, .int .u64 ((keyOf r (x + ((j : Int) - 3))).getD ⟨0, 0⟩).b] 25) = v3 at *
            generalize v1.heap.size = PP at *
            refine (RK.out _ _).mono ?_
            rintro e' v2 ⟨rfl, hb⟩
            have eB3 := eB2.trans (hb.mono eB2.size)
            replace CP := CP.below hb
            have t0 := (hb.cell (p := ⟨A, 0, none⟩) sA).trans s0
            have t1 := (hb.cell (p := ⟨A, 1, none⟩) sA).trans s1
            have t2 := (hb.cell (p := ⟨A, 2, none⟩) sA).trans s2
            have t3 := (hb.cell (p := ⟨A, 3, none⟩) sA).trans s3
            have t4 := (hb.cell (p := ⟨A, 4, none⟩) sA).trans s4
            have t5 := (hb.cell (p := ⟨A, 5, none⟩) sA).trans s5
            have t6 := (hb.cell (p := ⟨A, 6, none⟩) sA).trans s6
            have tA := Nat.lt_of_lt_of_le sA hb.size
            clear hb s0 s1 s2 s3 s4 s5 s6
            obtain ⟨kP, qP, zP⟩ := CP
            have cP0 := qP 0 _ rfl
            have cP1 := qP 1 _ rfl
            clear qP zP
            have ha := (Below.refl v2.heap.size v2).alloc (Nat.le_refl _) (.cells #[.int .u64 ((keyOf r (x + ((j : Int) - 3))).getD ⟨0, 0⟩).a, .int .u64 ((keyOf r (x + ((j : Int) - 3))).getD ⟨0, 0⟩).b] 25)
            go_wp2_with fail
            go_roundw
            case rel => exact ⟨j + 1, by omega, by congr 1; omega, (ha.cell (p := ⟨A, 0, none⟩) tA).trans t0, (ha.cell (p := ⟨A, 1, none⟩) tA).trans t1, (ha.cell (p := ⟨A, 2, none⟩) tA).trans t2, (ha.cell (p := ⟨A, 3, none⟩) tA).trans t3, (ha.cell (p := ⟨A, 4, none⟩) tA).trans t4, (ha.cell (p := ⟨A, 5, none⟩) tA).trans t5, (ha.cell (p := ⟨A, 6, none⟩) tA).trans t6, Nat.lt_of_lt_of_le tA ha.size, eB3.alloc eB3.size _⟩
            case measure => simp [intOf]; omega
          · have e : j = 9 := by omega
            subst e
            have i1 : ¬ ((9 : Nat) : Int) - 3 < 6 := by omega
            go_wp2_with fail
            refine (KY.out _ _).mono ?_
            rintro e' v1 ⟨rfl, hb⟩
            have eB1 := eB.trans (hb.mono eB.size)
            have p0 := (hb.cell (p := ⟨A, 0, none⟩) eA).trans e0
            have p1 := (hb.cell (p := ⟨A, 1, none⟩) eA).trans e1
            have p2 := (hb.cell (p := ⟨A, 2, none⟩) eA).trans e2
            have p3 := (hb.cell (p := ⟨A, 3, none⟩) eA).trans e3
            have p4 := (hb.cell (p := ⟨A, 4, none⟩) eA).trans e4
            have p5 := (hb.cell (p := ⟨A, 5, none⟩) eA).trans e5
            have p6 := (hb.cell (p := ⟨A, 6, none⟩) eA).trans e6
            have pA := Nat.lt_of_lt_of_le eA hb.size
            clear hb e0 e1 e2 e3 e4 e5 e6
            go_wp2_with fail
            have CP := Ce.made (w := v1) (l := [.int .u64 ((keyOf r ee).getD ⟨0, 0⟩).a, .int .u64 ((keyOf r ee).getD ⟨0, 0⟩).b]) (T := 25) (g := v1.heap.size) rfl
            have ha := (Below.refl v1.heap.size v1).alloc (Nat.le_refl _) (.cells #[.int .u64 ((keyOf r ee).getD ⟨0, 0⟩).a, .int .u64 ((keyOf r ee).getD ⟨0, 0⟩).b] 25)
            have eB2 := eB1.alloc eB1.size (.cells #[.int .u64 ((keyOf r ee).getD ⟨0, 0⟩).a, .int .u64 ((keyOf r ee).getD ⟨0, 0⟩).b] 25)
            have s0 := (ha.cell (p := ⟨A, 0, none⟩) pA).trans p0
            have s1 := (ha.cell (p := ⟨A, 1, none⟩) pA).trans p1
            have s2 := (ha.cell (p := ⟨A, 2, none⟩) pA).trans p2
            have s3 := (ha.cell (p := ⟨A, 3, none⟩) pA).trans p3
            have s4 := (ha.cell (p := ⟨A, 4, none⟩) pA).trans p4
            have s5 := (ha.cell (p := ⟨A, 5, none⟩) pA).trans p5
            have s6 := (ha.cell (p := ⟨A, 6, none⟩) pA).trans p6
            have sA := Nat.lt_of_lt_of_le pA ha.size
            clear ha p0 p1 p2 p3 p4 p5 p6
            generalize v1.alloc (.cells #[.int .u64 ((keyOf r ee).getD ⟨0, 0⟩).a, .int .u64 ((keyOf r ee).getD ⟨0, 0⟩).b] 25) = v3 at *
            generalize v1.heap.size = PP at *
            refine (RK.out _ _).mono ?_
            rintro e' v2 ⟨rfl, hb⟩
            have eB3 := eB2.trans (hb.mono eB2.size)
            replace CP := CP.below hb
            have t0 := (hb.cell (p := ⟨A, 0, none⟩) sA).trans s0
            have t1 := (hb.cell (p := ⟨A, 1, none⟩) sA).trans s1
            have t2 := (hb.cell (p := ⟨A, 2, none⟩) sA).trans s2
            have t3 := (hb.cell (p := ⟨A, 3, none⟩) sA).trans s3
            have t4 := (hb.cell (p := ⟨A, 4, none⟩) sA).trans s4
            have t5 := (hb.cell (p := ⟨A, 5, none⟩) sA).trans s5
            have t6 := (hb.cell (p := ⟨A, 6, none⟩) sA).trans s6
            have tA := Nat.lt_of_lt_of_le sA hb.size
            clear hb s0 s1 s2 s3 s4 s5 s6
            obtain ⟨kP, qP, zP⟩ := CP
            have cP0 := qP 0 _ rfl
            have cP1 := qP 1 _ rfl
            clear qP zP
            go_wp2_with fail
            go_ret
            exact ⟨rfl, eB3.alloc eB3.size _⟩
      · by_cases hkn2 : k < n
        · have j0 : (k : Int) < n := by omega
          have j1 : decide ((k : Int) < 5) = false := by simp; omega
          go_wp2_with fail
          refine (WS.out _).mono ?_
          rintro e' w3 ⟨rfl, rfl⟩
          go_wp2_with fail
          refine (CRc.out _ SG).mono ?_
          rintro e' w4 ⟨rfl, hb⟩
          replace B := B.trans (hb.mono B.size)
          replace SG := SG.below hb (Nat.le_refl _)
          clear hb
          go_upto_region 10 with fail
          replace SG := SG.alloc (.cells #[.int .i64 r.e, .int .u64 r.p.a, .int .u64 r.p.b, .int .u64 r.c.a, .int .u64 r.c.b, .int .u64 r.n.a, .int .u64 r.n.b] 27)
          have CA := Ce.made (w := w4) (l := [.int .i64 r.e, .int .u64 r.p.a, .int .u64 r.p.b, .int .u64 r.c.a, .int .u64 r.c.b, .int .u64 r.n.a, .int .u64 r.n.b]) (T := 27) (g := w4.heap.size) rfl
          replace B := B.alloc B.size (.cells #[.int .i64 r.e, .int .u64 r.p.a, .int .u64 r.p.b, .int .u64 r.c.a, .int .u64 r.c.b, .int .u64 r.n.a, .int .u64 r.n.b] 27)
          generalize w4.alloc (.cells #[.int .i64 r.e, .int .u64 r.p.a, .int .u64 r.p.b, .int .u64 r.c.a, .int .u64 r.c.b, .int .u64 r.n.a, .int .u64 r.n.b] 27) = w5 at *
          generalize w4.heap.size = A at *
          obtain ⟨kA, qA, zA⟩ := id CA
          have cA0 := qA 0 _ rfl
          have cA1 := qA 1 _ rfl
          have cA2 := qA 2 _ rfl
          have cA3 := qA 3 _ rfl
          have cA4 := qA 4 _ rfl
          have cA5 := qA 5 _ rfl
          have cA6 := qA 6 _ rfl
          clear qA zA
          first
           | (go_region_held3 (fun w' => w'.cell? ⟨A, 0, none⟩ = some (.int .i64 r.e) ∧ w'.cell? ⟨A, 1, none⟩ = some (.int .u64 r.p.a) ∧ w'.cell? ⟨A, 2, none⟩ = some (.int .u64 r.p.b) ∧ w'.cell? ⟨A, 3, none⟩ = some (.int .u64 r.c.a) ∧ w'.cell? ⟨A, 4, none⟩ = some (.int .u64 r.c.b) ∧ w'.cell? ⟨A, 5, none⟩ = some (.int .u64 r.n.a) ∧ w'.cell? ⟨A, 6, none⟩ = some (.int .u64 r.n.b) ∧ A < w'.heap.size ∧ Sl w' A' (2 * k) (fun j => .int .u64 (g' j)) ∧ Below W.heap.size W w')
            (first
              | (go_split_ands; refine ⟨?_, ?_, ?_, ?_, ?_, ?_, ?_, ?_, ?_, ?_⟩; exact (hb5.cell (p := ⟨A, 0, none⟩) (by assumption)).trans (by assumption); exact (hb5.cell (p := ⟨A, 1, none⟩) (by assumption)).trans (by assumption); exact (hb5.cell (p := ⟨A, 2, none⟩) (by assumption)).trans (by assumption); exact (hb5.cell (p := ⟨A, 3, none⟩) (by assumption)).trans (by assumption); exact (hb5.cell (p := ⟨A, 4, none⟩) (by assumption)).trans (by assumption); exact (hb5.cell (p := ⟨A, 5, none⟩) (by assumption)).trans (by assumption); exact (hb5.cell (p := ⟨A, 6, none⟩) (by assumption)).trans (by assumption); exact Nat.lt_of_lt_of_le (by assumption) hb5.size; exact Sl.below (by assumption) hb5 (Nat.le_refl _); exact Below.trans (by assumption) (hb5.mono (by first | exact Nat.le_of_lt (by assumption) | exact Below.size (by assumption))))
              | (refine ⟨?_, ?_, ?_, ?_, ?_, ?_, ?_, ?_, ?_, ?_⟩; assumption; assumption; assumption; assumption; assumption; assumption; assumption; assumption; exact Sl.drew (by assumption); exact Below.drew (by assumption))
              | (go_split_ands; refine ⟨?_, ?_, ?_, ?_, ?_, ?_, ?_, ?_, ?_, ?_⟩; exact (World.cell?_alloc_lt _ _ ⟨A, 0, none⟩ (by assumption)).trans (by assumption); exact (World.cell?_alloc_lt _ _ ⟨A, 1, none⟩ (by assumption)).trans (by assumption); exact (World.cell?_alloc_lt _ _ ⟨A, 2, none⟩ (by assumption)).trans (by assumption); exact (World.cell?_alloc_lt _ _ ⟨A, 3, none⟩ (by assumption)).trans (by assumption); exact (World.cell?_alloc_lt _ _ ⟨A, 4, none⟩ (by assumption)).trans (by assumption); exact (World.cell?_alloc_lt _ _ ⟨A, 5, none⟩ (by assumption)).trans (by assumption); exact (World.cell?_alloc_lt _ _ ⟨A, 6, none⟩ (by assumption)).trans (by assumption); (simp; omega); exact Sl.alloc (by assumption) _; exact Below.alloc (by assumption) (by first | exact Nat.le_of_lt (by assumption) | exact Below.size (by assumption)) _)
              | (go_split_ands; refine ⟨?_, ?_, ?_, ?_, ?_, ?_, ?_, ?_, ?_, ?_⟩; exact (World.cell?_alloc_lt _ _ ⟨A, 0, none⟩ (by assumption)).trans (by assumption); exact (World.cell?_alloc_lt _ _ ⟨A, 1, none⟩ (by assumption)).trans (by assumption); exact (World.cell?_alloc_lt _ _ ⟨A, 2, none⟩ (by assumption)).trans (by assumption); exact (World.cell?_alloc_lt _ _ ⟨A, 3, none⟩ (by assumption)).trans (by assumption); exact (World.cell?_alloc_lt _ _ ⟨A, 4, none⟩ (by assumption)).trans (by assumption); exact (World.cell?_alloc_lt _ _ ⟨A, 5, none⟩ (by assumption)).trans (by assumption); exact (World.cell?_alloc_lt _ _ ⟨A, 6, none⟩ (by assumption)).trans (by assumption); exact Nat.lt_of_lt_of_le (by assumption) (Below.drew (Below.alloc (Below.refl _ _) (Nat.le_refl _) _)).size; exact Sl.drew (Sl.alloc (by assumption) _); exact Below.drew (Below.alloc (by assumption) (Below.size (by assumption)) _))
              | (go_split_ands; refine ⟨?_, ?_, ?_, ?_, ?_, ?_, ?_, ?_, ?_, ?_⟩; assumption; assumption; assumption; assumption; assumption; assumption; assumption; assumption; assumption; assumption)
              | go_keep)
            ((first
              | (go_at_call 26
                 go_split_ands
                 with_reducible refine (RRc.out _ ?_).mono ?_
                 · assumption
                 rintro e w5 ⟨rfl, hb5⟩)
              | (go_at_call 24
                 go_split_ands
                 with_reducible refine (LK.out _).mono ?_
                 rintro e w5 ⟨rfl, hb5⟩)
              | (go_at_call 23
                 go_split_ands
                 with_reducible refine (NX.out _).mono ?_
                 rintro e w5 ⟨rfl, hb5⟩)
              | (go_at_call 27
                 go_split_ands
                 with_reducible refine (RN.out _).mono ?_
                 rintro e w5 ⟨rfl, hb5⟩))))
           | fail "the region"
          go_split_ands
          go_wp2_with fail
          go_loopw [13, 14, 15, 16, 17] (fun i _ _ _ _ wr => ∃ j : Nat, j ≤ 9 ∧ i = .int .i64 ((j : Int) - 3) ∧ wr.cell? ⟨A, 0, none⟩ = some (.int .i64 r.e) ∧ wr.cell? ⟨A, 1, none⟩ = some (.int .u64 r.p.a) ∧ wr.cell? ⟨A, 2, none⟩ = some (.int .u64 r.p.b) ∧ wr.cell? ⟨A, 3, none⟩ = some (.int .u64 r.c.a) ∧ wr.cell? ⟨A, 4, none⟩ = some (.int .u64 r.c.b) ∧ wr.cell? ⟨A, 5, none⟩ = some (.int .u64 r.n.a) ∧ wr.cell? ⟨A, 6, none⟩ = some (.int .u64 r.n.b) ∧ A < wr.heap.size ∧ Below W.heap.size W wr) (fun i _ _ _ _ _ => (6 - intOf i).toNat)
          case atStart => exact ⟨0, by omega, rfl, by assumption, by assumption, by assumption, by assumption, by assumption, by assumption, by assumption, by assumption, by assumption⟩
          case round =>
            obtain ⟨j, hj, rfl, e0, e1, e2, e3, e4, e5, e6, eA, eB⟩ := hrel
            by_cases hlt : j < 9
            · have i1 : (j : Int) - 3 < 6 := by omega
              go_wp2_with fail
              refine (KY.out _ _).mono ?_
              rintro e' v1 ⟨rfl, hb⟩
              have eB1 := eB.trans (hb.mono eB.size)
              have p0 := (hb.cell (p := ⟨A, 0, none⟩) eA).trans e0
              have p1 := (hb.cell (p := ⟨A, 1, none⟩) eA).trans e1
              have p2 := (hb.cell (p := ⟨A, 2, none⟩) eA).trans e2
              have p3 := (hb.cell (p := ⟨A, 3, none⟩) eA).trans e3
              have p4 := (hb.cell (p := ⟨A, 4, none⟩) eA).trans e4
              have p5 := (hb.cell (p := ⟨A, 5, none⟩) eA).trans e5
              have p6 := (hb.cell (p := ⟨A, 6, none⟩) eA).trans e6
              have pA := Nat.lt_of_lt_of_le eA hb.size
              clear hb e0 e1 e2 e3 e4 e5 e6
              go_wp2_with fail
              have CP := Ce.made (w := v1) (l := [.int .u64 ((keyOf r (x + ((j : Int) - 3))).getD ⟨0, 0⟩).a, .int .u64 ((keyOf r (x + ((j : Int) - 3))).getD ⟨0, 0⟩).b]) (T := 25) (g := v1.heap.size) rfl
              have ha := (Below.refl v1.heap.size v1).alloc (Nat.le_refl _) (.cells #[.int .u64 ((keyOf r (x + ((j : Int) - 3))).getD ⟨0, 0⟩).a, .int .u64 ((keyOf r (x + ((j : Int) - 3))).getD ⟨0, 0⟩).b] 25)
              have eB2 := eB1.alloc eB1.size (.cells #[.int .u64 ((keyOf r (x + ((j : Int) - 3))).getD ⟨0, 0⟩).a, .int .u64 ((keyOf r (x + ((j : Int) - 3))).getD ⟨0, 0⟩).b] 25)
              have s0 := (ha.cell (p := ⟨A, 0, none⟩) pA).trans p0
              have s1 := (ha.cell (p := ⟨A, 1, none⟩) pA).trans p1
              have s2 := (ha.cell (p := ⟨A, 2, none⟩) pA).trans p2
              have s3 := (ha.cell (p := ⟨A, 3, none⟩) pA).trans p3
              have s4 := (ha.cell (p := ⟨A, 4, none⟩) pA).trans p4
              have s5 := (ha.cell (p := ⟨A, 5, none⟩) pA).trans p5
              have s6 := (ha.cell (p := ⟨A, 6, none⟩) pA).trans p6
              have sA := Nat.lt_of_lt_of_le pA ha.size
              clear ha p0 p1 p2 p3 p4 p5 p6
              generalize v1.alloc (.cells #[.int .u64 ((keyOf r (x + ((j : Int) - 3))).getD ⟨0, 0⟩).a, .int .u64 ((keyOf r (x + ((j : Int) - 3))).getD ⟨0, 0⟩).b] 25) = v3 at *
              generalize v1.heap.size = PP at *
              refine (RK.out _ _).mono ?_
              rintro e' v2 ⟨rfl, hb⟩
              have eB3 := eB2.trans (hb.mono eB2.size)
              replace CP := CP.below hb
              have t0 := (hb.cell (p := ⟨A, 0, none⟩) sA).trans s0
              have t1 := (hb.cell (p := ⟨A, 1, none⟩) sA).trans s1
              have t2 := (hb.cell (p := ⟨A, 2, none⟩) sA).trans s2
              have t3 := (hb.cell (p := ⟨A, 3, none⟩) sA).trans s3
              have t4 := (hb.cell (p := ⟨A, 4, none⟩) sA).trans s4
              have t5 := (hb.cell (p := ⟨A, 5, none⟩) sA).trans s5
              have t6 := (hb.cell (p := ⟨A, 6, none⟩) sA).trans s6
              have tA := Nat.lt_of_lt_of_le sA hb.size
              clear hb s0 s1 s2 s3 s4 s5 s6
              obtain ⟨kP, qP, zP⟩ := CP
              have cP0 := qP 0 _ rfl
              have cP1 := qP 1 _ rfl
              clear qP zP
              have ha := (Below.refl v2.heap.size v2).alloc (Nat.le_refl _) (.cells #[.int .u64 ((keyOf r (x + ((j : Int) - 3))).getD ⟨0, 0⟩).a, .int .u64 ((keyOf r (x + ((j : Int) - 3))).getD ⟨0, 0⟩).b] 25)
              go_wp2_with fail
              go_roundw
              case rel => exact ⟨j + 1, by omega, by congr 1; omega, (ha.cell (p := ⟨A, 0, none⟩) tA).trans t0, (ha.cell (p := ⟨A, 1, none⟩) tA).trans t1, (ha.cell (p := ⟨A, 2, none⟩) tA).trans t2, (ha.cell (p := ⟨A, 3, none⟩) tA).trans t3, (ha.cell (p := ⟨A, 4, none⟩) tA).trans t4, (ha.cell (p := ⟨A, 5, none⟩) tA).trans t5, (ha.cell (p := ⟨A, 6, none⟩) tA).trans t6, Nat.lt_of_lt_of_le tA ha.size, eB3.alloc eB3.size _⟩
              case measure => simp [intOf]; omega
            · have e : j = 9 := by omega
              subst e
              have i1 : ¬ ((9 : Nat) : Int) - 3 < 6 := by omega
              go_wp2_with fail
              refine (KY.out _ _).mono ?_
              rintro e' v1 ⟨rfl, hb⟩
              have eB1 := eB.trans (hb.mono eB.size)
              have p0 := (hb.cell (p := ⟨A, 0, none⟩) eA).trans e0
              have p1 := (hb.cell (p := ⟨A, 1, none⟩) eA).trans e1
              have p2 := (hb.cell (p := ⟨A, 2, none⟩) eA).trans e2
              have p3 := (hb.cell (p := ⟨A, 3, none⟩) eA).trans e3
              have p4 := (hb.cell (p := ⟨A, 4, none⟩) eA).trans e4
              have p5 := (hb.cell (p := ⟨A, 5, none⟩) eA).trans e5
              have p6 := (hb.cell (p := ⟨A, 6, none⟩) eA).trans e6
              have pA := Nat.lt_of_lt_of_le eA hb.size
              clear hb e0 e1 e2 e3 e4 e5 e6
              go_wp2_with fail
              have CP := Ce.made (w := v1) (l := [.int .u64 ((keyOf r ee).getD ⟨0, 0⟩).a, .int .u64 ((keyOf r ee).getD ⟨0, 0⟩).b]) (T := 25) (g := v1.heap.size) rfl
              have ha := (Below.refl v1.heap.size v1).alloc (Nat.le_refl _) (.cells #[.int .u64 ((keyOf r ee).getD ⟨0, 0⟩).a, .int .u64 ((keyOf r ee).getD ⟨0, 0⟩).b] 25)
              have eB2 := eB1.alloc eB1.size (.cells #[.int .u64 ((keyOf r ee).getD ⟨0, 0⟩).a, .int .u64 ((keyOf r ee).getD ⟨0, 0⟩).b] 25)
              have s0 := (ha.cell (p := ⟨A, 0, none⟩) pA).trans p0
              have s1 := (ha.cell (p := ⟨A, 1, none⟩) pA).trans p1
              have s2 := (ha.cell (p := ⟨A, 2, none⟩) pA).trans p2
              have s3 := (ha.cell (p := ⟨A, 3, none⟩) pA).trans p3
              have s4 := (ha.cell (p := ⟨A, 4, none⟩) pA).trans p4
              have s5 := (ha.cell (p := ⟨A, 5, none⟩) pA).trans p5
              have s6 := (ha.cell (p := ⟨A, 6, none⟩) pA).trans p6
              have sA := Nat.lt_of_lt_of_le pA ha.size
              clear ha p0 p1 p2 p3 p4 p5 p6
              generalize v1.alloc (.cells #[.int .u64 ((keyOf r ee).getD ⟨0, 0⟩).a, .int .u64 ((keyOf r ee).getD ⟨0, 0⟩).b] 25) = v3 at *
              generalize v1.heap.size = PP at *
              refine (RK.out _ _).mono ?_
              rintro e' v2 ⟨rfl, hb⟩
              have eB3 := eB2.trans (hb.mono eB2.size)
              replace CP := CP.below hb
              have t0 := (hb.cell (p := ⟨A, 0, none⟩) sA).trans s0
              have t1 := (hb.cell (p := ⟨A, 1, none⟩) sA).trans s1
              have t2 := (hb.cell (p := ⟨A, 2, none⟩) sA).trans s2
              have t3 := (hb.cell (p := ⟨A, 3, none⟩) sA).trans s3
              have t4 := (hb.cell (p := ⟨A, 4, none⟩) sA).trans s4
              have t5 := (hb.cell (p := ⟨A, 5, none⟩) sA).trans s5
              have t6 := (hb.cell (p := ⟨A, 6, none⟩) sA).trans s6
              have tA := Nat.lt_of_lt_of_le sA hb.size
              clear hb s0 s1 s2 s3 s4 s5 s6
              obtain ⟨kP, qP, zP⟩ := CP
              have cP0 := qP 0 _ rfl
              have cP1 := qP 1 _ rfl
              clear qP zP
              go_wp2_with fail
              go_ret
              exact ⟨rfl, eB3.alloc eB3.size _⟩
        · have j0 : decide ((k : Int) < n) = false := by simp; omega
          go_wp2_with fail
          refine (WS.out _).mono ?_
          rintro e' w3 ⟨rfl, rfl⟩
          go_wp2_with fail
          refine (CRc.out _ SG).mono ?_
          rintro e' w4 ⟨rfl, hb⟩
          replace B := B.trans (hb.mono B.size)
          replace SG := SG.below hb (Nat.le_refl _)
          clear hb
          go_upto_region 10 with fail
          replace SG := SG.alloc (.cells #[.int .i64 r.e, .int .u64 r.p.a, .int .u64 r.p.b, .int .u64 r.c.a, .int .u64 r.c.b, .int .u64 r.n.a, .int .u64 r.n.b] 27)
          have CA := Ce.made (w := w4) (l := [.int .i64 r.e, .int .u64 r.p.a, .int .u64 r.p.b, .int .u64 r.c.a, .int .u64 r.c.b, .int .u64 r.n.a, .int .u64 r.n.b]) (T := 27) (g := w4.heap.size) rfl
          replace B := B.alloc B.size (.cells #[.int .i64 r.e, .int .u64 r.p.a, .int .u64 r.p.b, .int .u64 r.c.a, .int .u64 r.c.b, .int .u64 r.n.a, .int .u64 r.n.b] 27)
          generalize w4.alloc (.cells #[.int .i64 r.e, .int .u64 r.p.a, .int .u64 r.p.b, .int .u64 r.c.a, .int .u64 r.c.b, .int .u64 r.n.a, .int .u64 r.n.b] 27) = w5 at *
          generalize w4.heap.size = A at *
          obtain ⟨kA, qA, zA⟩ := id CA
          have cA0 := qA 0 _ rfl
          have cA1 := qA 1 _ rfl
          have cA2 := qA 2 _ rfl
          have cA3 := qA 3 _ rfl
          have cA4 := qA 4 _ rfl
          have cA5 := qA 5 _ rfl
          have cA6 := qA 6 _ rfl
          clear qA zA
          first
           | (go_region_held3 (fun w' => w'.cell? ⟨A, 0, none⟩ = some (.int .i64 r.e) ∧ w'.cell? ⟨A, 1, none⟩ = some (.int .u64 r.p.a) ∧ w'.cell? ⟨A, 2, none⟩ = some (.int .u64 r.p.b) ∧ w'.cell? ⟨A, 3, none⟩ = some (.int .u64 r.c.a) ∧ w'.cell? ⟨A, 4, none⟩ = some (.int .u64 r.c.b) ∧ w'.cell? ⟨A, 5, none⟩ = some (.int .u64 r.n.a) ∧ w'.cell? ⟨A, 6, none⟩ = some (.int .u64 r.n.b) ∧ A < w'.heap.size ∧ Sl w' A' (2 * k) (fun j => .int .u64 (g' j)) ∧ Below W.heap.size W w')
            (first
              | (go_split_ands; refine ⟨?_, ?_, ?_, ?_, ?_, ?_, ?_, ?_, ?_, ?_⟩; exact (hb5.cell (p := ⟨A, 0, none⟩) (by assumption)).trans (by assumption); exact (hb5.cell (p := ⟨A, 1, none⟩) (by assumption)).trans (by assumption); exact (hb5.cell (p := ⟨A, 2, none⟩) (by assumption)).trans (by assumption); exact (hb5.cell (p := ⟨A, 3, none⟩) (by assumption)).trans (by assumption); exact (hb5.cell (p := ⟨A, 4, none⟩) (by assumption)).trans (by assumption); exact (hb5.cell (p := ⟨A, 5, none⟩) (by assumption)).trans (by assumption); exact (hb5.cell (p := ⟨A, 6, none⟩) (by assumption)).trans (by assumption); exact Nat.lt_of_lt_of_le (by assumption) hb5.size; exact Sl.below (by assumption) hb5 (Nat.le_refl _); exact Below.trans (by assumption) (hb5.mono (by first | exact Nat.le_of_lt (by assumption) | exact Below.size (by assumption))))
              | (refine ⟨?_, ?_, ?_, ?_, ?_, ?_, ?_, ?_, ?_, ?_⟩; assumption; assumption; assumption; assumption; assumption; assumption; assumption; assumption; exact Sl.drew (by assumption); exact Below.drew (by assumption))
              | (go_split_ands; refine ⟨?_, ?_, ?_, ?_, ?_, ?_, ?_, ?_, ?_, ?_⟩; exact (World.cell?_alloc_lt _ _ ⟨A, 0, none⟩ (by assumption)).trans (by assumption); exact (World.cell?_alloc_lt _ _ ⟨A, 1, none⟩ (by assumption)).trans (by assumption); exact (World.cell?_alloc_lt _ _ ⟨A, 2, none⟩ (by assumption)).trans (by assumption); exact (World.cell?_alloc_lt _ _ ⟨A, 3, none⟩ (by assumption)).trans (by assumption); exact (World.cell?_alloc_lt _ _ ⟨A, 4, none⟩ (by assumption)).trans (by assumption); exact (World.cell?_alloc_lt _ _ ⟨A, 5, none⟩ (by assumption)).trans (by assumption); exact (World.cell?_alloc_lt _ _ ⟨A, 6, none⟩ (by assumption)).trans (by assumption); (simp; omega); exact Sl.alloc (by assumption) _; exact Below.alloc (by assumption) (by first | exact Nat.le_of_lt (by assumption) | exact Below.size (by assumption)) _)
              | (go_split_ands; refine ⟨?_, ?_, ?_, ?_, ?_, ?_, ?_, ?_, ?_, ?_⟩; exact (World.cell?_alloc_lt _ _ ⟨A, 0, none⟩ (by assumption)).trans (by assumption); exact (World.cell?_alloc_lt _ _ ⟨A, 1, none⟩ (by assumption)).trans (by assumption); exact (World.cell?_alloc_lt _ _ ⟨A, 2, none⟩ (by assumption)).trans (by assumption); exact (World.cell?_alloc_lt _ _ ⟨A, 3, none⟩ (by assumption)).trans (by assumption); exact (World.cell?_alloc_lt _ _ ⟨A, 4, none⟩ (by assumption)).trans (by assumption); exact (World.cell?_alloc_lt _ _ ⟨A, 5, none⟩ (by assumption)).trans (by assumption); exact (World.cell?_alloc_lt _ _ ⟨A, 6, none⟩ (by assumption)).trans (by assumption); exact Nat.lt_of_lt_of_le (by assumption) (Below.drew (Below.alloc (Below.refl _ _) (Nat.le_refl _) _)).size; exact Sl.drew (Sl.alloc (by assumption) _); exact Below.drew (Below.alloc (by assumption) (Below.size (by assumption)) _))
              | (go_split_ands; refine ⟨?_, ?_, ?_, ?_, ?_, ?_, ?_, ?_, ?_, ?_⟩; assumption; assumption; assumption; assumption; assumption; assumption; assumption; assumption; assumption; assumption)
              | go_keep)
            ((first
              | (go_at_call 26
                 go_split_ands
                 with_reducible refine (RRc.out _ ?_).mono ?_
                 · assumption
                 rintro e w5 ⟨rfl, hb5⟩)
              | (go_at_call 24
                 go_split_ands
                 with_reducible refine (LK.out _).mono ?_
                 rintro e w5 ⟨rfl, hb5⟩)
              | (go_at_call 23
                 go_split_ands
                 with_reducible refine (NX.out _).mono ?_
                 rintro e w5 ⟨rfl, hb5⟩)
              | (go_at_call 27
                 go_split_ands
                 with_reducible refine (RN.out _).mono ?_
                 rintro e w5 ⟨rfl, hb5⟩))))
           | fail "the region"
          go_split_ands
          go_wp2_with fail
          go_loopw [13, 14, 15, 16, 17] (fun i _ _ _ _ wr => ∃ j : Nat, j ≤ 9 ∧ i = .int .i64 ((j : Int) - 3) ∧ wr.cell? ⟨A, 0, none⟩ = some (.int .i64 r.e) ∧ wr.cell? ⟨A, 1, none⟩ = some (.int .u64 r.p.a) ∧ wr.cell? ⟨A, 2, none⟩ = some (.int .u64 r.p.b) ∧ wr.cell? ⟨A, 3, none⟩ = some (.int .u64 r.c.a) ∧ wr.cell? ⟨A, 4, none⟩ = some (.int .u64 r.c.b) ∧ wr.cell? ⟨A, 5, none⟩ = some (.int .u64 r.n.a) ∧ wr.cell? ⟨A, 6, none⟩ = some (.int .u64 r.n.b) ∧ A < wr.heap.size ∧ Below W.heap.size W wr) (fun i _ _ _ _ _ => (6 - intOf i).toNat)
          case atStart => exact ⟨0, by omega, rfl, by assumption, by assumption, by assumption, by assumption, by assumption, by assumption, by assumption, by assumption, by assumption⟩
          case round =>
            obtain ⟨j, hj, rfl, e0, e1, e2, e3, e4, e5, e6, eA, eB⟩ := hrel
            by_cases hlt : j < 9
            · have i1 : (j : Int) - 3 < 6 := by omega
              go_wp2_with fail
              refine (KY.out _ _).mono ?_
              rintro e' v1 ⟨rfl, hb⟩
              have eB1 := eB.trans (hb.mono eB.size)
              have p0 := (hb.cell (p := ⟨A, 0, none⟩) eA).trans e0
              have p1 := (hb.cell (p := ⟨A, 1, none⟩) eA).trans e1
              have p2 := (hb.cell (p := ⟨A, 2, none⟩) eA).trans e2
              have p3 := (hb.cell (p := ⟨A, 3, none⟩) eA).trans e3
              have p4 := (hb.cell (p := ⟨A, 4, none⟩) eA).trans e4
              have p5 := (hb.cell (p := ⟨A, 5, none⟩) eA).trans e5
              have p6 := (hb.cell (p := ⟨A, 6, none⟩) eA).trans e6
              have pA := Nat.lt_of_lt_of_le eA hb.size
              clear hb e0 e1 e2 e3 e4 e5 e6
              go_wp2_with fail
              have CP := Ce.made (w := v1) (l := [.int .u64 ((keyOf r (x + ((j : Int) - 3))).getD ⟨0, 0⟩).a, .int .u64 ((keyOf r (x + ((j : Int) - 3))).getD ⟨0, 0⟩).b]) (T := 25) (g := v1.heap.size) rfl
              have ha := (Below.refl v1.heap.size v1).alloc (Nat.le_refl _) (.cells #[.int .u64 ((keyOf r (x + ((j : Int) - 3))).getD ⟨0, 0⟩).a, .int .u64 ((keyOf r (x + ((j : Int) - 3))).getD ⟨0, 0⟩).b] 25)
              have eB2 := eB1.alloc eB1.size (.cells #[.int .u64 ((keyOf r (x + ((j : Int) - 3))).getD ⟨0, 0⟩).a, .int .u64 ((keyOf r (x + ((j : Int) - 3))).getD ⟨0, 0⟩).b] 25)
              have s0 := (ha.cell (p := ⟨A, 0, none⟩) pA).trans p0
              have s1 := (ha.cell (p := ⟨A, 1, none⟩) pA).trans p1
              have s2 := (ha.cell (p := ⟨A, 2, none⟩) pA).trans p2
              have s3 := (ha.cell (p := ⟨A, 3, none⟩) pA).trans p3
              have s4 := (ha.cell (p := ⟨A, 4, none⟩) pA).trans p4
              have s5 := (ha.cell (p := ⟨A, 5, none⟩) pA).trans p5
              have s6 := (ha.cell (p := ⟨A, 6, none⟩) pA).trans p6
              have sA := Nat.lt_of_lt_of_le pA ha.size
              clear ha p0 p1 p2 p3 p4 p5 p6
              generalize v1.alloc (.cells #[.int .u64 ((keyOf r (x + ((j : Int) - 3))).getD ⟨0, 0⟩).a, .int .u64 ((keyOf r (x + ((j : Int) - 3))).getD ⟨0, 0⟩).b] 25) = v3 at *
              generalize v1.heap.size = PP at *
              refine (RK.out _ _).mono ?_
              rintro e' v2 ⟨rfl, hb⟩
              have eB3 := eB2.trans (hb.mono eB2.size)
              replace CP := CP.below hb
              have t0 := (hb.cell (p := ⟨A, 0, none⟩) sA).trans s0
              have t1 := (hb.cell (p := ⟨A, 1, none⟩) sA).trans s1
              have t2 := (hb.cell (p := ⟨A, 2, none⟩) sA).trans s2
              have t3 := (hb.cell (p := ⟨A, 3, none⟩) sA).trans s3
              have t4 := (hb.cell (p := ⟨A, 4, none⟩) sA).trans s4
              have t5 := (hb.cell (p := ⟨A, 5, none⟩) sA).trans s5
              have t6 := (hb.cell (p := ⟨A, 6, none⟩) sA).trans s6
              have tA := Nat.lt_of_lt_of_le sA hb.size
              clear hb s0 s1 s2 s3 s4 s5 s6
              obtain ⟨kP, qP, zP⟩ := CP
              have cP0 := qP 0 _ rfl
              have cP1 := qP 1 _ rfl
              clear qP zP
              have ha := (Below.refl v2.heap.size v2).alloc (Nat.le_refl _) (.cells #[.int .u64 ((keyOf r (x + ((j : Int) - 3))).getD ⟨0, 0⟩).a, .int .u64 ((keyOf r (x + ((j : Int) - 3))).getD ⟨0, 0⟩).b] 25)
              go_wp2_with fail
              go_roundw
              case rel => exact ⟨j + 1, by omega, by congr 1; omega, (ha.cell (p := ⟨A, 0, none⟩) tA).trans t0, (ha.cell (p := ⟨A, 1, none⟩) tA).trans t1, (ha.cell (p := ⟨A, 2, none⟩) tA).trans t2, (ha.cell (p := ⟨A, 3, none⟩) tA).trans t3, (ha.cell (p := ⟨A, 4, none⟩) tA).trans t4, (ha.cell (p := ⟨A, 5, none⟩) tA).trans t5, (ha.cell (p := ⟨A, 6, none⟩) tA).trans t6, Nat.lt_of_lt_of_le tA ha.size, eB3.alloc eB3.size _⟩
              case measure => simp [intOf]; omega
            · have e : j = 9 := by omega
              subst e
              have i1 : ¬ ((9 : Nat) : Int) - 3 < 6 := by omega
              go_wp2_with fail
              refine (KY.out _ _).mono ?_
              rintro e' v1 ⟨rfl, hb⟩
              have eB1 := eB.trans (hb.mono eB.size)
              have p0 := (hb.cell (p := ⟨A, 0, none⟩) eA).trans e0
              have p1 := (hb.cell (p := ⟨A, 1, none⟩) eA).trans e1
              have p2 := (hb.cell (p := ⟨A, 2, none⟩) eA).trans e2
              have p3 := (hb.cell (p := ⟨A, 3, none⟩) eA).trans e3
              have p4 := (hb.cell (p := ⟨A, 4, none⟩) eA).trans e4
              have p5 := (hb.cell (p := ⟨A, 5, none⟩) eA).trans e5
              have p6 := (hb.cell (p := ⟨A, 6, none⟩) eA).trans e6
              have pA := Nat.lt_of_lt_of_le eA hb.size
              clear hb e0 e1 e2 e3 e4 e5 e6
              go_wp2_with fail
              have CP := Ce.made (w := v1) (l := [.int .u64 ((keyOf r ee).getD ⟨0, 0⟩).a, .int .u64 ((keyOf r ee).getD ⟨0, 0⟩).b]) (T := 25) (g := v1.heap.size) rfl
              have ha := (Below.refl v1.heap.size v1).alloc (Nat.le_refl _) (.cells #[.int .u64 ((keyOf r ee).getD ⟨0, 0⟩).a, .int .u64 ((keyOf r ee).getD ⟨0, 0⟩).b] 25)
              have eB2 := eB1.alloc eB1.size (.cells #[.int .u64 ((keyOf r ee).getD ⟨0, 0⟩).a, .int .u64 ((keyOf r ee).getD ⟨0, 0⟩).b] 25)
              have s0 := (ha.cell (p := ⟨A, 0, none⟩) pA).trans p0
              have s1 := (ha.cell (p := ⟨A, 1, none⟩) pA).trans p1
              have s2 := (ha.cell (p := ⟨A, 2, none⟩) pA).trans p2
              have s3 := (ha.cell (p := ⟨A, 3, none⟩) pA).trans p3
              have s4 := (ha.cell (p := ⟨A, 4, none⟩) pA).trans p4
              have s5 := (ha.cell (p := ⟨A, 5, none⟩) pA).trans p5
              have s6 := (ha.cell (p := ⟨A, 6, none⟩) pA).trans p6
              have sA := Nat.lt_of_lt_of_le pA ha.size
              clear ha p0 p1 p2 p3 p4 p5 p6
              generalize v1.alloc (.cells #[.int .u64 ((keyOf r ee).getD ⟨0, 0⟩).a, .int .u64 ((keyOf r ee).getD ⟨0, 0⟩).b] 25) = v3 at *
              generalize v1.heap.size = PP at *
              refine (RK.out _ _).mono ?_
              rintro e' v2 ⟨rfl, hb⟩
              have eB3 := eB2.trans (hb.mono eB2.size)
              replace CP := CP.below hb
              have t0 := (hb.cell (p := ⟨A, 0, none⟩) sA).trans s0
              have t1 := (hb.cell (p := ⟨A, 1, none⟩) sA).trans s1
              have t2 := (hb.cell (p := ⟨A, 2, none⟩) sA).trans s2
              have t3 := (hb.cell (p := ⟨A, 3, none⟩) sA).trans s3
              have t4 := (hb.cell (p := ⟨A, 4, none⟩) sA).trans s4
              have t5 := (hb.cell (p := ⟨A, 5, none⟩) sA).trans s5
              have t6 := (hb.cell (p := ⟨A, 6, none⟩) sA).trans s6
              have tA := Nat.lt_of_lt_of_le sA hb.size
              clear hb s0 s1 s2 s3 s4 s5 s6
              obtain ⟨kP, qP, zP⟩ := CP
              have cP0 := qP 0 _ rfl
              have cP1 := qP 1 _ rfl
              clear qP zP
              go_wp2_with fail
              go_ret
              exact ⟨rfl, eB3.alloc eB3.size _⟩

set_option maxRecDepth 100000 in
theorem lifted (os : Os) (started : os.Started) (H : Type) (enc : TypeId × Value → H) :
    ReturnsInHanded {} Try.checked os 6 .any (Rows.cookieRingsSpec.pre6 enc Try.prog Try.f6 [] false) (Rows.cookieRingsSpec.post enc Try.prog Try.f6 false true false false) :=
  law_step (s := Rows.cookieRingsSpec) started (by kernel_rfl) Try.func6
    (ChangeSpec.witness6 (s := Rows.cookieRingsSpec) (enc := enc) (C := Try.checked) false ⟨#[], #[.int .i64 0, .slice none 0 0, .int .i64 0, .int .i64 0], []⟩ 8 (by kernel_rfl) (by kernel_rfl) (by kernel_rfl) (by kernel_rfl))
    rfl (by rw [Try.params6]; decide +kernel) rfl Try.underlying4
    (fun ds h => by
      rw [Try.params6] at h
      match ds, h with
      | [_, _, _, _], _ => rfl)
    (fun W base args ds ps hval hA hsz => by
      rw [Try.params6] at hA hval hsz
      obtain ⟨v0, vs0, d0, ds0, p0, q0, hargs, rfl, rfl, h0, r0⟩ := trodAll_cons hA
      obtain ⟨v1, vs1, d1, ds1, p1, q1, rfl, rfl, rfl, h1, r1⟩ := trodAll_cons r0
      obtain ⟨v2, vs2, d2, ds2, p2, q2, rfl, rfl, rfl, h2, r2⟩ := trodAll_cons r1
      obtain ⟨v3, vs3, d3, ds3, p3, q3, rfl, rfl, rfl, h3, r3⟩ := trodAll_cons r2
      obtain ⟨rfl, rfl, rfl⟩ := trodAll_nil r3
      obtain rfl : args = #[v0, v1, v2, v3] := by cases args; simp_all
      obtain ⟨a0, rfl, rfl, rfl, w0⟩ := open_int Try.underlying3 (hval 0 3 v0 rfl rfl) h0
      obtain ⟨A1, n1, c1, g1, rfl, hn1, hc1, hs1, hw1, hl1, hd1⟩ := open_row Try.underlying38 Try.underlying3 (by kernel_rfl) (hval 1 38 v1 rfl rfl) h1
      have re1 : c1 * 8 ≤ 140737488351232 := by
        rcases hd1 with ⟨_, h0⟩ | ⟨xs, ys, h1, h2⟩
        · omega
        · have := sized_slice hsz (j := 1) (t := 38) (e := 3) rfl (by rw [h1]; rfl) Try.underlying38
          rw [h2, show Try.prog.bytesOf 3 = 8 from by kernel_rfl] at this
          simpa [reachBytes] using this
      obtain ⟨a2, rfl, rfl, rfl, w2⟩ := open_int Try.underlying3 (hval 2 3 v2 rfl rfl) h2
      obtain ⟨a3, rfl, rfl, rfl, w3⟩ := open_int Try.underlying3 (hval 3 3 v3 rfl rfl) h3
      exact walk W a0 (bounds_i64 w0) A1 n1 c1 g1 hn1 hc1 hs1 (fun j => bounds_i64 (hw1 j)) hl1 re1 a2 (bounds_i64 w2) a3 (bounds_i64 w3))

theorem proved : Rows.CookieRingsSaid :=
  OpenClaim.holds_of_wide 6 Try.f6 rfl rfl rfl rfl rfl rfl rfl ⟨rfl, rfl, rfl, rfl, rfl⟩ rfl rfl rfl rfl rfl (by kernel_rfl) Try.func6 (by kernel_rfl)
    (of_decide_eq_true (by kernel_rfl)) (by unfold Func.isWrapper; first | (rw [if_pos (by decide +kernel)]; kernel_rfl) | (rw [if_neg (by decide +kernel)]; exact ⟨rfl, rfl⟩))
    (fun os started H enc _ => lifted os started H enc)
end Go.Proofs.Ytfokkmemjkfifaa.cookieRings
