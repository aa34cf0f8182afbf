/- roundhouselaw5.CookieFlows answers true for every epoch, number, flow, slot and change; no condition. -/
import Derived.Test.YtfokkmemjkfifabCr
namespace Go.Proofs.Ytfokkmemjkfifab.cookieFlows
set_option linter.unusedVariables false
set_option linter.unusedSimpArgs false
open Go.RowKit Go.ChangeShapes Go.WideShapes Go.ChangeAt

set_option maxRecDepth 100000 in
set_option maxHeartbeats 20000000 in
theorem walk (W : World) (ep : Int) (rep : -9223372036854775808 ≤ ep ∧ ep ≤ 9223372036854775807)
    (a : Int) (ra : -9223372036854775808 ≤ a ∧ a ≤ 9223372036854775807) (f0 : Int) (rf0 : -9223372036854775808 ≤ f0 ∧ f0 ≤ 9223372036854775807)
    (g0 : Int) (rg0 : -9223372036854775808 ≤ g0 ∧ g0 ≤ 9223372036854775807) (s0 : Int) (rs0 : -9223372036854775808 ≤ s0 ∧ s0 ≤ 9223372036854775807)
    (h0 : Int) (rh0 : -9223372036854775808 ≤ h0 ∧ h0 ≤ 9223372036854775807) (b0 : Int) (rb0 : -9223372036854775808 ≤ b0 ∧ b0 ≤ 9223372036854775807) :
    Calls Try.prog 3 #[.int .i64 ep, .int .i64 a, .int .i64 f0, .int .i64 g0, .int .i64 s0, .int .i64 h0, .int .i64 b0] W fun e w' => e = .returned (.bool true) ∧ Below W.heap.size W w' := by
  obtain ⟨r, hr⟩ : ∃ r, r = rgE ep a := ⟨_, rfl⟩
  have hE := rgE_ep ep a
  rw [← hr] at hE
  have LR := fun w => re_v (lring_any ep a rep ra w) (show _ = rgV r by rw [hr])
  obtain ⟨x, hx⟩ : ∃ x, x = flN f0 g0 := ⟨_, rfl⟩
  have hI : x.I := by rw [hx]; exact flN_I _ _
  have LF := fun w => re_v (lflow_any f0 g0 w rf0 rg0) (show _ = flV x by rw [hx])
  have wb := wi_bd s0 64 (by omega)
  obtain ⟨s, hs⟩ : ∃ s, s = wi s0 64 := ⟨_, rfl⟩
  rw [← hs] at wb
  have WS := fun w => re_i64 (within_any s0 64 w (by omega) (by omega)) hs.symm
  have wb4 := wi_bd h0 4 (by omega)
  obtain ⟨q, hq⟩ : ∃ q, q = wi h0 4 := ⟨_, rfl⟩
  rw [← hq] at wb4
  have WS4 := fun w => re_i64 (within_any h0 4 w (by omega) (by omega)) hq.symm
  have xb : (0 ≤ x.a ∧ x.a < 4294967296) ∧ (0 ≤ x.p ∧ x.p < 65536) ∧ (0 ≤ x.ta ∧ x.ta < 4294967296) ∧ (0 ≤ x.tp ∧ x.tp < 65536) := by
    rw [hx]
    exact ⟨wi_bd _ _ (by omega), wi_bd _ _ (by omega), wi_bd _ _ (by omega), wi_bd _ _ (by omega)⟩
  obtain ⟨⟨xa1, xa2⟩, ⟨xp1, xp2⟩, ⟨xta1, xta2⟩, ⟨xtp1, xtp2⟩⟩ := xb
  have hm := mand255 b0
  obtain ⟨dd, hdd⟩ : ∃ dd, dd = b0 % 256 := ⟨_, rfl⟩
  rw [← hdd] at hm
  have dd1 : 0 ≤ dd := by omega
  have dd2 : dd < 256 := by omega
  clear hr hx hs hq hdd
  replace LR := hid LR
  replace LF := hid LF
  replace WS := hid WS
  replace WS4 := hid WS4
  obtain ⟨e0, e1⟩ := wb4
  rcases (by omega : q = 0 ∨ q = 1 ∨ q = 2 ∨ q = 3) with rfl | rfl | rfl | rfl
  · obtain ⟨yv, hyv⟩ : ∃ yv, yv = (x.a + dd) % 4294967296 := ⟨_, rfl⟩
    have yv1 : 0 ≤ yv := by omega
    have yv2 : yv < 4294967296 := by omega
    obtain ⟨y, hy⟩ : ∃ y : Fl, y = ⟨yv, x.p, x.ta, x.tp⟩ := ⟨_, rfl⟩
    have hYI : y.I := by
      rw [hy]
      obtain ⟨i1, i2, i3, i4⟩ := hI
      refine ⟨?_, ?_, ?_, ?_⟩ <;> first | exact i1 | exact i2 | exact i3 | exact i4 | (exact ⟨by show _ ≤ yv; omega, by show yv ≤ _; omega⟩)
    obtain ⟨c, hc⟩ : ∃ c, c = cok (tB true) r.c (kdB true) y s (r.e % 4) := ⟨_, rfl⟩
    obtain ⟨d, hd⟩ : ∃ d, d = cok (tB false) r.c (kdB false) y s (r.e % 4) := ⟨_, rfl⟩
    have MK := fun w => re_i64 (make_b true r y s hYI wb w) hc.symm
    have MK2 := fun w => re_i64 (make_b false r y s hYI wb w) hd.symm
    have RM := fun w => re_i64 (rmake_b true r y s hYI wb w) hc.symm
    have RM2 := fun w => re_i64 (rmake_b false r y s hYI wb w) hd.symm
    have RD := fun w => read_b true r x c hI hE.1 w
    have RR := fun w => rread_b true r x c hI hE.1 w
    have hsame : yv = x.a → readC (tB true) r (kdB true) x c = some s := fun h => by
      have hyx : y = x := by rw [hy, h]
      rw [hc, hyx]
      exact read_cok (tB true) r r.c (kdB true) x s (r.e % 4) (tB_T true) wb (by omega) (keyOf_now r)
    generalize readC (tB true) r (kdB true) x c = o at *
    replace hsame := hid hsame
    rw [hy] at MK MK2 RM RM2
    clear hc hd hy hYI y
    unfold rgV flV rdO kdB at *
    simp only [if_true, Bool.false_eq_true, if_false] at *
    replace MK := hid MK
    replace MK2 := hid MK2
    replace RM := hid RM
    replace RM2 := hid RM2
    replace RD := hid RD
    replace RR := hid RR
    have HYV := hid hyv
    clear hyv
    go_enter Try.func3, Try.ntmps3
    go_wp2_with fail
    refine (known_any _).mono ?_
    rintro e' w ⟨rfl, hb1⟩
    have B := hb1
    clear hb1
    go_wp2_with fail
    refine (LR.out _).mono ?_
    rintro e' w1 ⟨rfl, hb⟩
    replace B := then_ B hb
    clear hb
    go_wp2_with fail
    have CA := Ce.made (w := w1) (l := [.int .i64 r.e, .int .u64 r.p.a, .int .u64 r.p.b, .int .u64 r.c.a, .int .u64 r.c.b, .int .u64 r.n.a, .int .u64 r.n.b]) (T := 27) (g := w1.heap.size) rfl
    replace B := B.alloc B.size (.cells #[.int .i64 r.e, .int .u64 r.p.a, .int .u64 r.p.b, .int .u64 r.c.a, .int .u64 r.c.b, .int .u64 r.n.a, .int .u64 r.n.b] 27)
    generalize w1.alloc (.cells #[.int .i64 r.e, .int .u64 r.p.a, .int .u64 r.p.b, .int .u64 r.c.a, .int .u64 r.c.b, .int .u64 r.n.a, .int .u64 r.n.b] 27) = w2 at *
    generalize w1.heap.size = A at *
    refine (LF.out _).mono ?_
    rintro e' w3 ⟨rfl, hb⟩
    replace B := then_ B hb
    replace CA := CA.below hb
    clear hb
    go_wp2_with fail
    refine (WS4.out _).mono ?_
    rintro e' w4 ⟨rfl, rfl⟩
    go_wp2_with fail
    rw [← HYV.out]
    have hA := ((CA.alloc (.cells #[.int .i64 x.a, .int .i64 x.p, .int .i64 x.ta, .int .i64 x.tp] 30)).alloc (.cells #[.int .i64 yv, .int .i64 x.p, .int .i64 x.ta, .int .i64 x.tp] 30)).cr
    have hX := ((Ce.made (w := w3) (l := [.int .i64 x.a, .int .i64 x.p, .int .i64 x.ta, .int .i64 x.tp]) (T := 30) (g := w3.heap.size) rfl).alloc (.cells #[.int .i64 yv, .int .i64 x.p, .int .i64 x.ta, .int .i64 x.tp] 30)).cr
    have hY := (Ce.made (w := w3.alloc (.cells #[.int .i64 x.a, .int .i64 x.p, .int .i64 x.ta, .int .i64 x.tp] 30)) (l := [.int .i64 yv, .int .i64 x.p, .int .i64 x.ta, .int .i64 x.tp]) (T := 30) (g := w3.heap.size + 1) (by simp)).cr
    have hB := (B.alloc B.size (.cells #[.int .i64 x.a, .int .i64 x.p, .int .i64 x.ta, .int .i64 x.tp] 30)).alloc (Below.size (B.alloc B.size (.cells #[.int .i64 x.a, .int .i64 x.p, .int .i64 x.ta, .int .i64 x.tp] 30))) (.cells #[.int .i64 yv, .int .i64 x.p, .int .i64 x.ta, .int .i64 x.tp] 30)
    change Cr ((w3.alloc (.cells #[.int .i64 x.a, .int .i64 x.p, .int .i64 x.ta, .int .i64 x.tp] 30)).alloc (.cells #[.int .i64 yv, .int .i64 x.p, .int .i64 x.ta, .int .i64 x.tp] 30)) _ _ at hX
    change Cr ((w3.alloc (.cells #[.int .i64 x.a, .int .i64 x.p, .int .i64 x.ta, .int .i64 x.tp] 30)).alloc (.cells #[.int .i64 yv, .int .i64 x.p, .int .i64 x.ta, .int .i64 x.tp] 30)) _ _ at hY
    clear CA B
    generalize (w3.alloc (.cells #[.int .i64 x.a, .int .i64 x.p, .int .i64 x.ta, .int .i64 x.tp] 30)).alloc (.cells #[.int .i64 yv, .int .i64 x.p, .int .i64 x.ta, .int .i64 x.tp] 30) = w5 at *
    generalize w3.heap.size + 1 = Y at *
    generalize w3.heap.size = X at *
    refine (WS.out _).mono ?_
    rintro e' w6 ⟨rfl, rfl⟩
    clear HYV hm
    go_wp2_with fail
    refine wp_region_held_drew (S := fun w' => Cr w' A [.int .i64 r.e, .int .u64 r.p.a, .int .u64 r.p.b, .int .u64 r.c.a, .int .u64 r.c.b, .int .u64 r.n.a, .int .u64 r.n.b] ∧ Cr w' X [.int .i64 x.a, .int .i64 x.p, .int .i64 x.ta, .int .i64 x.tp] ∧ Cr w' Y [.int .i64 yv, .int .i64 x.p, .int .i64 x.ta, .int .i64 x.tp] ∧ Below W.heap.size W w') (by kernel_rfl) ?_ (fun hHeld => ?_)
    · exact ⟨hA, hX, hY, hB.drew⟩
    refine tk 0 (v := ?_) rfl (by kernel_rfl) (by kernel_rfl) (by kernel_rfl) (fun _ _ _ h => h) rfl ?_ (by assumption) ?_; rotate_left; (focus (intro w hSw; (try dsimp only at hSw); obtain ⟨hA, hX, hY, hB⟩ := hSw; have zA0 := hA.2 0 _ rfl; have zA1 := hA.2 1 _ rfl; have zA2 := hA.2 2 _ rfl; have zA3 := hA.2 3 _ rfl; have zA4 := hA.2 4 _ rfl; have zA5 := hA.2 5 _ rfl; have zA6 := hA.2 6 _ rfl; have zX0 := hX.2 0 _ rfl; have zX1 := hX.2 1 _ rfl; have zX2 := hX.2 2 _ rfl; have zX3 := hX.2 3 _ rfl; have zY0 := hY.2 0 _ rfl; have zY1 := hY.2 1 _ rfl; have zY2 := hY.2 2 _ rfl; have zY3 := hY.2 3 _ rfl; go_simp; (try with_reducible rfl))); (try simp only [Act.put, List.setIfInBounds_toArray, List.set_cons_zero, List.set_cons_succ])
    refine tk 1 (v := ?_) rfl (by kernel_rfl) (by kernel_rfl) (by kernel_rfl) (fun _ _ _ h => h) rfl ?_ (by assumption) ?_; rotate_left; (focus (intro w hSw; (try dsimp only at hSw); obtain ⟨hA, hX, hY, hB⟩ := hSw; have zA0 := hA.2 0 _ rfl; have zA1 := hA.2 1 _ rfl; have zA2 := hA.2 2 _ rfl; have zA3 := hA.2 3 _ rfl; have zA4 := hA.2 4 _ rfl; have zA5 := hA.2 5 _ rfl; have zA6 := hA.2 6 _ rfl; have zX0 := hX.2 0 _ rfl; have zX1 := hX.2 1 _ rfl; have zX2 := hX.2 2 _ rfl; have zX3 := hX.2 3 _ rfl; have zY0 := hY.2 0 _ rfl; have zY1 := hY.2 1 _ rfl; have zY2 := hY.2 2 _ rfl; have zY3 := hY.2 3 _ rfl; go_simp; (try with_reducible rfl))); (try simp only [Act.put, List.setIfInBounds_toArray, List.set_cons_zero, List.set_cons_succ])
    refine tk 2 (v := ?_) rfl (by kernel_rfl) (by kernel_rfl) (by kernel_rfl) (fun _ _ _ h => h) rfl ?_ (by assumption) ?_; rotate_left; (focus (intro w hSw; (try dsimp only at hSw); obtain ⟨hA, hX, hY, hB⟩ := hSw; have zA0 := hA.2 0 _ rfl; have zA1 := hA.2 1 _ rfl; have zA2 := hA.2 2 _ rfl; have zA3 := hA.2 3 _ rfl; have zA4 := hA.2 4 _ rfl; have zA5 := hA.2 5 _ rfl; have zA6 := hA.2 6 _ rfl; have zX0 := hX.2 0 _ rfl; have zX1 := hX.2 1 _ rfl; have zX2 := hX.2 2 _ rfl; have zX3 := hX.2 3 _ rfl; have zY0 := hY.2 0 _ rfl; have zY1 := hY.2 1 _ rfl; have zY2 := hY.2 2 _ rfl; have zY3 := hY.2 3 _ rfl; go_simp; (try with_reducible rfl))); (try simp only [Act.put, List.setIfInBounds_toArray, List.set_cons_zero, List.set_cons_succ])
    refine tk 4 (v := ?_) rfl (by kernel_rfl) (by kernel_rfl) (by kernel_rfl) (fun _ _ _ h => h) rfl ?_ (by assumption) ?_; rotate_left; (focus (intro w hSw; (try dsimp only at hSw); obtain ⟨hA, hX, hY, hB⟩ := hSw; have zA0 := hA.2 0 _ rfl; have zA1 := hA.2 1 _ rfl; have zA2 := hA.2 2 _ rfl; have zA3 := hA.2 3 _ rfl; have zA4 := hA.2 4 _ rfl; have zA5 := hA.2 5 _ rfl; have zA6 := hA.2 6 _ rfl; have zX0 := hX.2 0 _ rfl; have zX1 := hX.2 1 _ rfl; have zX2 := hX.2 2 _ rfl; have zX3 := hX.2 3 _ rfl; have zY0 := hY.2 0 _ rfl; have zY1 := hY.2 1 _ rfl; have zY2 := hY.2 2 _ rfl; have zY3 := hY.2 3 _ rfl; go_simp; (try with_reducible rfl))); (try simp only [Act.put, List.setIfInBounds_toArray, List.set_cons_zero, List.set_cons_succ])
    refine tk 5 (v := ?_) rfl (by kernel_rfl) (by kernel_rfl) (by kernel_rfl) (fun _ _ _ h => h) rfl ?_ (by assumption) ?_; rotate_left; (focus (intro w hSw; (try dsimp only at hSw); obtain ⟨hA, hX, hY, hB⟩ := hSw; have zA0 := hA.2 0 _ rfl; have zA1 := hA.2 1 _ rfl; have zA2 := hA.2 2 _ rfl; have zA3 := hA.2 3 _ rfl; have zA4 := hA.2 4 _ rfl; have zA5 := hA.2 5 _ rfl; have zA6 := hA.2 6 _ rfl; have zX0 := hX.2 0 _ rfl; have zX1 := hX.2 1 _ rfl; have zX2 := hX.2 2 _ rfl; have zX3 := hX.2 3 _ rfl; have zY0 := hY.2 0 _ rfl; have zY1 := hY.2 1 _ rfl; have zY2 := hY.2 2 _ rfl; have zY3 := hY.2 3 _ rfl; go_simp; (try with_reducible rfl))); (try simp only [Act.put, List.setIfInBounds_toArray, List.set_cons_zero, List.set_cons_succ])
    refine tk 6 (v := ?_) rfl (by kernel_rfl) (by kernel_rfl) (by kernel_rfl) (fun _ _ _ h => h) rfl ?_ (by assumption) ?_; rotate_left; (focus (intro w hSw; (try dsimp only at hSw); obtain ⟨hA, hX, hY, hB⟩ := hSw; have zA0 := hA.2 0 _ rfl; have zA1 := hA.2 1 _ rfl; have zA2 := hA.2 2 _ rfl; have zA3 := hA.2 3 _ rfl; have zA4 := hA.2 4 _ rfl; have zA5 := hA.2 5 _ rfl; have zA6 := hA.2 6 _ rfl; have zX0 := hX.2 0 _ rfl; have zX1 := hX.2 1 _ rfl; have zX2 := hX.2 2 _ rfl; have zX3 := hX.2 3 _ rfl; have zY0 := hY.2 0 _ rfl; have zY1 := hY.2 1 _ rfl; have zY2 := hY.2 2 _ rfl; have zY3 := hY.2 3 _ rfl; go_simp; (try with_reducible rfl))); (try simp only [Act.put, List.setIfInBounds_toArray, List.set_cons_zero, List.set_cons_succ])
    refine only 3 rfl (by kernel_rfl) rfl (fun K hK => ?_)
    go_simp
    refine (MK.out _).mono ?_
    rintro e' wa ⟨rfl, ha⟩
    try go_wp2_with fail
    refine hK.out _ _ ?_ (fun hHeld2 => ?_)
    · (obtain ⟨hA, hX, hY, hB⟩ := hHeld; exact ⟨hA.below ha, hX.below ha, hY.below ha, then_ hB ha⟩)
    clear hK hHeld
    try simp only [Act.put, List.setIfInBounds_toArray, List.set_cons_zero, List.set_cons_succ]
    have hHeld := hHeld2
    clear hHeld2
    refine only 7 rfl (by kernel_rfl) rfl (fun K hK => ?_)
    go_simp
    refine (MK2.out _).mono ?_
    rintro e' wb_ ⟨rfl, hb_⟩
    try go_wp2_with fail
    refine hK.out _ _ ?_ (fun hHeld2 => ?_)
    · (obtain ⟨hA, hX, hY, hB⟩ := hHeld; exact ⟨hA.below hb_, hX.below hb_, hY.below hb_, then_ hB hb_⟩)
    clear hK hHeld
    try simp only [Act.put, List.setIfInBounds_toArray, List.set_cons_zero, List.set_cons_succ]
    have hHeld := hHeld2
    clear hHeld2
    refine tk 8 (v := ?_) rfl (by kernel_rfl) (by kernel_rfl) (by kernel_rfl) (fun _ _ _ h => h) rfl ?_ (by assumption) ?_; rotate_left; (focus (intro w hSw; (try dsimp only at hSw); obtain ⟨hA, hX, hY, hB⟩ := hSw; have zA0 := hA.2 0 _ rfl; have zA1 := hA.2 1 _ rfl; have zA2 := hA.2 2 _ rfl; have zA3 := hA.2 3 _ rfl; have zA4 := hA.2 4 _ rfl; have zA5 := hA.2 5 _ rfl; have zA6 := hA.2 6 _ rfl; have zX0 := hX.2 0 _ rfl; have zX1 := hX.2 1 _ rfl; have zX2 := hX.2 2 _ rfl; have zX3 := hX.2 3 _ rfl; have zY0 := hY.2 0 _ rfl; have zY1 := hY.2 1 _ rfl; have zY2 := hY.2 2 _ rfl; have zY3 := hY.2 3 _ rfl; go_simp; (try with_reducible rfl))); (try simp only [Act.put, List.setIfInBounds_toArray, List.set_cons_zero, List.set_cons_succ])
    refine tk 9 (v := ?_) rfl (by kernel_rfl) (by kernel_rfl) (by kernel_rfl) (fun _ _ _ h => h) rfl ?_ (by assumption) ?_; rotate_left; (focus (intro w hSw; (try dsimp only at hSw); obtain ⟨hA, hX, hY, hB⟩ := hSw; have zA0 := hA.2 0 _ rfl; have zA1 := hA.2 1 _ rfl; have zA2 := hA.2 2 _ rfl; have zA3 := hA.2 3 _ rfl; have zA4 := hA.2 4 _ rfl; have zA5 := hA.2 5 _ rfl; have zA6 := hA.2 6 _ rfl; have zX0 := hX.2 0 _ rfl; have zX1 := hX.2 1 _ rfl; have zX2 := hX.2 2 _ rfl; have zX3 := hX.2 3 _ rfl; have zY0 := hY.2 0 _ rfl; have zY1 := hY.2 1 _ rfl; have zY2 := hY.2 2 _ rfl; have zY3 := hY.2 3 _ rfl; go_simp; (try with_reducible rfl))); (try simp only [Act.put, List.setIfInBounds_toArray, List.set_cons_zero, List.set_cons_succ])
    refine wpAnyH_done (by kernel_rfl) ?_ _
    obtain ⟨hA, hX, hY, hB⟩ := hHeld
    have key : Hid ((yv = x.a ∧ o = some s) ∨ (yv ≠ x.a ∧ o = none) ∨ (yv ≠ x.a ∧ ∃ t, o = some t)) := hid (by
      by_cases h : yv = x.a
      · exact .inl ⟨h, hsame.out h⟩
      · cases o with
        | none => exact .inr (.inl ⟨h, rfl⟩)
        | some t => exact .inr (.inr ⟨h, t, rfl⟩))
    clear hsame
    rcases key.out with ⟨h1, rfl⟩ | ⟨h1, rfl⟩ | ⟨h1, t, rfl⟩
    · have t1 : (x.a == yv) = true := by rw [h1]; simp
      clear h1 key
      simp only [Option.getD_some, Option.isSome_some, Option.getD_none, Option.isSome_none] at RD RR
      have zA0 := hA.2 0 _ rfl
      have zA1 := hA.2 1 _ rfl
      have zA2 := hA.2 2 _ rfl
      have zA3 := hA.2 3 _ rfl
      have zA4 := hA.2 4 _ rfl
      have zA5 := hA.2 5 _ rfl
      have zA6 := hA.2 6 _ rfl
      have zX0 := hX.2 0 _ rfl
      have zX1 := hX.2 1 _ rfl
      have zX2 := hX.2 2 _ rfl
      have zX3 := hX.2 3 _ rfl
      have zY0 := hY.2 0 _ rfl
      have zY1 := hY.2 1 _ rfl
      have zY2 := hY.2 2 _ rfl
      have zY3 := hY.2 3 _ rfl
      go_wp2_with fail
      refine (RD.out _).mono ?_
      rintro e' wr ⟨rfl, hb⟩
      replace hA := hA.below hb
      replace hX := hX.below hb
      replace hY := hY.below hb
      replace hB := then_ hB hb
      clear hb zA0 zA1 zA2 zA3 zA4 zA5 zA6 zX0 zX1 zX2 zX3 zY0 zY1 zY2 zY3
      have zA0 := hA.2 0 _ rfl
      have zA1 := hA.2 1 _ rfl
      have zA2 := hA.2 2 _ rfl
      have zA3 := hA.2 3 _ rfl
      have zA4 := hA.2 4 _ rfl
      have zA5 := hA.2 5 _ rfl
      have zA6 := hA.2 6 _ rfl
      have zX0 := hX.2 0 _ rfl
      have zX1 := hX.2 1 _ rfl
      have zX2 := hX.2 2 _ rfl
      have zX3 := hX.2 3 _ rfl
      have zY0 := hY.2 0 _ rfl
      have zY1 := hY.2 1 _ rfl
      have zY2 := hY.2 2 _ rfl
      have zY3 := hY.2 3 _ rfl
      go_wp2_with fail
      refine (RR.out _).mono ?_
      rintro e' wq ⟨rfl, hb⟩
      replace hA := hA.below hb
      replace hX := hX.below hb
      replace hY := hY.below hb
      replace hB := then_ hB hb
      clear hb zA0 zA1 zA2 zA3 zA4 zA5 zA6 zX0 zX1 zX2 zX3 zY0 zY1 zY2 zY3
      have zA0 := hA.2 0 _ rfl
      have zA1 := hA.2 1 _ rfl
      have zA2 := hA.2 2 _ rfl
      have zA3 := hA.2 3 _ rfl
      have zA4 := hA.2 4 _ rfl
      have zA5 := hA.2 5 _ rfl
      have zA6 := hA.2 6 _ rfl
      have zX0 := hX.2 0 _ rfl
      have zX1 := hX.2 1 _ rfl
      have zX2 := hX.2 2 _ rfl
      have zX3 := hX.2 3 _ rfl
      have zY0 := hY.2 0 _ rfl
      have zY1 := hY.2 1 _ rfl
      have zY2 := hY.2 2 _ rfl
      have zY3 := hY.2 3 _ rfl
      go_wp2_with fail
      refine (RM.out _).mono ?_
      rintro e' wm ⟨rfl, hb⟩
      replace hA := hA.below hb
      replace hX := hX.below hb
      replace hY := hY.below hb
      replace hB := then_ hB hb
      clear hb zA0 zA1 zA2 zA3 zA4 zA5 zA6 zX0 zX1 zX2 zX3 zY0 zY1 zY2 zY3
      have zA0 := hA.2 0 _ rfl
      have zA1 := hA.2 1 _ rfl
      have zA2 := hA.2 2 _ rfl
      have zA3 := hA.2 3 _ rfl
      have zA4 := hA.2 4 _ rfl
      have zA5 := hA.2 5 _ rfl
      have zA6 := hA.2 6 _ rfl
      have zX0 := hX.2 0 _ rfl
      have zX1 := hX.2 1 _ rfl
      have zX2 := hX.2 2 _ rfl
      have zX3 := hX.2 3 _ rfl
      have zY0 := hY.2 0 _ rfl
      have zY1 := hY.2 1 _ rfl
      have zY2 := hY.2 2 _ rfl
      have zY3 := hY.2 3 _ rfl
      go_wp2_with fail
      refine (RM2.out _).mono ?_
      rintro e' wn ⟨rfl, hb⟩
      replace hA := hA.below hb
      replace hX := hX.below hb
      replace hY := hY.below hb
      replace hB := then_ hB hb
      clear hb zA0 zA1 zA2 zA3 zA4 zA5 zA6 zX0 zX1 zX2 zX3 zY0 zY1 zY2 zY3
      have zA0 := hA.2 0 _ rfl
      have zA1 := hA.2 1 _ rfl
      have zA2 := hA.2 2 _ rfl
      have zA3 := hA.2 3 _ rfl
      have zA4 := hA.2 4 _ rfl
      have zA5 := hA.2 5 _ rfl
      have zA6 := hA.2 6 _ rfl
      have zX0 := hX.2 0 _ rfl
      have zX1 := hX.2 1 _ rfl
      have zX2 := hX.2 2 _ rfl
      have zX3 := hX.2 3 _ rfl
      have zY0 := hY.2 0 _ rfl
      have zY1 := hY.2 1 _ rfl
      have zY2 := hY.2 2 _ rfl
      have zY3 := hY.2 3 _ rfl
      go_wp2_with fail
      go_ret
      exact ⟨rfl, hB⟩
    · have t1 : (x.a == yv) = false := by simpa using (Ne.symm h1)
      clear h1 key
      simp only [Option.getD_some, Option.isSome_some, Option.getD_none, Option.isSome_none] at RD RR
      have zA0 := hA.2 0 _ rfl
      have zA1 := hA.2 1 _ rfl
      have zA2 := hA.2 2 _ rfl
      have zA3 := hA.2 3 _ rfl
      have zA4 := hA.2 4 _ rfl
      have zA5 := hA.2 5 _ rfl
      have zA6 := hA.2 6 _ rfl
      have zX0 := hX.2 0 _ rfl
      have zX1 := hX.2 1 _ rfl
      have zX2 := hX.2 2 _ rfl
      have zX3 := hX.2 3 _ rfl
      have zY0 := hY.2 0 _ rfl
      have zY1 := hY.2 1 _ rfl
      have zY2 := hY.2 2 _ rfl
      have zY3 := hY.2 3 _ rfl
      go_wp2_with fail
      refine (RD.out _).mono ?_
      rintro e' wr ⟨rfl, hb⟩
      replace hA := hA.below hb
      replace hX := hX.below hb
      replace hY := hY.below hb
      replace hB := then_ hB hb
      clear hb zA0 zA1 zA2 zA3 zA4 zA5 zA6 zX0 zX1 zX2 zX3 zY0 zY1 zY2 zY3
      have zA0 := hA.2 0 _ rfl
      have zA1 := hA.2 1 _ rfl
      have zA2 := hA.2 2 _ rfl
      have zA3 := hA.2 3 _ rfl
      have zA4 := hA.2 4 _ rfl
      have zA5 := hA.2 5 _ rfl
      have zA6 := hA.2 6 _ rfl
      have zX0 := hX.2 0 _ rfl
      have zX1 := hX.2 1 _ rfl
      have zX2 := hX.2 2 _ rfl
      have zX3 := hX.2 3 _ rfl
      have zY0 := hY.2 0 _ rfl
      have zY1 := hY.2 1 _ rfl
      have zY2 := hY.2 2 _ rfl
      have zY3 := hY.2 3 _ rfl
      go_wp2_with fail
      refine (RR.out _).mono ?_
      rintro e' wq ⟨rfl, hb⟩
      replace hA := hA.below hb
      replace hX := hX.below hb
      replace hY := hY.below hb
      replace hB := then_ hB hb
      clear hb zA0 zA1 zA2 zA3 zA4 zA5 zA6 zX0 zX1 zX2 zX3 zY0 zY1 zY2 zY3
      have zA0 := hA.2 0 _ rfl
      have zA1 := hA.2 1 _ rfl
      have zA2 := hA.2 2 _ rfl
      have zA3 := hA.2 3 _ rfl
      have zA4 := hA.2 4 _ rfl
      have zA5 := hA.2 5 _ rfl
      have zA6 := hA.2 6 _ rfl
      have zX0 := hX.2 0 _ rfl
      have zX1 := hX.2 1 _ rfl
      have zX2 := hX.2 2 _ rfl
      have zX3 := hX.2 3 _ rfl
      have zY0 := hY.2 0 _ rfl
      have zY1 := hY.2 1 _ rfl
      have zY2 := hY.2 2 _ rfl
      have zY3 := hY.2 3 _ rfl
      go_wp2_with fail
      refine (RM.out _).mono ?_
      rintro e' wm ⟨rfl, hb⟩
      replace hA := hA.below hb
      replace hX := hX.below hb
      replace hY := hY.below hb
      replace hB := then_ hB hb
      clear hb zA0 zA1 zA2 zA3 zA4 zA5 zA6 zX0 zX1 zX2 zX3 zY0 zY1 zY2 zY3
      have zA0 := hA.2 0 _ rfl
      have zA1 := hA.2 1 _ rfl
      have zA2 := hA.2 2 _ rfl
      have zA3 := hA.2 3 _ rfl
      have zA4 := hA.2 4 _ rfl
      have zA5 := hA.2 5 _ rfl
      have zA6 := hA.2 6 _ rfl
      have zX0 := hX.2 0 _ rfl
      have zX1 := hX.2 1 _ rfl
      have zX2 := hX.2 2 _ rfl
      have zX3 := hX.2 3 _ rfl
      have zY0 := hY.2 0 _ rfl
      have zY1 := hY.2 1 _ rfl
      have zY2 := hY.2 2 _ rfl
      have zY3 := hY.2 3 _ rfl
      go_wp2_with fail
      refine (RM2.out _).mono ?_
      rintro e' wn ⟨rfl, hb⟩
      replace hA := hA.below hb
      replace hX := hX.below hb
      replace hY := hY.below hb
      replace hB := then_ hB hb
      clear hb zA0 zA1 zA2 zA3 zA4 zA5 zA6 zX0 zX1 zX2 zX3 zY0 zY1 zY2 zY3
      have zA0 := hA.2 0 _ rfl
      have zA1 := hA.2 1 _ rfl
      have zA2 := hA.2 2 _ rfl
      have zA3 := hA.2 3 _ rfl
      have zA4 := hA.2 4 _ rfl
      have zA5 := hA.2 5 _ rfl
      have zA6 := hA.2 6 _ rfl
      have zX0 := hX.2 0 _ rfl
      have zX1 := hX.2 1 _ rfl
      have zX2 := hX.2 2 _ rfl
      have zX3 := hX.2 3 _ rfl
      have zY0 := hY.2 0 _ rfl
      have zY1 := hY.2 1 _ rfl
      have zY2 := hY.2 2 _ rfl
      have zY3 := hY.2 3 _ rfl
      go_wp2_with fail
      go_ret
      exact ⟨rfl, hB⟩
    · have t1 : (x.a == yv) = false := by simpa using (Ne.symm h1)
      clear h1 key
      simp only [Option.getD_some, Option.isSome_some, Option.getD_none, Option.isSome_none] at RD RR
      have zA0 := hA.2 0 _ rfl
      have zA1 := hA.2 1 _ rfl
      have zA2 := hA.2 2 _ rfl
      have zA3 := hA.2 3 _ rfl
      have zA4 := hA.2 4 _ rfl
      have zA5 := hA.2 5 _ rfl
      have zA6 := hA.2 6 _ rfl
      have zX0 := hX.2 0 _ rfl
      have zX1 := hX.2 1 _ rfl
      have zX2 := hX.2 2 _ rfl
      have zX3 := hX.2 3 _ rfl
      have zY0 := hY.2 0 _ rfl
      have zY1 := hY.2 1 _ rfl
      have zY2 := hY.2 2 _ rfl
      have zY3 := hY.2 3 _ rfl
      go_wp2_with fail
      refine (RD.out _).mono ?_
      rintro e' wr ⟨rfl, hb⟩
      replace hA := hA.below hb
      replace hX := hX.below hb
      replace hY := hY.below hb
      replace hB := then_ hB hb
      clear hb zA0 zA1 zA2 zA3 zA4 zA5 zA6 zX0 zX1 zX2 zX3 zY0 zY1 zY2 zY3
      have zA0 := hA.2 0 _ rfl
      have zA1 := hA.2 1 _ rfl
      have zA2 := hA.2 2 _ rfl
      have zA3 := hA.2 3 _ rfl
      have zA4 := hA.2 4 _ rfl
      have zA5 := hA.2 5 _ rfl
      have zA6 := hA.2 6 _ rfl
      have zX0 := hX.2 0 _ rfl
      have zX1 := hX.2 1 _ rfl
      have zX2 := hX.2 2 _ rfl
      have zX3 := hX.2 3 _ rfl
      have zY0 := hY.2 0 _ rfl
      have zY1 := hY.2 1 _ rfl
      have zY2 := hY.2 2 _ rfl
      have zY3 := hY.2 3 _ rfl
      go_wp2_with fail
      refine (RR.out _).mono ?_
      rintro e' wq ⟨rfl, hb⟩
      replace hA := hA.below hb
      replace hX := hX.below hb
      replace hY := hY.below hb
      replace hB := then_ hB hb
      clear hb zA0 zA1 zA2 zA3 zA4 zA5 zA6 zX0 zX1 zX2 zX3 zY0 zY1 zY2 zY3
      have zA0 := hA.2 0 _ rfl
      have zA1 := hA.2 1 _ rfl
      have zA2 := hA.2 2 _ rfl
      have zA3 := hA.2 3 _ rfl
      have zA4 := hA.2 4 _ rfl
      have zA5 := hA.2 5 _ rfl
      have zA6 := hA.2 6 _ rfl
      have zX0 := hX.2 0 _ rfl
      have zX1 := hX.2 1 _ rfl
      have zX2 := hX.2 2 _ rfl
      have zX3 := hX.2 3 _ rfl
      have zY0 := hY.2 0 _ rfl
      have zY1 := hY.2 1 _ rfl
      have zY2 := hY.2 2 _ rfl
      have zY3 := hY.2 3 _ rfl
      go_wp2_with fail
      refine (RM.out _).mono ?_
      rintro e' wm ⟨rfl, hb⟩
      replace hA := hA.below hb
      replace hX := hX.below hb
      replace hY := hY.below hb
      replace hB := then_ hB hb
      clear hb zA0 zA1 zA2 zA3 zA4 zA5 zA6 zX0 zX1 zX2 zX3 zY0 zY1 zY2 zY3
      have zA0 := hA.2 0 _ rfl
      have zA1 := hA.2 1 _ rfl
      have zA2 := hA.2 2 _ rfl
      have zA3 := hA.2 3 _ rfl
      have zA4 := hA.2 4 _ rfl
      have zA5 := hA.2 5 _ rfl
      have zA6 := hA.2 6 _ rfl
      have zX0 := hX.2 0 _ rfl
      have zX1 := hX.2 1 _ rfl
      have zX2 := hX.2 2 _ rfl
      have zX3 := hX.2 3 _ rfl
      have zY0 := hY.2 0 _ rfl
      have zY1 := hY.2 1 _ rfl
      have zY2 := hY.2 2 _ rfl
      have zY3 := hY.2 3 _ rfl
      go_wp2_with fail
      refine (RM2.out _).mono ?_
      rintro e' wn ⟨rfl, hb⟩
      replace hA := hA.below hb
      replace hX := hX.below hb
      replace hY := hY.below hb
      replace hB := then_ hB hb
      clear hb zA0 zA1 zA2 zA3 zA4 zA5 zA6 zX0 zX1 zX2 zX3 zY0 zY1 zY2 zY3
      have zA0 := hA.2 0 _ rfl
      have zA1 := hA.2 1 _ rfl
      have zA2 := hA.2 2 _ rfl
      have zA3 := hA.2 3 _ rfl
      have zA4 := hA.2 4 _ rfl
      have zA5 := hA.2 5 _ rfl
      have zA6 := hA.2 6 _ rfl
      have zX0 := hX.2 0 _ rfl
      have zX1 := hX.2 1 _ rfl
      have zX2 := hX.2 2 _ rfl
      have zX3 := hX.2 3 _ rfl
      have zY0 := hY.2 0 _ rfl
      have zY1 := hY.2 1 _ rfl
      have zY2 := hY.2 2 _ rfl
      have zY3 := hY.2 3 _ rfl
      go_wp2_with fail
      go_ret
      exact ⟨rfl, hB⟩
  · obtain ⟨yv, hyv⟩ : ∃ yv, yv = (x.p + dd) % 65536 := ⟨_, rfl⟩
    have yv1 : 0 ≤ yv := by omega
    have yv2 : yv < 65536 := by omega
    obtain ⟨y, hy⟩ : ∃ y : Fl, y = ⟨x.a, yv, x.ta, x.tp⟩ := ⟨_, rfl⟩
    have hYI : y.I := by
      rw [hy]
      obtain ⟨i1, i2, i3, i4⟩ := hI
      refine ⟨?_, ?_, ?_, ?_⟩ <;> first | exact i1 | exact i2 | exact i3 | exact i4 | (exact ⟨by show _ ≤ yv; omega, by show yv ≤ _; omega⟩)
    obtain ⟨c, hc⟩ : ∃ c, c = cok (tB true) r.c (kdB true) y s (r.e % 4) := ⟨_, rfl⟩
    obtain ⟨d, hd⟩ : ∃ d, d = cok (tB false) r.c (kdB false) y s (r.e % 4) := ⟨_, rfl⟩
    have MK := fun w => re_i64 (make_b true r y s hYI wb w) hc.symm
    have MK2 := fun w => re_i64 (make_b false r y s hYI wb w) hd.symm
    have RM := fun w => re_i64 (rmake_b true r y s hYI wb w) hc.symm
    have RM2 := fun w => re_i64 (rmake_b false r y s hYI wb w) hd.symm
    have RD := fun w => read_b true r x c hI hE.1 w
    have RR := fun w => rread_b true r x c hI hE.1 w
    have hsame : yv = x.p → readC (tB true) r (kdB true) x c = some s := fun h => by
      have hyx : y = x := by rw [hy, h]
      rw [hc, hyx]
      exact read_cok (tB true) r r.c (kdB true) x s (r.e % 4) (tB_T true) wb (by omega) (keyOf_now r)
    generalize readC (tB true) r (kdB true) x c = o at *
    replace hsame := hid hsame
    rw [hy] at MK MK2 RM RM2
    clear hc hd hy hYI y
    unfold rgV flV rdO kdB at *
    simp only [if_true, Bool.false_eq_true, if_false] at *
    replace MK := hid MK
    replace MK2 := hid MK2
    replace RM := hid RM
    replace RM2 := hid RM2
    replace RD := hid RD
    replace RR := hid RR
    have HYV := hid hyv
    clear hyv
    go_enter Try.func3, Try.ntmps3
    go_wp2_with fail
    refine (known_any _).mono ?_
    rintro e' w ⟨rfl, hb1⟩
    have B := hb1
    clear hb1
    go_wp2_with fail
    refine (LR.out _).mono ?_
    rintro e' w1 ⟨rfl, hb⟩
    replace B := then_ B hb
    clear hb
    go_wp2_with fail
    have CA := Ce.made (w := w1) (l := [.int .i64 r.e, .int .u64 r.p.a, .int .u64 r.p.b, .int .u64 r.c.a, .int .u64 r.c.b, .int .u64 r.n.a, .int .u64 r.n.b]) (T := 27) (g := w1.heap.size) rfl
    replace B := B.alloc B.size (.cells #[.int .i64 r.e, .int .u64 r.p.a, .int .u64 r.p.b, .int .u64 r.c.a, .int .u64 r.c.b, .int .u64 r.n.a, .int .u64 r.n.b] 27)
    generalize w1.alloc (.cells #[.int .i64 r.e, .int .u64 r.p.a, .int .u64 r.p.b, .int .u64 r.c.a, .int .u64 r.c.b, .int .u64 r.n.a, .int .u64 r.n.b] 27) = w2 at *
    generalize w1.heap.size = A at *
    refine (LF.out _).mono ?_
    rintro e' w3 ⟨rfl, hb⟩
    replace B := then_ B hb
    replace CA := CA.below hb
    clear hb
    go_wp2_with fail
    refine (WS4.out _).mono ?_
    rintro e' w4 ⟨rfl, rfl⟩
    go_wp2_with fail
    rw [← HYV.out]
    have hA := ((CA.alloc (.cells #[.int .i64 x.a, .int .i64 x.p, .int .i64 x.ta, .int .i64 x.tp] 30)).alloc (.cells #[.int .i64 x.a, .int .i64 yv, .int .i64 x.ta, .int .i64 x.tp] 30)).cr
    have hX := ((Ce.made (w := w3) (l := [.int .i64 x.a, .int .i64 x.p, .int .i64 x.ta, .int .i64 x.tp]) (T := 30) (g := w3.heap.size) rfl).alloc (.cells #[.int .i64 x.a, .int .i64 yv, .int .i64 x.ta, .int .i64 x.tp] 30)).cr
    have hY := (Ce.made (w := w3.alloc (.cells #[.int .i64 x.a, .int .i64 x.p, .int .i64 x.ta, .int .i64 x.tp] 30)) (l := [.int .i64 x.a, .int .i64 yv, .int .i64 x.ta, .int .i64 x.tp]) (T := 30) (g := w3.heap.size + 1) (by simp)).cr
    have hB := (B.alloc B.size (.cells #[.int .i64 x.a, .int .i64 x.p, .int .i64 x.ta, .int .i64 x.tp] 30)).alloc (Below.size (B.alloc B.size (.cells #[.int .i64 x.a, .int .i64 x.p, .int .i64 x.ta, .int .i64 x.tp] 30))) (.cells #[.int .i64 x.a, .int .i64 yv, .int .i64 x.ta, .int .i64 x.tp] 30)
    change Cr ((w3.alloc (.cells #[.int .i64 x.a, .int .i64 x.p, .int .i64 x.ta, .int .i64 x.tp] 30)).alloc (.cells #[.int .i64 x.a, .int .i64 yv, .int .i64 x.ta, .int .i64 x.tp] 30)) _ _ at hX
    change Cr ((w3.alloc (.cells #[.int .i64 x.a, .int .i64 x.p, .int .i64 x.ta, .int .i64 x.tp] 30)).alloc (.cells #[.int .i64 x.a, .int .i64 yv, .int .i64 x.ta, .int .i64 x.tp] 30)) _ _ at hY
    clear CA B
    generalize (w3.alloc (.cells #[.int .i64 x.a, .int .i64 x.p, .int .i64 x.ta, .int .i64 x.tp] 30)).alloc (.cells #[.int .i64 x.a, .int .i64 yv, .int .i64 x.ta, .int .i64 x.tp] 30) = w5 at *
    generalize w3.heap.size + 1 = Y at *
    generalize w3.heap.size = X at *
    refine (WS.out _).mono ?_
    rintro e' w6 ⟨rfl, rfl⟩
    clear HYV hm
    go_wp2_with fail
    refine wp_region_held_drew (S := fun w' => Cr w' A [.int .i64 r.e, .int .u64 r.p.a, .int .u64 r.p.b, .int .u64 r.c.a, .int .u64 r.c.b, .int .u64 r.n.a, .int .u64 r.n.b] ∧ Cr w' X [.int .i64 x.a, .int .i64 x.p, .int .i64 x.ta, .int .i64 x.tp] ∧ Cr w' Y [.int .i64 x.a, .int .i64 yv, .int .i64 x.ta, .int .i64 x.tp] ∧ Below W.heap.size W w') (by kernel_rfl) ?_ (fun hHeld => ?_)
    · exact ⟨hA, hX, hY, hB.drew⟩
    refine tk 0 (v := ?_) rfl (by kernel_rfl) (by kernel_rfl) (by kernel_rfl) (fun _ _ _ h => h) rfl ?_ (by assumption) ?_; rotate_left; (focus (intro w hSw; (try dsimp only at hSw); obtain ⟨hA, hX, hY, hB⟩ := hSw; have zA0 := hA.2 0 _ rfl; have zA1 := hA.2 1 _ rfl; have zA2 := hA.2 2 _ rfl; have zA3 := hA.2 3 _ rfl; have zA4 := hA.2 4 _ rfl; have zA5 := hA.2 5 _ rfl; have zA6 := hA.2 6 _ rfl; have zX0 := hX.2 0 _ rfl; have zX1 := hX.2 1 _ rfl; have zX2 := hX.2 2 _ rfl; have zX3 := hX.2 3 _ rfl; have zY0 := hY.2 0 _ rfl; have zY1 := hY.2 1 _ rfl; have zY2 := hY.2 2 _ rfl; have zY3 := hY.2 3 _ rfl; go_simp; (try with_reducible rfl))); (try simp only [Act.put, List.setIfInBounds_toArray, List.set_cons_zero, List.set_cons_succ])
    refine tk 1 (v := ?_) rfl (by kernel_rfl) (by kernel_rfl) (by kernel_rfl) (fun _ _ _ h => h) rfl ?_ (by assumption) ?_; rotate_left; (focus (intro w hSw; (try dsimp only at hSw); obtain ⟨hA, hX, hY, hB⟩ := hSw; have zA0 := hA.2 0 _ rfl; have zA1 := hA.2 1 _ rfl; have zA2 := hA.2 2 _ rfl; have zA3 := hA.2 3 _ rfl; have zA4 := hA.2 4 _ rfl; have zA5 := hA.2 5 _ rfl; have zA6 := hA.2 6 _ rfl; have zX0 := hX.2 0 _ rfl; have zX1 := hX.2 1 _ rfl; have zX2 := hX.2 2 _ rfl; have zX3 := hX.2 3 _ rfl; have zY0 := hY.2 0 _ rfl; have zY1 := hY.2 1 _ rfl; have zY2 := hY.2 2 _ rfl; have zY3 := hY.2 3 _ rfl; go_simp; (try with_reducible rfl))); (try simp only [Act.put, List.setIfInBounds_toArray, List.set_cons_zero, List.set_cons_succ])
    refine tk 2 (v := ?_) rfl (by kernel_rfl) (by kernel_rfl) (by kernel_rfl) (fun _ _ _ h => h) rfl ?_ (by assumption) ?_; rotate_left; (focus (intro w hSw; (try dsimp only at hSw); obtain ⟨hA, hX, hY, hB⟩ := hSw; have zA0 := hA.2 0 _ rfl; have zA1 := hA.2 1 _ rfl; have zA2 := hA.2 2 _ rfl; have zA3 := hA.2 3 _ rfl; have zA4 := hA.2 4 _ rfl; have zA5 := hA.2 5 _ rfl; have zA6 := hA.2 6 _ rfl; have zX0 := hX.2 0 _ rfl; have zX1 := hX.2 1 _ rfl; have zX2 := hX.2 2 _ rfl; have zX3 := hX.2 3 _ rfl; have zY0 := hY.2 0 _ rfl; have zY1 := hY.2 1 _ rfl; have zY2 := hY.2 2 _ rfl; have zY3 := hY.2 3 _ rfl; go_simp; (try with_reducible rfl))); (try simp only [Act.put, List.setIfInBounds_toArray, List.set_cons_zero, List.set_cons_succ])
    refine tk 4 (v := ?_) rfl (by kernel_rfl) (by kernel_rfl) (by kernel_rfl) (fun _ _ _ h => h) rfl ?_ (by assumption) ?_; rotate_left; (focus (intro w hSw; (try dsimp only at hSw); obtain ⟨hA, hX, hY, hB⟩ := hSw; have zA0 := hA.2 0 _ rfl; have zA1 := hA.2 1 _ rfl; have zA2 := hA.2 2 _ rfl; have zA3 := hA.2 3 _ rfl; have zA4 := hA.2 4 _ rfl; have zA5 := hA.2 5 _ rfl; have zA6 := hA.2 6 _ rfl; have zX0 := hX.2 0 _ rfl; have zX1 := hX.2 1 _ rfl; have zX2 := hX.2 2 _ rfl; have zX3 := hX.2 3 _ rfl; have zY0 := hY.2 0 _ rfl; have zY1 := hY.2 1 _ rfl; have zY2 := hY.2 2 _ rfl; have zY3 := hY.2 3 _ rfl; go_simp; (try with_reducible rfl))); (try simp only [Act.put, List.setIfInBounds_toArray, List.set_cons_zero, List.set_cons_succ])
    refine tk 5 (v := ?_) rfl (by kernel_rfl) (by kernel_rfl) (by kernel_rfl) (fun _ _ _ h => h) rfl ?_ (by assumption) ?_; rotate_left; (focus (intro w hSw; (try dsimp only at hSw); obtain ⟨hA, hX, hY, hB⟩ := hSw; have zA0 := hA.2 0 _ rfl; have zA1 := hA.2 1 _ rfl; have zA2 := hA.2 2 _ rfl; have zA3 := hA.2 3 _ rfl; have zA4 := hA.2 4 _ rfl; have zA5 := hA.2 5 _ rfl; have zA6 := hA.2 6 _ rfl; have zX0 := hX.2 0 _ rfl; have zX1 := hX.2 1 _ rfl; have zX2 := hX.2 2 _ rfl; have zX3 := hX.2 3 _ rfl; have zY0 := hY.2 0 _ rfl; have zY1 := hY.2 1 _ rfl; have zY2 := hY.2 2 _ rfl; have zY3 := hY.2 3 _ rfl; go_simp; (try with_reducible rfl))); (try simp only [Act.put, List.setIfInBounds_toArray, List.set_cons_zero, List.set_cons_succ])
    refine tk 6 (v := ?_) rfl (by kernel_rfl) (by kernel_rfl) (by kernel_rfl) (fun _ _ _ h => h) rfl ?_ (by assumption) ?_; rotate_left; (focus (intro w hSw; (try dsimp only at hSw); obtain ⟨hA, hX, hY, hB⟩ := hSw; have zA0 := hA.2 0 _ rfl; have zA1 := hA.2 1 _ rfl; have zA2 := hA.2 2 _ rfl; have zA3 := hA.2 3 _ rfl; have zA4 := hA.2 4 _ rfl; have zA5 := hA.2 5 _ rfl; have zA6 := hA.2 6 _ rfl; have zX0 := hX.2 0 _ rfl; have zX1 := hX.2 1 _ rfl; have zX2 := hX.2 2 _ rfl; have zX3 := hX.2 3 _ rfl; have zY0 := hY.2 0 _ rfl; have zY1 := hY.2 1 _ rfl; have zY2 := hY.2 2 _ rfl; have zY3 := hY.2 3 _ rfl; go_simp; (try with_reducible rfl))); (try simp only [Act.put, List.setIfInBounds_toArray, List.set_cons_zero, List.set_cons_succ])
    refine only 3 rfl (by kernel_rfl) rfl (fun K hK => ?_)
    go_simp
    refine (MK.out _).mono ?_
    rintro e' wa ⟨rfl, ha⟩
    try go_wp2_with fail
    refine hK.out _ _ ?_ (fun hHeld2 => ?_)
    · (obtain ⟨hA, hX, hY, hB⟩ := hHeld; exact ⟨hA.below ha, hX.below ha, hY.below ha, then_ hB ha⟩)
    clear hK hHeld
    try simp only [Act.put, List.setIfInBounds_toArray, List.set_cons_zero, List.set_cons_succ]
    have hHeld := hHeld2
    clear hHeld2
    refine only 7 rfl (by kernel_rfl) rfl (fun K hK => ?_)
    go_simp
    refine (MK2.out _).mono ?_
    rintro e' wb_ ⟨rfl, hb_⟩
    try go_wp2_with fail
    refine hK.out _ _ ?_ (fun hHeld2 => ?_)
    · (obtain ⟨hA, hX, hY, hB⟩ := hHeld; exact ⟨hA.below hb_, hX.below hb_, hY.below hb_, then_ hB hb_⟩)
    clear hK hHeld
    try simp only [Act.put, List.setIfInBounds_toArray, List.set_cons_zero, List.set_cons_succ]
    have hHeld := hHeld2
    clear hHeld2
    refine tk 8 (v := ?_) rfl (by kernel_rfl) (by kernel_rfl) (by kernel_rfl) (fun _ _ _ h => h) rfl ?_ (by assumption) ?_; rotate_left; (focus (intro w hSw; (try dsimp only at hSw); obtain ⟨hA, hX, hY, hB⟩ := hSw; have zA0 := hA.2 0 _ rfl; have zA1 := hA.2 1 _ rfl; have zA2 := hA.2 2 _ rfl; have zA3 := hA.2 3 _ rfl; have zA4 := hA.2 4 _ rfl; have zA5 := hA.2 5 _ rfl; have zA6 := hA.2 6 _ rfl; have zX0 := hX.2 0 _ rfl; have zX1 := hX.2 1 _ rfl; have zX2 := hX.2 2 _ rfl; have zX3 := hX.2 3 _ rfl; have zY0 := hY.2 0 _ rfl; have zY1 := hY.2 1 _ rfl; have zY2 := hY.2 2 _ rfl; have zY3 := hY.2 3 _ rfl; go_simp; (try with_reducible rfl))); (try simp only [Act.put, List.setIfInBounds_toArray, List.set_cons_zero, List.set_cons_succ])
    refine tk 9 (v := ?_) rfl (by kernel_rfl) (by kernel_rfl) (by kernel_rfl) (fun _ _ _ h => h) rfl ?_ (by assumption) ?_; rotate_left; (focus (intro w hSw; (try dsimp only at hSw); obtain ⟨hA, hX, hY, hB⟩ := hSw; have zA0 := hA.2 0 _ rfl; have zA1 := hA.2 1 _ rfl; have zA2 := hA.2 2 _ rfl; have zA3 := hA.2 3 _ rfl; have zA4 := hA.2 4 _ rfl; have zA5 := hA.2 5 _ rfl; have zA6 := hA.2 6 _ rfl; have zX0 := hX.2 0 _ rfl; have zX1 := hX.2 1 _ rfl; have zX2 := hX.2 2 _ rfl; have zX3 := hX.2 3 _ rfl; have zY0 := hY.2 0 _ rfl; have zY1 := hY.2 1 _ rfl; have zY2 := hY.2 2 _ rfl; have zY3 := hY.2 3 _ rfl; go_simp; (try with_reducible rfl))); (try simp only [Act.put, List.setIfInBounds_toArray, List.set_cons_zero, List.set_cons_succ])
    refine wpAnyH_done (by kernel_rfl) ?_ _
    obtain ⟨hA, hX, hY, hB⟩ := hHeld
    have key : Hid ((yv = x.p ∧ o = some s) ∨ (yv ≠ x.p ∧ o = none) ∨ (yv ≠ x.p ∧ ∃ t, o = some t)) := hid (by
      by_cases h : yv = x.p
      · exact .inl ⟨h, hsame.out h⟩
      · cases o with
        | none => exact .inr (.inl ⟨h, rfl⟩)
        | some t => exact .inr (.inr ⟨h, t, rfl⟩))
    clear hsame
    rcases key.out with ⟨h1, rfl⟩ | ⟨h1, rfl⟩ | ⟨h1, t, rfl⟩
    · have t1 : (x.p == yv) = true := by rw [h1]; simp
      clear h1 key
      simp only [Option.getD_some, Option.isSome_some, Option.getD_none, Option.isSome_none] at RD RR
      have zA0 := hA.2 0 _ rfl
      have zA1 := hA.2 1 _ rfl
      have zA2 := hA.2 2 _ rfl
      have zA3 := hA.2 3 _ rfl
      have zA4 := hA.2 4 _ rfl
      have zA5 := hA.2 5 _ rfl
      have zA6 := hA.2 6 _ rfl
      have zX0 := hX.2 0 _ rfl
      have zX1 := hX.2 1 _ rfl
      have zX2 := hX.2 2 _ rfl
      have zX3 := hX.2 3 _ rfl
      have zY0 := hY.2 0 _ rfl
      have zY1 := hY.2 1 _ rfl
      have zY2 := hY.2 2 _ rfl
      have zY3 := hY.2 3 _ rfl
      go_wp2_with fail
      refine (RD.out _).mono ?_
      rintro e' wr ⟨rfl, hb⟩
      replace hA := hA.below hb
      replace hX := hX.below hb
      replace hY := hY.below hb
      replace hB := then_ hB hb
      clear hb zA0 zA1 zA2 zA3 zA4 zA5 zA6 zX0 zX1 zX2 zX3 zY0 zY1 zY2 zY3
      have zA0 := hA.2 0 _ rfl
      have zA1 := hA.2 1 _ rfl
      have zA2 := hA.2 2 _ rfl
      have zA3 := hA.2 3 _ rfl
      have zA4 := hA.2 4 _ rfl
      have zA5 := hA.2 5 _ rfl
      have zA6 := hA.2 6 _ rfl
      have zX0 := hX.2 0 _ rfl
      have zX1 := hX.2 1 _ rfl
      have zX2 := hX.2 2 _ rfl
      have zX3 := hX.2 3 _ rfl
      have zY0 := hY.2 0 _ rfl
      have zY1 := hY.2 1 _ rfl
      have zY2 := hY.2 2 _ rfl
      have zY3 := hY.2 3 _ rfl
      go_wp2_with fail
      refine (RR.out _).mono ?_
      rintro e' wq ⟨rfl, hb⟩
      replace hA := hA.below hb
      replace hX := hX.below hb
      replace hY := hY.below hb
      replace hB := then_ hB hb
      clear hb zA0 zA1 zA2 zA3 zA4 zA5 zA6 zX0 zX1 zX2 zX3 zY0 zY1 zY2 zY3
      have zA0 := hA.2 0 _ rfl
      have zA1 := hA.2 1 _ rfl
      have zA2 := hA.2 2 _ rfl
      have zA3 := hA.2 3 _ rfl
      have zA4 := hA.2 4 _ rfl
      have zA5 := hA.2 5 _ rfl
      have zA6 := hA.2 6 _ rfl
      have zX0 := hX.2 0 _ rfl
      have zX1 := hX.2 1 _ rfl
      have zX2 := hX.2 2 _ rfl
      have zX3 := hX.2 3 _ rfl
      have zY0 := hY.2 0 _ rfl
      have zY1 := hY.2 1 _ rfl
      have zY2 := hY.2 2 _ rfl
      have zY3 := hY.2 3 _ rfl
      go_wp2_with fail
      refine (RM.out _).mono ?_
      rintro e' wm ⟨rfl, hb⟩
      replace hA := hA.below hb
      replace hX := hX.below hb
      replace hY := hY.below hb
      replace hB := then_ hB hb
      clear hb zA0 zA1 zA2 zA3 zA4 zA5 zA6 zX0 zX1 zX2 zX3 zY0 zY1 zY2 zY3
      have zA0 := hA.2 0 _ rfl
      have zA1 := hA.2 1 _ rfl
      have zA2 := hA.2 2 _ rfl
      have zA3 := hA.2 3 _ rfl
      have zA4 := hA.2 4 _ rfl
      have zA5 := hA.2 5 _ rfl
      have zA6 := hA.2 6 _ rfl
      have zX0 := hX.2 0 _ rfl
      have zX1 := hX.2 1 _ rfl
      have zX2 := hX.2 2 _ rfl
      have zX3 := hX.2 3 _ rfl
      have zY0 := hY.2 0 _ rfl
      have zY1 := hY.2 1 _ rfl
      have zY2 := hY.2 2 _ rfl
      have zY3 := hY.2 3 _ rfl
      go_wp2_with fail
      refine (RM2.out _).mono ?_
      rintro e' wn ⟨rfl, hb⟩
      replace hA := hA.below hb
      replace hX := hX.below hb
      replace hY := hY.below hb
      replace hB := then_ hB hb
      clear hb zA0 zA1 zA2 zA3 zA4 zA5 zA6 zX0 zX1 zX2 zX3 zY0 zY1 zY2 zY3
      have zA0 := hA.2 0 _ rfl
      have zA1 := hA.2 1 _ rfl
      have zA2 := hA.2 2 _ rfl
      have zA3 := hA.2 3 _ rfl
      have zA4 := hA.2 4 _ rfl
      have zA5 := hA.2 5 _ rfl
      have zA6 := hA.2 6 _ rfl
      have zX0 := hX.2 0 _ rfl
      have zX1 := hX.2 1 _ rfl
      have zX2 := hX.2 2 _ rfl
      have zX3 := hX.2 3 _ rfl
      have zY0 := hY.2 0 _ rfl
      have zY1 := hY.2 1 _ rfl
      have zY2 := hY.2 2 _ rfl
      have zY3 := hY.2 3 _ rfl
      go_wp2_with fail
      go_ret
      exact ⟨rfl, hB⟩
    · have t1 : (x.p == yv) = false := by simpa using (Ne.symm h1)
      clear h1 key
      simp only [Option.getD_some, Option.isSome_some, Option.getD_none, Option.isSome_none] at RD RR
      have zA0 := hA.2 0 _ rfl
      have zA1 := hA.2 1 _ rfl
      have zA2 := hA.2 2 _ rfl
      have zA3 := hA.2 3 _ rfl
      have zA4 := hA.2 4 _ rfl
      have zA5 := hA.2 5 _ rfl
      have zA6 := hA.2 6 _ rfl
      have zX0 := hX.2 0 _ rfl
      have zX1 := hX.2 1 _ rfl
      have zX2 := hX.2 2 _ rfl
      have zX3 := hX.2 3 _ rfl
      have zY0 := hY.2 0 _ rfl
      have zY1 := hY.2 1 _ rfl
      have zY2 := hY.2 2 _ rfl
      have zY3 := hY.2 3 _ rfl
      go_wp2_with fail
      refine (RD.out _).mono ?_
      rintro e' wr ⟨rfl, hb⟩
      replace hA := hA.below hb
      replace hX := hX.below hb
      replace hY := hY.below hb
      replace hB := then_ hB hb
      clear hb zA0 zA1 zA2 zA3 zA4 zA5 zA6 zX0 zX1 zX2 zX3 zY0 zY1 zY2 zY3
      have zA0 := hA.2 0 _ rfl
      have zA1 := hA.2 1 _ rfl
      have zA2 := hA.2 2 _ rfl
      have zA3 := hA.2 3 _ rfl
      have zA4 := hA.2 4 _ rfl
      have zA5 := hA.2 5 _ rfl
      have zA6 := hA.2 6 _ rfl
      have zX0 := hX.2 0 _ rfl
      have zX1 := hX.2 1 _ rfl
      have zX2 := hX.2 2 _ rfl
      have zX3 := hX.2 3 _ rfl
      have zY0 := hY.2 0 _ rfl
      have zY1 := hY.2 1 _ rfl
      have zY2 := hY.2 2 _ rfl
      have zY3 := hY.2 3 _ rfl
      go_wp2_with fail
      refine (RR.out _).mono ?_
      rintro e' wq ⟨rfl, hb⟩
      replace hA := hA.below hb
      replace hX := hX.below hb
      replace hY := hY.below hb
      replace hB := then_ hB hb
      clear hb zA0 zA1 zA2 zA3 zA4 zA5 zA6 zX0 zX1 zX2 zX3 zY0 zY1 zY2 zY3
      have zA0 := hA.2 0 _ rfl
      have zA1 := hA.2 1 _ rfl
      have zA2 := hA.2 2 _ rfl
      have zA3 := hA.2 3 _ rfl
      have zA4 := hA.2 4 _ rfl
      have zA5 := hA.2 5 _ rfl
      have zA6 := hA.2 6 _ rfl
      have zX0 := hX.2 0 _ rfl
      have zX1 := hX.2 1 _ rfl
      have zX2 := hX.2 2 _ rfl
      have zX3 := hX.2 3 _ rfl
      have zY0 := hY.2 0 _ rfl
      have zY1 := hY.2 1 _ rfl
      have zY2 := hY.2 2 _ rfl
      have zY3 := hY.2 3 _ rfl
      go_wp2_with fail
      refine (RM.out _).mono ?_
      rintro e' wm ⟨rfl, hb⟩
      replace hA := hA.below hb
      replace hX := hX.below hb
      replace hY := hY.below hb
      replace hB := then_ hB hb
      clear hb zA0 zA1 zA2 zA3 zA4 zA5 zA6 zX0 zX1 zX2 zX3 zY0 zY1 zY2 zY3
      have zA0 := hA.2 0 _ rfl
      have zA1 := hA.2 1 _ rfl
      have zA2 := hA.2 2 _ rfl
      have zA3 := hA.2 3 _ rfl
      have zA4 := hA.2 4 _ rfl
      have zA5 := hA.2 5 _ rfl
      have zA6 := hA.2 6 _ rfl
      have zX0 := hX.2 0 _ rfl
      have zX1 := hX.2 1 _ rfl
      have zX2 := hX.2 2 _ rfl
      have zX3 := hX.2 3 _ rfl
      have zY0 := hY.2 0 _ rfl
      have zY1 := hY.2 1 _ rfl
      have zY2 := hY.2 2 _ rfl
      have zY3 := hY.2 3 _ rfl
      go_wp2_with fail
      refine (RM2.out _).mono ?_
      rintro e' wn ⟨rfl, hb⟩
      replace hA := hA.below hb
      replace hX := hX.below hb
      replace hY := hY.below hb
      replace hB := then_ hB hb
      clear hb zA0 zA1 zA2 zA3 zA4 zA5 zA6 zX0 zX1 zX2 zX3 zY0 zY1 zY2 zY3
      have zA0 := hA.2 0 _ rfl
      have zA1 := hA.2 1 _ rfl
      have zA2 := hA.2 2 _ rfl
      have zA3 := hA.2 3 _ rfl
      have zA4 := hA.2 4 _ rfl
      have zA5 := hA.2 5 _ rfl
      have zA6 := hA.2 6 _ rfl
      have zX0 := hX.2 0 _ rfl
      have zX1 := hX.2 1 _ rfl
      have zX2 := hX.2 2 _ rfl
      have zX3 := hX.2 3 _ rfl
      have zY0 := hY.2 0 _ rfl
      have zY1 := hY.2 1 _ rfl
      have zY2 := hY.2 2 _ rfl
      have zY3 := hY.2 3 _ rfl
      go_wp2_with fail
      go_ret
      exact ⟨rfl, hB⟩
    · have t1 : (x.p == yv) = false := by simpa using (Ne.symm h1)
      clear h1 key
      simp only [Option.getD_some, Option.isSome_some, Option.getD_none, Option.isSome_none] at RD RR
      have zA0 := hA.2 0 _ rfl
      have zA1 := hA.2 1 _ rfl
      have zA2 := hA.2 2 _ rfl
      have zA3 := hA.2 3 _ rfl
      have zA4 := hA.2 4 _ rfl
      have zA5 := hA.2 5 _ rfl
      have zA6 := hA.2 6 _ rfl
      have zX0 := hX.2 0 _ rfl
      have zX1 := hX.2 1 _ rfl
      have zX2 := hX.2 2 _ rfl
      have zX3 := hX.2 3 _ rfl
      have zY0 := hY.2 0 _ rfl
      have zY1 := hY.2 1 _ rfl
      have zY2 := hY.2 2 _ rfl
      have zY3 := hY.2 3 _ rfl
      go_wp2_with fail
      refine (RD.out _).mono ?_
      rintro e' wr ⟨rfl, hb⟩
      replace hA := hA.below hb
      replace hX := hX.below hb
      replace hY := hY.below hb
      replace hB := then_ hB hb
      clear hb zA0 zA1 zA2 zA3 zA4 zA5 zA6 zX0 zX1 zX2 zX3 zY0 zY1 zY2 zY3
      have zA0 := hA.2 0 _ rfl
      have zA1 := hA.2 1 _ rfl
      have zA2 := hA.2 2 _ rfl
      have zA3 := hA.2 3 _ rfl
      have zA4 := hA.2 4 _ rfl
      have zA5 := hA.2 5 _ rfl
      have zA6 := hA.2 6 _ rfl
      have zX0 := hX.2 0 _ rfl
      have zX1 := hX.2 1 _ rfl
      have zX2 := hX.2 2 _ rfl
      have zX3 := hX.2 3 _ rfl
      have zY0 := hY.2 0 _ rfl
      have zY1 := hY.2 1 _ rfl
      have zY2 := hY.2 2 _ rfl
      have zY3 := hY.2 3 _ rfl
      go_wp2_with fail
      refine (RR.out _).mono ?_
      rintro e' wq ⟨rfl, hb⟩
      replace hA := hA.below hb
      replace hX := hX.below hb
      replace hY := hY.below hb
      replace hB := then_ hB hb
      clear hb zA0 zA1 zA2 zA3 zA4 zA5 zA6 zX0 zX1 zX2 zX3 zY0 zY1 zY2 zY3
      have zA0 := hA.2 0 _ rfl
      have zA1 := hA.2 1 _ rfl
      have zA2 := hA.2 2 _ rfl
      have zA3 := hA.2 3 _ rfl
      have zA4 := hA.2 4 _ rfl
      have zA5 := hA.2 5 _ rfl
      have zA6 := hA.2 6 _ rfl
      have zX0 := hX.2 0 _ rfl
      have zX1 := hX.2 1 _ rfl
      have zX2 := hX.2 2 _ rfl
      have zX3 := hX.2 3 _ rfl
      have zY0 := hY.2 0 _ rfl
      have zY1 := hY.2 1 _ rfl
      have zY2 := hY.2 2 _ rfl
      have zY3 := hY.2 3 _ rfl
      go_wp2_with fail
      refine (RM.out _).mono ?_
      rintro e' wm ⟨rfl, hb⟩
      replace hA := hA.below hb
      replace hX := hX.below hb
      replace hY := hY.below hb
      replace hB := then_ hB hb
      clear hb zA0 zA1 zA2 zA3 zA4 zA5 zA6 zX0 zX1 zX2 zX3 zY0 zY1 zY2 zY3
      have zA0 := hA.2 0 _ rfl
      have zA1 := hA.2 1 _ rfl
      have zA2 := hA.2 2 _ rfl
      have zA3 := hA.2 3 _ rfl
      have zA4 := hA.2 4 _ rfl
      have zA5 := hA.2 5 _ rfl
      have zA6 := hA.2 6 _ rfl
      have zX0 := hX.2 0 _ rfl
      have zX1 := hX.2 1 _ rfl
      have zX2 := hX.2 2 _ rfl
      have zX3 := hX.2 3 _ rfl
      have zY0 := hY.2 0 _ rfl
      have zY1 := hY.2 1 _ rfl
      have zY2 := hY.2 2 _ rfl
      have zY3 := hY.2 3 _ rfl
      go_wp2_with fail
      refine (RM2.out _).mono ?_
      rintro e' wn ⟨rfl, hb⟩
      replace hA := hA.below hb
      replace hX := hX.below hb
      replace hY := hY.below hb
      replace hB := then_ hB hb
      clear hb zA0 zA1 zA2 zA3 zA4 zA5 zA6 zX0 zX1 zX2 zX3 zY0 zY1 zY2 zY3
      have zA0 := hA.2 0 _ rfl
      have zA1 := hA.2 1 _ rfl
      have zA2 := hA.2 2 _ rfl
      have zA3 := hA.2 3 _ rfl
      have zA4 := hA.2 4 _ rfl
      have zA5 := hA.2 5 _ rfl
      have zA6 := hA.2 6 _ rfl
      have zX0 := hX.2 0 _ rfl
      have zX1 := hX.2 1 _ rfl
      have zX2 := hX.2 2 _ rfl
      have zX3 := hX.2 3 _ rfl
      have zY0 := hY.2 0 _ rfl
      have zY1 := hY.2 1 _ rfl
      have zY2 := hY.2 2 _ rfl
      have zY3 := hY.2 3 _ rfl
      go_wp2_with fail
      go_ret
      exact ⟨rfl, hB⟩
  · obtain ⟨yv, hyv⟩ : ∃ yv, yv = (x.ta + dd) % 4294967296 := ⟨_, rfl⟩
    have yv1 : 0 ≤ yv := by omega
    have yv2 : yv < 4294967296 := by omega
    obtain ⟨y, hy⟩ : ∃ y : Fl, y = ⟨x.a, x.p, yv, x.tp⟩ := ⟨_, rfl⟩
    have hYI : y.I := by
      rw [hy]
      obtain ⟨i1, i2, i3, i4⟩ := hI
      refine ⟨?_, ?_, ?_, ?_⟩ <;> first | exact i1 | exact i2 | exact i3 | exact i4 | (exact ⟨by show _ ≤ yv; omega, by show yv ≤ _; omega⟩)
    obtain ⟨c, hc⟩ : ∃ c, c = cok (tB true) r.c (kdB true) y s (r.e % 4) := ⟨_, rfl⟩
    obtain ⟨d, hd⟩ : ∃ d, d = cok (tB false) r.c (kdB false) y s (r.e % 4) := ⟨_, rfl⟩
    have MK := fun w => re_i64 (make_b true r y s hYI wb w) hc.symm
    have MK2 := fun w => re_i64 (make_b false r y s hYI wb w) hd.symm
    have RM := fun w => re_i64 (rmake_b true r y s hYI wb w) hc.symm
    have RM2 := fun w => re_i64 (rmake_b false r y s hYI wb w) hd.symm
    have RD := fun w => read_b true r x c hI hE.1 w
    have RR := fun w => rread_b true r x c hI hE.1 w
    have hsame : yv = x.ta → readC (tB true) r (kdB true) x c = some s := fun h => by
      have hyx : y = x := by rw [hy, h]
      rw [hc, hyx]
      exact read_cok (tB true) r r.c (kdB true) x s (r.e % 4) (tB_T true) wb (by omega) (keyOf_now r)
    generalize readC (tB true) r (kdB true) x c = o at *
    replace hsame := hid hsame
    rw [hy] at MK MK2 RM RM2
    clear hc hd hy hYI y
    unfold rgV flV rdO kdB at *
    simp only [if_true, Bool.false_eq_true, if_false] at *
    replace MK := hid MK
    replace MK2 := hid MK2
    replace RM := hid RM
    replace RM2 := hid RM2
    replace RD := hid RD
    replace RR := hid RR
    have HYV := hid hyv
    clear hyv
    go_enter Try.func3, Try.ntmps3
    go_wp2_with fail
    refine (known_any _).mono ?_
    rintro e' w ⟨rfl, hb1⟩
    have B := hb1
    clear hb1
    go_wp2_with fail
    refine (LR.out _).mono ?_
    rintro e' w1 ⟨rfl, hb⟩
    replace B := then_ B hb
    clear hb
    go_wp2_with fail
    have CA := Ce.made (w := w1) (l := [.int .i64 r.e, .int .u64 r.p.a, .int .u64 r.p.b, .int .u64 r.c.a, .int .u64 r.c.b, .int .u64 r.n.a, .int .u64 r.n.b]) (T := 27) (g := w1.heap.size) rfl
    replace B := B.alloc B.size (.cells #[.int .i64 r.e, .int .u64 r.p.a, .int .u64 r.p.b, .int .u64 r.c.a, .int .u64 r.c.b, .int .u64 r.n.a, .int .u64 r.n.b] 27)
    generalize w1.alloc (.cells #[.int .i64 r.e, .int .u64 r.p.a, .int .u64 r.p.b, .int .u64 r.c.a, .int .u64 r.c.b, .int .u64 r.n.a, .int .u64 r.n.b] 27) = w2 at *
    generalize w1.heap.size = A at *
    refine (LF.out _).mono ?_
    rintro e' w3 ⟨rfl, hb⟩
    replace B := then_ B hb
    replace CA := CA.below hb
    clear hb
    go_wp2_with fail
    refine (WS4.out _).mono ?_
    rintro e' w4 ⟨rfl, rfl⟩
    go_wp2_with fail
    rw [← HYV.out]
    have hA := ((CA.alloc (.cells #[.int .i64 x.a, .int .i64 x.p, .int .i64 x.ta, .int .i64 x.tp] 30)).alloc (.cells #[.int .i64 x.a, .int .i64 x.p, .int .i64 yv, .int .i64 x.tp] 30)).cr
    have hX := ((Ce.made (w := w3) (l := [.int .i64 x.a, .int .i64 x.p, .int .i64 x.ta, .int .i64 x.tp]) (T := 30) (g := w3.heap.size) rfl).alloc (.cells #[.int .i64 x.a, .int .i64 x.p, .int .i64 yv, .int .i64 x.tp] 30)).cr
    have hY := (Ce.made (w := w3.alloc (.cells #[.int .i64 x.a, .int .i64 x.p, .int .i64 x.ta, .int .i64 x.tp] 30)) (l := [.int .i64 x.a, .int .i64 x.p, .int .i64 yv, .int .i64 x.tp]) (T := 30) (g := w3.heap.size + 1) (by simp)).cr
    have hB := (B.alloc B.size (.cells #[.int .i64 x.a, .int .i64 x.p, .int .i64 x.ta, .int .i64 x.tp] 30)).alloc (Below.size (B.alloc B.size (.cells #[.int .i64 x.a, .int .i64 x.p, .int .i64 x.ta, .int .i64 x.tp] 30))) (.cells #[.int .i64 x.a, .int .i64 x.p, .int .i64 yv, .int .i64 x.tp] 30)
    change Cr ((w3.alloc (.cells #[.int .i64 x.a, .int .i64 x.p, .int .i64 x.ta, .int .i64 x.tp] 30)).alloc (.cells #[.int .i64 x.a, .int .i64 x.p, .int .i64 yv, .int .i64 x.tp] 30)) _ _ at hX
    change Cr ((w3.alloc (.cells #[.int .i64 x.a, .int .i64 x.p, .int .i64 x.ta, .int .i64 x.tp] 30)).alloc (.cells #[.int .i64 x.a, .int .i64 x.p, .int .i64 yv, .int .i64 x.tp] 30)) _ _ at hY
    clear CA B
    generalize (w3.alloc (.cells #[.int .i64 x.a, .int .i64 x.p, .int .i64 x.ta, .int .i64 x.tp] 30)).alloc (.cells #[.int .i64 x.a, .int .i64 x.p, .int .i64 yv, .int .i64 x.tp] 30) = w5 at *
    generalize w3.heap.size + 1 = Y at *
    generalize w3.heap.size = X at *
    refine (WS.out _).mono ?_
    rintro e' w6 ⟨rfl, rfl⟩
    clear HYV hm
    go_wp2_with fail
    refine wp_region_held_drew (S := fun w' => Cr w' A [.int .i64 r.e, .int .u64 r.p.a, .int .u64 r.p.b, .int .u64 r.c.a, .int .u64 r.c.b, .int .u64 r.n.a, .int .u64 r.n.b] ∧ Cr w' X [.int .i64 x.a, .int .i64 x.p, .int .i64 x.ta, .int .i64 x.tp] ∧ Cr w' Y [.int .i64 x.a, .int .i64 x.p, .int .i64 yv, .int .i64 x.tp] ∧ Below W.heap.size W w') (by kernel_rfl) ?_ (fun hHeld => ?_)
    · exact ⟨hA, hX, hY, hB.drew⟩
    refine tk 0 (v := ?_) rfl (by kernel_rfl) (by kernel_rfl) (by kernel_rfl) (fun _ _ _ h => h) rfl ?_ (by assumption) ?_; rotate_left; (focus (intro w hSw; (try dsimp only at hSw); obtain ⟨hA, hX, hY, hB⟩ := hSw; have zA0 := hA.2 0 _ rfl; have zA1 := hA.2 1 _ rfl; have zA2 := hA.2 2 _ rfl; have zA3 := hA.2 3 _ rfl; have zA4 := hA.2 4 _ rfl; have zA5 := hA.2 5 _ rfl; have zA6 := hA.2 6 _ rfl; have zX0 := hX.2 0 _ rfl; have zX1 := hX.2 1 _ rfl; have zX2 := hX.2 2 _ rfl; have zX3 := hX.2 3 _ rfl; have zY0 := hY.2 0 _ rfl; have zY1 := hY.2 1 _ rfl; have zY2 := hY.2 2 _ rfl; have zY3 := hY.2 3 _ rfl; go_simp; (try with_reducible rfl))); (try simp only [Act.put, List.setIfInBounds_toArray, List.set_cons_zero, List.set_cons_succ])
    refine tk 1 (v := ?_) rfl (by kernel_rfl) (by kernel_rfl) (by kernel_rfl) (fun _ _ _ h => h) rfl ?_ (by assumption) ?_; rotate_left; (focus (intro w hSw; (try dsimp only at hSw); obtain ⟨hA, hX, hY, hB⟩ := hSw; have zA0 := hA.2 0 _ rfl; have zA1 := hA.2 1 _ rfl; have zA2 := hA.2 2 _ rfl; have zA3 := hA.2 3 _ rfl; have zA4 := hA.2 4 _ rfl; have zA5 := hA.2 5 _ rfl; have zA6 := hA.2 6 _ rfl; have zX0 := hX.2 0 _ rfl; have zX1 := hX.2 1 _ rfl; have zX2 := hX.2 2 _ rfl; have zX3 := hX.2 3 _ rfl; have zY0 := hY.2 0 _ rfl; have zY1 := hY.2 1 _ rfl; have zY2 := hY.2 2 _ rfl; have zY3 := hY.2 3 _ rfl; go_simp; (try with_reducible rfl))); (try simp only [Act.put, List.setIfInBounds_toArray, List.set_cons_zero, List.set_cons_succ])
    refine tk 2 (v := ?_) rfl (by kernel_rfl) (by kernel_rfl) (by kernel_rfl) (fun _ _ _ h => h) rfl ?_ (by assumption) ?_; rotate_left; (focus (intro w hSw; (try dsimp only at hSw); obtain ⟨hA, hX, hY, hB⟩ := hSw; have zA0 := hA.2 0 _ rfl; have zA1 := hA.2 1 _ rfl; have zA2 := hA.2 2 _ rfl; have zA3 := hA.2 3 _ rfl; have zA4 := hA.2 4 _ rfl; have zA5 := hA.2 5 _ rfl; have zA6 := hA.2 6 _ rfl; have zX0 := hX.2 0 _ rfl; have zX1 := hX.2 1 _ rfl; have zX2 := hX.2 2 _ rfl; have zX3 := hX.2 3 _ rfl; have zY0 := hY.2 0 _ rfl; have zY1 := hY.2 1 _ rfl; have zY2 := hY.2 2 _ rfl; have zY3 := hY.2 3 _ rfl; go_simp; (try with_reducible rfl))); (try simp only [Act.put, List.setIfInBounds_toArray, List.set_cons_zero, List.set_cons_succ])
    refine tk 4 (v := ?_) rfl (by kernel_rfl) (by kernel_rfl) (by kernel_rfl) (fun _ _ _ h => h) rfl ?_ (by assumption) ?_; rotate_left; (focus (intro w hSw; (try dsimp only at hSw); obtain ⟨hA, hX, hY, hB⟩ := hSw; have zA0 := hA.2 0 _ rfl; have zA1 := hA.2 1 _ rfl; have zA2 := hA.2 2 _ rfl; have zA3 := hA.2 3 _ rfl; have zA4 := hA.2 4 _ rfl; have zA5 := hA.2 5 _ rfl; have zA6 := hA.2 6 _ rfl; have zX0 := hX.2 0 _ rfl; have zX1 := hX.2 1 _ rfl; have zX2 := hX.2 2 _ rfl; have zX3 := hX.2 3 _ rfl; have zY0 := hY.2 0 _ rfl; have zY1 := hY.2 1 _ rfl; have zY2 := hY.2 2 _ rfl; have zY3 := hY.2 3 _ rfl; go_simp; (try with_reducible rfl))); (try simp only [Act.put, List.setIfInBounds_toArray, List.set_cons_zero, List.set_cons_succ])
    refine tk 5 (v := ?_) rfl (by kernel_rfl) (by kernel_rfl) (by kernel_rfl) (fun _ _ _ h => h) rfl ?_ (by assumption) ?_; rotate_left; (focus (intro w hSw; (try dsimp only at hSw); obtain ⟨hA, hX, hY, hB⟩ := hSw; have zA0 := hA.2 0 _ rfl; have zA1 := hA.2 1 _ rfl; have zA2 := hA.2 2 _ rfl; have zA3 := hA.2 3 _ rfl; have zA4 := hA.2 4 _ rfl; have zA5 := hA.2 5 _ rfl; have zA6 := hA.2 6 _ rfl; have zX0 := hX.2 0 _ rfl; have zX1 := hX.2 1 _ rfl; have zX2 := hX.2 2 _ rfl; have zX3 := hX.2 3 _ rfl; have zY0 := hY.2 0 _ rfl; have zY1 := hY.2 1 _ rfl; have zY2 := hY.2 2 _ rfl; have zY3 := hY.2 3 _ rfl; go_simp; (try with_reducible rfl))); (try simp only [Act.put, List.setIfInBounds_toArray, List.set_cons_zero, List.set_cons_succ])
    refine tk 6 (v := ?_) rfl (by kernel_rfl) (by kernel_rfl) (by kernel_rfl) (fun _ _ _ h => h) rfl ?_ (by assumption) ?_; rotate_left; (focus (intro w hSw; (try dsimp only at hSw); obtain ⟨hA, hX, hY, hB⟩ := hSw; have zA0 := hA.2 0 _ rfl; have zA1 := hA.2 1 _ rfl; have zA2 := hA.2 2 _ rfl; have zA3 := hA.2 3 _ rfl; have zA4 := hA.2 4 _ rfl; have zA5 := hA.2 5 _ rfl; have zA6 := hA.2 6 _ rfl; have zX0 := hX.2 0 _ rfl; have zX1 := hX.2 1 _ rfl; have zX2 := hX.2 2 _ rfl; have zX3 := hX.2 3 _ rfl; have zY0 := hY.2 0 _ rfl; have zY1 := hY.2 1 _ rfl; have zY2 := hY.2 2 _ rfl; have zY3 := hY.2 3 _ rfl; go_simp; (try with_reducible rfl))); (try simp only [Act.put, List.setIfInBounds_toArray, List.set_cons_zero, List.set_cons_succ])
    refine only 3 rfl (by kernel_rfl) rfl (fun K hK => ?_)
    go_simp
    refine (MK.out _).mono ?_
    rintro e' wa ⟨rfl, ha⟩
    try go_wp2_with fail
    refine hK.out _ _ ?_ (fun hHeld2 => ?_)
    · (obtain ⟨hA, hX, hY, hB⟩ := hHeld; exact ⟨hA.below ha, hX.below ha, hY.below ha, then_ hB ha⟩)
    clear hK hHeld
    try simp only [Act.put, List.setIfInBounds_toArray, List.set_cons_zero, List.set_cons_succ]
    have hHeld := hHeld2
    clear hHeld2
    refine only 7 rfl (by kernel_rfl) rfl (fun K hK => ?_)
    go_simp
    refine (MK2.out _).mono ?_
    rintro e' wb_ ⟨rfl, hb_⟩
    try go_wp2_with fail
    refine hK.out _ _ ?_ (fun hHeld2 => ?_)
    · (obtain ⟨hA, hX, hY, hB⟩ := hHeld; exact ⟨hA.below hb_, hX.below hb_, hY.below hb_, then_ hB hb_⟩)
    clear hK hHeld
    try simp only [Act.put, List.setIfInBounds_toArray, List.set_cons_zero, List.set_cons_succ]
    have hHeld := hHeld2
    clear hHeld2
    refine tk 8 (v := ?_) rfl (by kernel_rfl) (by kernel_rfl) (by kernel_rfl) (fun _ _ _ h => h) rfl ?_ (by assumption) ?_; rotate_left; (focus (intro w hSw; (try dsimp only at hSw); obtain ⟨hA, hX, hY, hB⟩ := hSw; have zA0 := hA.2 0 _ rfl; have zA1 := hA.2 1 _ rfl; have zA2 := hA.2 2 _ rfl; have zA3 := hA.2 3 _ rfl; have zA4 := hA.2 4 _ rfl; have zA5 := hA.2 5 _ rfl; have zA6 := hA.2 6 _ rfl; have zX0 := hX.2 0 _ rfl; have zX1 := hX.2 1 _ rfl; have zX2 := hX.2 2 _ rfl; have zX3 := hX.2 3 _ rfl; have zY0 := hY.2 0 _ rfl; have zY1 := hY.2 1 _ rfl; have zY2 := hY.2 2 _ rfl; have zY3 := hY.2 3 _ rfl; go_simp; (try with_reducible rfl))); (try simp only [Act.put, List.setIfInBounds_toArray, List.set_cons_zero, List.set_cons_succ])
    refine tk 9 (v := ?_) rfl (by kernel_rfl) (by kernel_rfl) (by kernel_rfl) (fun _ _ _ h => h) rfl ?_ (by assumption) ?_; rotate_left; (focus (intro w hSw; (try dsimp only at hSw); obtain ⟨hA, hX, hY, hB⟩ := hSw; have zA0 := hA.2 0 _ rfl; have zA1 := hA.2 1 _ rfl; have zA2 := hA.2 2 _ rfl; have zA3 := hA.2 3 _ rfl; have zA4 := hA.2 4 _ rfl; have zA5 := hA.2 5 _ rfl; have zA6 := hA.2 6 _ rfl; have zX0 := hX.2 0 _ rfl; have zX1 := hX.2 1 _ rfl; have zX2 := hX.2 2 _ rfl; have zX3 := hX.2 3 _ rfl; have zY0 := hY.2 0 _ rfl; have zY1 := hY.2 1 _ rfl; have zY2 := hY.2 2 _ rfl; have zY3 := hY.2 3 _ rfl; go_simp; (try with_reducible rfl))); (try simp only [Act.put, List.setIfInBounds_toArray, List.set_cons_zero, List.set_cons_succ])
    refine wpAnyH_done (by kernel_rfl) ?_ _
    obtain ⟨hA, hX, hY, hB⟩ := hHeld
    have key : Hid ((yv = x.ta ∧ o = some s) ∨ (yv ≠ x.ta ∧ o = none) ∨ (yv ≠ x.ta ∧ ∃ t, o = some t)) := hid (by
      by_cases h : yv = x.ta
      · exact .inl ⟨h, hsame.out h⟩
      · cases o with
        | none => exact .inr (.inl ⟨h, rfl⟩)
        | some t => exact .inr (.inr ⟨h, t, rfl⟩))
    clear hsame
    rcases key.out with ⟨h1, rfl⟩ | ⟨h1, rfl⟩ | ⟨h1, t, rfl⟩
    · have t1 : (x.ta == yv) = true := by rw [h1]; simp
      clear h1 key
      simp only [Option.getD_some, Option.isSome_some, Option.getD_none, Option.isSome_none] at RD RR
      have zA0 := hA.2 0 _ rfl
      have zA1 := hA.2 1 _ rfl
      have zA2 := hA.2 2 _ rfl
      have zA3 := hA.2 3 _ rfl
      have zA4 := hA.2 4 _ rfl
      have zA5 := hA.2 5 _ rfl
      have zA6 := hA.2 6 _ rfl
      have zX0 := hX.2 0 _ rfl
      have zX1 := hX.2 1 _ rfl
      have zX2 := hX.2 2 _ rfl
      have zX3 := hX.2 3 _ rfl
      have zY0 := hY.2 0 _ rfl
      have zY1 := hY.2 1 _ rfl
      have zY2 := hY.2 2 _ rfl
      have zY3 := hY.2 3 _ rfl
      go_wp2_with fail
      refine (RD.out _).mono ?_
      rintro e' wr ⟨rfl, hb⟩
      replace hA := hA.below hb
      replace hX := hX.below hb
      replace hY := hY.below hb
      replace hB := then_ hB hb
      clear hb zA0 zA1 zA2 zA3 zA4 zA5 zA6 zX0 zX1 zX2 zX3 zY0 zY1 zY2 zY3
      have zA0 := hA.2 0 _ rfl
      have zA1 := hA.2 1 _ rfl
      have zA2 := hA.2 2 _ rfl
      have zA3 := hA.2 3 _ rfl
      have zA4 := hA.2 4 _ rfl
      have zA5 := hA.2 5 _ rfl
      have zA6 := hA.2 6 _ rfl
      have zX0 := hX.2 0 _ rfl
      have zX1 := hX.2 1 _ rfl
      have zX2 := hX.2 2 _ rfl
      have zX3 := hX.2 3 _ rfl
      have zY0 := hY.2 0 _ rfl
      have zY1 := hY.2 1 _ rfl
      have zY2 := hY.2 2 _ rfl
      have zY3 := hY.2 3 _ rfl
      go_wp2_with fail
      refine (RR.out _).mono ?_
      rintro e' wq ⟨rfl, hb⟩
      replace hA := hA.below hb
      replace hX := hX.below hb
      replace hY := hY.below hb
      replace hB := then_ hB hb
      clear hb zA0 zA1 zA2 zA3 zA4 zA5 zA6 zX0 zX1 zX2 zX3 zY0 zY1 zY2 zY3
      have zA0 := hA.2 0 _ rfl
      have zA1 := hA.2 1 _ rfl
      have zA2 := hA.2 2 _ rfl
      have zA3 := hA.2 3 _ rfl
      have zA4 := hA.2 4 _ rfl
      have zA5 := hA.2 5 _ rfl
      have zA6 := hA.2 6 _ rfl
      have zX0 := hX.2 0 _ rfl
      have zX1 := hX.2 1 _ rfl
      have zX2 := hX.2 2 _ rfl
      have zX3 := hX.2 3 _ rfl
      have zY0 := hY.2 0 _ rfl
      have zY1 := hY.2 1 _ rfl
      have zY2 := hY.2 2 _ rfl
      have zY3 := hY.2 3 _ rfl
      go_wp2_with fail
      refine (RM.out _).mono ?_
      rintro e' wm ⟨rfl, hb⟩
      replace hA := hA.below hb
      replace hX := hX.below hb
      replace hY := hY.below hb
      replace hB := then_ hB hb
      clear hb zA0 zA1 zA2 zA3 zA4 zA5 zA6 zX0 zX1 zX2 zX3 zY0 zY1 zY2 zY3
      have zA0 := hA.2 0 _ rfl
      have zA1 := hA.2 1 _ rfl
      have zA2 := hA.2 2 _ rfl
      have zA3 := hA.2 3 _ rfl
      have zA4 := hA.2 4 _ rfl
      have zA5 := hA.2 5 _ rfl
      have zA6 := hA.2 6 _ rfl
      have zX0 := hX.2 0 _ rfl
      have zX1 := hX.2 1 _ rfl
      have zX2 := hX.2 2 _ rfl
      have zX3 := hX.2 3 _ rfl
      have zY0 := hY.2 0 _ rfl
      have zY1 := hY.2 1 _ rfl
      have zY2 := hY.2 2 _ rfl
      have zY3 := hY.2 3 _ rfl
      go_wp2_with fail
      refine (RM2.out _).mono ?_
      rintro e' wn ⟨rfl, hb⟩
      replace hA := hA.below hb
      replace hX := hX.below hb
      replace hY := hY.below hb
      replace hB := then_ hB hb
      clear hb zA0 zA1 zA2 zA3 zA4 zA5 zA6 zX0 zX1 zX2 zX3 zY0 zY1 zY2 zY3
      have zA0 := hA.2 0 _ rfl
      have zA1 := hA.2 1 _ rfl
      have zA2 := hA.2 2 _ rfl
      have zA3 := hA.2 3 _ rfl
      have zA4 := hA.2 4 _ rfl
      have zA5 := hA.2 5 _ rfl
      have zA6 := hA.2 6 _ rfl
      have zX0 := hX.2 0 _ rfl
      have zX1 := hX.2 1 _ rfl
      have zX2 := hX.2 2 _ rfl
      have zX3 := hX.2 3 _ rfl
      have zY0 := hY.2 0 _ rfl
      have zY1 := hY.2 1 _ rfl
      have zY2 := hY.2 2 _ rfl
      have zY3 := hY.2 3 _ rfl
      go_wp2_with fail
      go_ret
      exact ⟨rfl, hB⟩
    · have t1 : (x.ta == yv) = false := by simpa using (Ne.symm h1)
      clear h1 key
      simp only [Option.getD_some, Option.isSome_some, Option.getD_none, Option.isSome_none] at RD RR
      have zA0 := hA.2 0 _ rfl
      have zA1 := hA.2 1 _ rfl
      have zA2 := hA.2 2 _ rfl
      have zA3 := hA.2 3 _ rfl
      have zA4 := hA.2 4 _ rfl
      have zA5 := hA.2 5 _ rfl
      have zA6 := hA.2 6 _ rfl
      have zX0 := hX.2 0 _ rfl
      have zX1 := hX.2 1 _ rfl
      have zX2 := hX.2 2 _ rfl
      have zX3 := hX.2 3 _ rfl
      have zY0 := hY.2 0 _ rfl
      have zY1 := hY.2 1 _ rfl
      have zY2 := hY.2 2 _ rfl
      have zY3 := hY.2 3 _ rfl
      go_wp2_with fail
      refine (RD.out _).mono ?_
      rintro e' wr ⟨rfl, hb⟩
      replace hA := hA.below hb
      replace hX := hX.below hb
      replace hY := hY.below hb
      replace hB := then_ hB hb
      clear hb zA0 zA1 zA2 zA3 zA4 zA5 zA6 zX0 zX1 zX2 zX3 zY0 zY1 zY2 zY3
      have zA0 := hA.2 0 _ rfl
      have zA1 := hA.2 1 _ rfl
      have zA2 := hA.2 2 _ rfl
      have zA3 := hA.2 3 _ rfl
      have zA4 := hA.2 4 _ rfl
      have zA5 := hA.2 5 _ rfl
      have zA6 := hA.2 6 _ rfl
      have zX0 := hX.2 0 _ rfl
      have zX1 := hX.2 1 _ rfl
      have zX2 := hX.2 2 _ rfl
      have zX3 := hX.2 3 _ rfl
      have zY0 := hY.2 0 _ rfl
      have zY1 := hY.2 1 _ rfl
      have zY2 := hY.2 2 _ rfl
      have zY3 := hY.2 3 _ rfl
      go_wp2_with fail
      refine (RR.out _).mono ?_
      rintro e' wq ⟨rfl, hb⟩
      replace hA := hA.below hb
      replace hX := hX.below hb
      replace hY := hY.below hb
      replace hB := then_ hB hb
      clear hb zA0 zA1 zA2 zA3 zA4 zA5 zA6 zX0 zX1 zX2 zX3 zY0 zY1 zY2 zY3
      have zA0 := hA.2 0 _ rfl
      have zA1 := hA.2 1 _ rfl
      have zA2 := hA.2 2 _ rfl
      have zA3 := hA.2 3 _ rfl
      have zA4 := hA.2 4 _ rfl
      have zA5 := hA.2 5 _ rfl
      have zA6 := hA.2 6 _ rfl
      have zX0 := hX.2 0 _ rfl
      have zX1 := hX.2 1 _ rfl
      have zX2 := hX.2 2 _ rfl
      have zX3 := hX.2 3 _ rfl
      have zY0 := hY.2 0 _ rfl
      have zY1 := hY.2 1 _ rfl
      have zY2 := hY.2 2 _ rfl
      have zY3 := hY.2 3 _ rfl
      go_wp2_with fail
      refine (RM.out _).mono ?_
      rintro e' wm ⟨rfl, hb⟩
      replace hA := hA.below hb
      replace hX := hX.below hb
      replace hY := hY.below hb
      replace hB := then_ hB hb
      clear hb zA0 zA1 zA2 zA3 zA4 zA5 zA6 zX0 zX1 zX2 zX3 zY0 zY1 zY2 zY3
      have zA0 := hA.2 0 _ rfl
      have zA1 := hA.2 1 _ rfl
      have zA2 := hA.2 2 _ rfl
      have zA3 := hA.2 3 _ rfl
      have zA4 := hA.2 4 _ rfl
      have zA5 := hA.2 5 _ rfl
      have zA6 := hA.2 6 _ rfl
      have zX0 := hX.2 0 _ rfl
      have zX1 := hX.2 1 _ rfl
      have zX2 := hX.2 2 _ rfl
      have zX3 := hX.2 3 _ rfl
      have zY0 := hY.2 0 _ rfl
      have zY1 := hY.2 1 _ rfl
      have zY2 := hY.2 2 _ rfl
      have zY3 := hY.2 3 _ rfl
      go_wp2_with fail
      refine (RM2.out _).mono ?_
      rintro e' wn ⟨rfl, hb⟩
      replace hA := hA.below hb
      replace hX := hX.below hb
      replace hY := hY.below hb
      replace hB := then_ hB hb
      clear hb zA0 zA1 zA2 zA3 zA4 zA5 zA6 zX0 zX1 zX2 zX3 zY0 zY1 zY2 zY3
      have zA0 := hA.2 0 _ rfl
      have zA1 := hA.2 1 _ rfl
      have zA2 := hA.2 2 _ rfl
      have zA3 := hA.2 3 _ rfl
      have zA4 := hA.2 4 _ rfl
      have zA5 := hA.2 5 _ rfl
      have zA6 := hA.2 6 _ rfl
      have zX0 := hX.2 0 _ rfl
      have zX1 := hX.2 1 _ rfl
      have zX2 := hX.2 2 _ rfl
      have zX3 := hX.2 3 _ rfl
      have zY0 := hY.2 0 _ rfl
      have zY1 := hY.2 1 _ rfl
      have zY2 := hY.2 2 _ rfl
      have zY3 := hY.2 3 _ rfl
      go_wp2_with fail
      go_ret
      exact ⟨rfl, hB⟩
    · have t1 : (x.ta == yv) = false := by simpa using (Ne.symm h1)
      clear h1 key
      simp only [Option.getD_some, Option.isSome_some, Option.getD_none, Option.isSome_none] at RD RR
      have zA0 := hA.2 0 _ rfl
      have zA1 := hA.2 1 _ rfl
      have zA2 := hA.2 2 _ rfl
      have zA3 := hA.2 3 _ rfl
      have zA4 := hA.2 4 _ rfl
      have zA5 := hA.2 5 _ rfl
      have zA6 := hA.2 6 _ rfl
      have zX0 := hX.2 0 _ rfl
      have zX1 := hX.2 1 _ rfl
      have zX2 := hX.2 2 _ rfl
      have zX3 := hX.2 3 _ rfl
      have zY0 := hY.2 0 _ rfl
      have zY1 := hY.2 1 _ rfl
      have zY2 := hY.2 2 _ rfl
      have zY3 := hY.2 3 _ rfl
      go_wp2_with fail
      refine (RD.out _).mono ?_
      rintro e' wr ⟨rfl, hb⟩
      replace hA := hA.below hb
      replace hX := hX.below hb
      replace hY := hY.below hb
      replace hB := then_ hB hb
      clear hb zA0 zA1 zA2 zA3 zA4 zA5 zA6 zX0 zX1 zX2 zX3 zY0 zY1 zY2 zY3
      have zA0 := hA.2 0 _ rfl
      have zA1 := hA.2 1 _ rfl
      have zA2 := hA.2 2 _ rfl
      have zA3 := hA.2 3 _ rfl
      have zA4 := hA.2 4 _ rfl
      have zA5 := hA.2 5 _ rfl
      have zA6 := hA.2 6 _ rfl
      have zX0 := hX.2 0 _ rfl
      have zX1 := hX.2 1 _ rfl
      have zX2 := hX.2 2 _ rfl
      have zX3 := hX.2 3 _ rfl
      have zY0 := hY.2 0 _ rfl
      have zY1 := hY.2 1 _ rfl
      have zY2 := hY.2 2 _ rfl
      have zY3 := hY.2 3 _ rfl
      go_wp2_with fail
      refine (RR.out _).mono ?_
      rintro e' wq ⟨rfl, hb⟩
      replace hA := hA.below hb
      replace hX := hX.below hb
      replace hY := hY.below hb
      replace hB := then_ hB hb
      clear hb zA0 zA1 zA2 zA3 zA4 zA5 zA6 zX0 zX1 zX2 zX3 zY0 zY1 zY2 zY3
      have zA0 := hA.2 0 _ rfl
      have zA1 := hA.2 1 _ rfl
      have zA2 := hA.2 2 _ rfl
      have zA3 := hA.2 3 _ rfl
      have zA4 := hA.2 4 _ rfl
      have zA5 := hA.2 5 _ rfl
      have zA6 := hA.2 6 _ rfl
      have zX0 := hX.2 0 _ rfl
      have zX1 := hX.2 1 _ rfl
      have zX2 := hX.2 2 _ rfl
      have zX3 := hX.2 3 _ rfl
      have zY0 := hY.2 0 _ rfl
      have zY1 := hY.2 1 _ rfl
      have zY2 := hY.2 2 _ rfl
      have zY3 := hY.2 3 _ rfl
      go_wp2_with fail
      refine (RM.out _).mono ?_
      rintro e' wm ⟨rfl, hb⟩
      replace hA := hA.below hb
      replace hX := hX.below hb
      replace hY := hY.below hb
      replace hB := then_ hB hb
      clear hb zA0 zA1 zA2 zA3 zA4 zA5 zA6 zX0 zX1 zX2 zX3 zY0 zY1 zY2 zY3
      have zA0 := hA.2 0 _ rfl
      have zA1 := hA.2 1 _ rfl
      have zA2 := hA.2 2 _ rfl
      have zA3 := hA.2 3 _ rfl
      have zA4 := hA.2 4 _ rfl
      have zA5 := hA.2 5 _ rfl
      have zA6 := hA.2 6 _ rfl
      have zX0 := hX.2 0 _ rfl
      have zX1 := hX.2 1 _ rfl
      have zX2 := hX.2 2 _ rfl
      have zX3 := hX.2 3 _ rfl
      have zY0 := hY.2 0 _ rfl
      have zY1 := hY.2 1 _ rfl
      have zY2 := hY.2 2 _ rfl
      have zY3 := hY.2 3 _ rfl
      go_wp2_with fail
      refine (RM2.out _).mono ?_
      rintro e' wn ⟨rfl, hb⟩
      replace hA := hA.below hb
      replace hX := hX.below hb
      replace hY := hY.below hb
      replace hB := then_ hB hb
      clear hb zA0 zA1 zA2 zA3 zA4 zA5 zA6 zX0 zX1 zX2 zX3 zY0 zY1 zY2 zY3
      have zA0 := hA.2 0 _ rfl
      have zA1 := hA.2 1 _ rfl
      have zA2 := hA.2 2 _ rfl
      have zA3 := hA.2 3 _ rfl
      have zA4 := hA.2 4 _ rfl
      have zA5 := hA.2 5 _ rfl
      have zA6 := hA.2 6 _ rfl
      have zX0 := hX.2 0 _ rfl
      have zX1 := hX.2 1 _ rfl
      have zX2 := hX.2 2 _ rfl
      have zX3 := hX.2 3 _ rfl
      have zY0 := hY.2 0 _ rfl
      have zY1 := hY.2 1 _ rfl
      have zY2 := hY.2 2 _ rfl
      have zY3 := hY.2 3 _ rfl
      go_wp2_with fail
      go_ret
      exact ⟨rfl, hB⟩
  · obtain ⟨yv, hyv⟩ : ∃ yv, yv = (x.tp + dd) % 65536 := ⟨_, rfl⟩
    have yv1 : 0 ≤ yv := by omega
    have yv2 : yv < 65536 := by omega
    obtain ⟨y, hy⟩ : ∃ y : Fl, y = ⟨x.a, x.p, x.ta, yv⟩ := ⟨_, rfl⟩
    have hYI : y.I := by
      rw [hy]
      obtain ⟨i1, i2, i3, i4⟩ := hI
      refine ⟨?_, ?_, ?_, ?_⟩ <;> first | exact i1 | exact i2 | exact i3 | exact i4 | (exact ⟨by show _ ≤ yv; omega, by show yv ≤ _; omega⟩)
    obtain ⟨c, hc⟩ : ∃ c, c = cok (tB true) r.c (kdB true) y s (r.e % 4) := ⟨_, rfl⟩
    obtain ⟨d, hd⟩ : ∃ d, d = cok (tB false) r.c (kdB false) y s (r.e % 4) := ⟨_, rfl⟩
    have MK := fun w => re_i64 (make_b true r y s hYI wb w) hc.symm
    have MK2 := fun w => re_i64 (make_b false r y s hYI wb w) hd.symm
    have RM := fun w => re_i64 (rmake_b true r y s hYI wb w) hc.symm
    have RM2 := fun w => re_i64 (rmake_b false r y s hYI wb w) hd.symm
    have RD := fun w => read_b true r x c hI hE.1 w
    have RR := fun w => rread_b true r x c hI hE.1 w
    have hsame : yv = x.tp → readC (tB true) r (kdB true) x c = some s := fun h => by
      have hyx : y = x := by rw [hy, h]
      rw [hc, hyx]
      exact read_cok (tB true) r r.c (kdB true) x s (r.e % 4) (tB_T true) wb (by omega) (keyOf_now r)
    generalize readC (tB true) r (kdB true) x c = o at *
    replace hsame := hid hsame
    rw [hy] at MK MK2 RM RM2
    clear hc hd hy hYI y
    unfold rgV flV rdO kdB at *
    simp only [if_true, Bool.false_eq_true, if_false] at *
    replace MK := hid MK
    replace MK2 := hid MK2
    replace RM := hid RM
    replace RM2 := hid RM2
    replace RD := hid RD
    replace RR := hid RR
    have HYV := hid hyv
    clear hyv
    go_enter Try.func3, Try.ntmps3
    go_wp2_with fail
    refine (known_any _).mono ?_
    rintro e' w ⟨rfl, hb1⟩
    have B := hb1
    clear hb1
    go_wp2_with fail
    refine (LR.out _).mono ?_
    rintro e' w1 ⟨rfl, hb⟩
    replace B := then_ B hb
    clear hb
    go_wp2_with fail
    have CA := Ce.made (w := w1) (l := [.int .i64 r.e, .int .u64 r.p.a, .int .u64 r.p.b, .int .u64 r.c.a, .int .u64 r.c.b, .int .u64 r.n.a, .int .u64 r.n.b]) (T := 27) (g := w1.heap.size) rfl
    replace B := B.alloc B.size (.cells #[.int .i64 r.e, .int .u64 r.p.a, .int .u64 r.p.b, .int .u64 r.c.a, .int .u64 r.c.b, .int .u64 r.n.a, .int .u64 r.n.b] 27)
    generalize w1.alloc (.cells #[.int .i64 r.e, .int .u64 r.p.a, .int .u64 r.p.b, .int .u64 r.c.a, .int .u64 r.c.b, .int .u64 r.n.a, .int .u64 r.n.b] 27) = w2 at *
    generalize w1.heap.size = A at *
    refine (LF.out _).mono ?_
    rintro e' w3 ⟨rfl, hb⟩
    replace B := then_ B hb
    replace CA := CA.below hb
    clear hb
    go_wp2_with fail
    refine (WS4.out _).mono ?_
    rintro e' w4 ⟨rfl, rfl⟩
    go_wp2_with fail
    rw [← HYV.out]
    have hA := ((CA.alloc (.cells #[.int .i64 x.a, .int .i64 x.p, .int .i64 x.ta, .int .i64 x.tp] 30)).alloc (.cells #[.int .i64 x.a, .int .i64 x.p, .int .i64 x.ta, .int .i64 yv] 30)).cr
    have hX := ((Ce.made (w := w3) (l := [.int .i64 x.a, .int .i64 x.p, .int .i64 x.ta, .int .i64 x.tp]) (T := 30) (g := w3.heap.size) rfl).alloc (.cells #[.int .i64 x.a, .int .i64 x.p, .int .i64 x.ta, .int .i64 yv] 30)).cr
    have hY := (Ce.made (w := w3.alloc (.cells #[.int .i64 x.a, .int .i64 x.p, .int .i64 x.ta, .int .i64 x.tp] 30)) (l := [.int .i64 x.a, .int .i64 x.p, .int .i64 x.ta, .int .i64 yv]) (T := 30) (g := w3.heap.size + 1) (by simp)).cr
    have hB := (B.alloc B.size (.cells #[.int .i64 x.a, .int .i64 x.p, .int .i64 x.ta, .int .i64 x.tp] 30)).alloc (Below.size (B.alloc B.size (.cells #[.int .i64 x.a, .int .i64 x.p, .int .i64 x.ta, .int .i64 x.tp] 30))) (.cells #[.int .i64 x.a, .int .i64 x.p, .int .i64 x.ta, .int .i64 yv] 30)
    change Cr ((w3.alloc (.cells #[.int .i64 x.a, .int .i64 x.p, .int .i64 x.ta, .int .i64 x.tp] 30)).alloc (.cells #[.int .i64 x.a, .int .i64 x.p, .int .i64 x.ta, .int .i64 yv] 30)) _ _ at hX
    change Cr ((w3.alloc (.cells #[.int .i64 x.a, .int .i64 x.p, .int .i64 x.ta, .int .i64 x.tp] 30)).alloc (.cells #[.int .i64 x.a, .int .i64 x.p, .int .i64 x.ta, .int .i64 yv] 30)) _ _ at hY
    clear CA B
    generalize (w3.alloc (.cells #[.int .i64 x.a, .int .i64 x.p, .int .i64 x.ta, .int .i64 x.tp] 30)).alloc (.cells #[.int .i64 x.a, .int .i64 x.p, .int .i64 x.ta, .int .i64 yv] 30) = w5 at *
    generalize w3.heap.size + 1 = Y at *
    generalize w3.heap.size = X at *
    refine (WS.out _).mono ?_
    rintro e' w6 ⟨rfl, rfl⟩
    clear HYV hm
    go_wp2_with fail
    refine wp_region_held_drew (S := fun w' => Cr w' A [.int .i64 r.e, .int .u64 r.p.a, .int .u64 r.p.b, .int .u64 r.c.a, .int .u64 r.c.b, .int .u64 r.n.a, .int .u64 r.n.b] ∧ Cr w' X [.int .i64 x.a, .int .i64 x.p, .int .i64 x.ta, .int .i64 x.tp] ∧ Cr w' Y [.int .i64 x.a, .int .i64 x.p, .int .i64 x.ta, .int .i64 yv] ∧ Below W.heap.size W w') (by kernel_rfl) ?_ (fun hHeld => ?_)
    · exact ⟨hA, hX, hY, hB.drew⟩
    refine tk 0 (v := ?_) rfl (by kernel_rfl) (by kernel_rfl) (by kernel_rfl) (fun _ _ _ h => h) rfl ?_ (by assumption) ?_; rotate_left; (focus (intro w hSw; (try dsimp only at hSw); obtain ⟨hA, hX, hY, hB⟩ := hSw; have zA0 := hA.2 0 _ rfl; have zA1 := hA.2 1 _ rfl; have zA2 := hA.2 2 _ rfl; have zA3 := hA.2 3 _ rfl; have zA4 := hA.2 4 _ rfl; have zA5 := hA.2 5 _ rfl; have zA6 := hA.2 6 _ rfl; have zX0 := hX.2 0 _ rfl; have zX1 := hX.2 1 _ rfl; have zX2 := hX.2 2 _ rfl; have zX3 := hX.2 3 _ rfl; have zY0 := hY.2 0 _ rfl; have zY1 := hY.2 1 _ rfl; have zY2 := hY.2 2 _ rfl; have zY3 := hY.2 3 _ rfl; go_simp; (try with_reducible rfl))); (try simp only [Act.put, List.setIfInBounds_toArray, List.set_cons_zero, List.set_cons_succ])
    refine tk 1 (v := ?_) rfl (by kernel_rfl) (by kernel_rfl) (by kernel_rfl) (fun _ _ _ h => h) rfl ?_ (by assumption) ?_; rotate_left; (focus (intro w hSw; (try dsimp only at hSw); obtain ⟨hA, hX, hY, hB⟩ := hSw; have zA0 := hA.2 0 _ rfl; have zA1 := hA.2 1 _ rfl; have zA2 := hA.2 2 _ rfl; have zA3 := hA.2 3 _ rfl; have zA4 := hA.2 4 _ rfl; have zA5 := hA.2 5 _ rfl; have zA6 := hA.2 6 _ rfl; have zX0 := hX.2 0 _ rfl; have zX1 := hX.2 1 _ rfl; have zX2 := hX.2 2 _ rfl; have zX3 := hX.2 3 _ rfl; have zY0 := hY.2 0 _ rfl; have zY1 := hY.2 1 _ rfl; have zY2 := hY.2 2 _ rfl; have zY3 := hY.2 3 _ rfl; go_simp; (try with_reducible rfl))); (try simp only [Act.put, List.setIfInBounds_toArray, List.set_cons_zero, List.set_cons_succ])
    refine tk 2 (v := ?_) rfl (by kernel_rfl) (by kernel_rfl) (by kernel_rfl) (fun _ _ _ h => h) rfl ?_ (by assumption) ?_; rotate_left; (focus (intro w hSw; (try dsimp only at hSw); obtain ⟨hA, hX, hY, hB⟩ := hSw; have zA0 := hA.2 0 _ rfl; have zA1 := hA.2 1 _ rfl; have zA2 := hA.2 2 _ rfl; have zA3 := hA.2 3 _ rfl; have zA4 := hA.2 4 _ rfl; have zA5 := hA.2 5 _ rfl; have zA6 := hA.2 6 _ rfl; have zX0 := hX.2 0 _ rfl; have zX1 := hX.2 1 _ rfl; have zX2 := hX.2 2 _ rfl; have zX3 := hX.2 3 _ rfl; have zY0 := hY.2 0 _ rfl; have zY1 := hY.2 1 _ rfl; have zY2 := hY.2 2 _ rfl; have zY3 := hY.2 3 _ rfl; go_simp; (try with_reducible rfl))); (try simp only [Act.put, List.setIfInBounds_toArray, List.set_cons_zero, List.set_cons_succ])
    refine tk 4 (v := ?_) rfl (by kernel_rfl) (by kernel_rfl) (by kernel_rfl) (fun _ _ _ h => h) rfl ?_ (by assumption) ?_; rotate_left; (focus (intro w hSw; (try dsimp only at hSw); obtain ⟨hA, hX, hY, hB⟩ := hSw; have zA0 := hA.2 0 _ rfl; have zA1 := hA.2 1 _ rfl; have zA2 := hA.2 2 _ rfl; have zA3 := hA.2 3 _ rfl; have zA4 := hA.2 4 _ rfl; have zA5 := hA.2 5 _ rfl; have zA6 := hA.2 6 _ rfl; have zX0 := hX.2 0 _ rfl; have zX1 := hX.2 1 _ rfl; have zX2 := hX.2 2 _ rfl; have zX3 := hX.2 3 _ rfl; have zY0 := hY.2 0 _ rfl; have zY1 := hY.2 1 _ rfl; have zY2 := hY.2 2 _ rfl; have zY3 := hY.2 3 _ rfl; go_simp; (try with_reducible rfl))); (try simp only [Act.put, List.setIfInBounds_toArray, List.set_cons_zero, List.set_cons_succ])
    refine tk 5 (v := ?_) rfl (by kernel_rfl) (by kernel_rfl) (by kernel_rfl) (fun _ _ _ h => h) rfl ?_ (by assumption) ?_; rotate_left; (focus (intro w hSw; (try dsimp only at hSw); obtain ⟨hA, hX, hY, hB⟩ := hSw; have zA0 := hA.2 0 _ rfl; have zA1 := hA.2 1 _ rfl; have zA2 := hA.2 2 _ rfl; have zA3 := hA.2 3 _ rfl; have zA4 := hA.2 4 _ rfl; have zA5 := hA.2 5 _ rfl; have zA6 := hA.2 6 _ rfl; have zX0 := hX.2 0 _ rfl; have zX1 := hX.2 1 _ rfl; have zX2 := hX.2 2 _ rfl; have zX3 := hX.2 3 _ rfl; have zY0 := hY.2 0 _ rfl; have zY1 := hY.2 1 _ rfl; have zY2 := hY.2 2 _ rfl; have zY3 := hY.2 3 _ rfl; go_simp; (try with_reducible rfl))); (try simp only [Act.put, List.setIfInBounds_toArray, List.set_cons_zero, List.set_cons_succ])
    refine tk 6 (v := ?_) rfl (by kernel_rfl) (by kernel_rfl) (by kernel_rfl) (fun _ _ _ h => h) rfl ?_ (by assumption) ?_; rotate_left; (focus (intro w hSw; (try dsimp only at hSw); obtain ⟨hA, hX, hY, hB⟩ := hSw; have zA0 := hA.2 0 _ rfl; have zA1 := hA.2 1 _ rfl; have zA2 := hA.2 2 _ rfl; have zA3 := hA.2 3 _ rfl; have zA4 := hA.2 4 _ rfl; have zA5 := hA.2 5 _ rfl; have zA6 := hA.2 6 _ rfl; have zX0 := hX.2 0 _ rfl; have zX1 := hX.2 1 _ rfl; have zX2 := hX.2 2 _ rfl; have zX3 := hX.2 3 _ rfl; have zY0 := hY.2 0 _ rfl; have zY1 := hY.2 1 _ rfl; have zY2 := hY.2 2 _ rfl; have zY3 := hY.2 3 _ rfl; go_simp; (try with_reducible rfl))); (try simp only [Act.put, List.setIfInBounds_toArray, List.set_cons_zero, List.set_cons_succ])
    refine only 3 rfl (by kernel_rfl) rfl (fun K hK => ?_)
    go_simp
    refine (MK.out _).mono ?_
    rintro e' wa ⟨rfl, ha⟩
    try go_wp2_with fail
    refine hK.out _ _ ?_ (fun hHeld2 => ?_)
    · (obtain ⟨hA, hX, hY, hB⟩ := hHeld; exact ⟨hA.below ha, hX.below ha, hY.below ha, then_ hB ha⟩)
    clear hK hHeld
    try simp only [Act.put, List.setIfInBounds_toArray, List.set_cons_zero, List.set_cons_succ]
    have hHeld := hHeld2
    clear hHeld2
    refine only 7 rfl (by kernel_rfl) rfl (fun K hK => ?_)
    go_simp
    refine (MK2.out _).mono ?_
    rintro e' wb_ ⟨rfl, hb_⟩
    try go_wp2_with fail
    refine hK.out _ _ ?_ (fun hHeld2 => ?_)
    · (obtain ⟨hA, hX, hY, hB⟩ := hHeld; exact ⟨hA.below hb_, hX.below hb_, hY.below hb_, then_ hB hb_⟩)
    clear hK hHeld
    try simp only [Act.put, List.setIfInBounds_toArray, List.set_cons_zero, List.set_cons_succ]
    have hHeld := hHeld2
    clear hHeld2
    refine tk 8 (v := ?_) rfl (by kernel_rfl) (by kernel_rfl) (by kernel_rfl) (fun _ _ _ h => h) rfl ?_ (by assumption) ?_; rotate_left; (focus (intro w hSw; (try dsimp only at hSw); obtain ⟨hA, hX, hY, hB⟩ := hSw; have zA0 := hA.2 0 _ rfl; have zA1 := hA.2 1 _ rfl; have zA2 := hA.2 2 _ rfl; have zA3 := hA.2 3 _ rfl; have zA4 := hA.2 4 _ rfl; have zA5 := hA.2 5 _ rfl; have zA6 := hA.2 6 _ rfl; have zX0 := hX.2 0 _ rfl; have zX1 := hX.2 1 _ rfl; have zX2 := hX.2 2 _ rfl; have zX3 := hX.2 3 _ rfl; have zY0 := hY.2 0 _ rfl; have zY1 := hY.2 1 _ rfl; have zY2 := hY.2 2 _ rfl; have zY3 := hY.2 3 _ rfl; go_simp; (try with_reducible rfl))); (try simp only [Act.put, List.setIfInBounds_toArray, List.set_cons_zero, List.set_cons_succ])
    refine tk 9 (v := ?_) rfl (by kernel_rfl) (by kernel_rfl) (by kernel_rfl) (fun _ _ _ h => h) rfl ?_ (by assumption) ?_; rotate_left; (focus (intro w hSw; (try dsimp only at hSw); obtain ⟨hA, hX, hY, hB⟩ := hSw; have zA0 := hA.2 0 _ rfl; have zA1 := hA.2 1 _ rfl; have zA2 := hA.2 2 _ rfl; have zA3 := hA.2 3 _ rfl; have zA4 := hA.2 4 _ rfl; have zA5 := hA.2 5 _ rfl; have zA6 := hA.2 6 _ rfl; have zX0 := hX.2 0 _ rfl; have zX1 := hX.2 1 _ rfl; have zX2 := hX.2 2 _ rfl; have zX3 := hX.2 3 _ rfl; have zY0 := hY.2 0 _ rfl; have zY1 := hY.2 1 _ rfl; have zY2 := hY.2 2 _ rfl; have zY3 := hY.2 3 _ rfl; go_simp; (try with_reducible rfl))); (try simp only [Act.put, List.setIfInBounds_toArray, List.set_cons_zero, List.set_cons_succ])
    refine wpAnyH_done (by kernel_rfl) ?_ _
    obtain ⟨hA, hX, hY, hB⟩ := hHeld
    have key : Hid ((yv = x.tp ∧ o = some s) ∨ (yv ≠ x.tp ∧ o = none) ∨ (yv ≠ x.tp ∧ ∃ t, o = some t)) := hid (by
      by_cases h : yv = x.tp
      · exact .inl ⟨h, hsame.out h⟩
      · cases o with
        | none => exact .inr (.inl ⟨h, rfl⟩)
        | some t => exact .inr (.inr ⟨h, t, rfl⟩))
    clear hsame
    rcases key.out with ⟨h1, rfl⟩ | ⟨h1, rfl⟩ | ⟨h1, t, rfl⟩
    · have t1 : (x.tp == yv) = true := by rw [h1]; simp
      clear h1 key
      simp only [Option.getD_some, Option.isSome_some, Option.getD_none, Option.isSome_none] at RD RR
      have zA0 := hA.2 0 _ rfl
      have zA1 := hA.2 1 _ rfl
      have zA2 := hA.2 2 _ rfl
      have zA3 := hA.2 3 _ rfl
      have zA4 := hA.2 4 _ rfl
      have zA5 := hA.2 5 _ rfl
      have zA6 := hA.2 6 _ rfl
      have zX0 := hX.2 0 _ rfl
      have zX1 := hX.2 1 _ rfl
      have zX2 := hX.2 2 _ rfl
      have zX3 := hX.2 3 _ rfl
      have zY0 := hY.2 0 _ rfl
      have zY1 := hY.2 1 _ rfl
      have zY2 := hY.2 2 _ rfl
      have zY3 := hY.2 3 _ rfl
      go_wp2_with fail
      refine (RD.out _).mono ?_
      rintro e' wr ⟨rfl, hb⟩
      replace hA := hA.below hb
      replace hX := hX.below hb
      replace hY := hY.below hb
      replace hB := then_ hB hb
      clear hb zA0 zA1 zA2 zA3 zA4 zA5 zA6 zX0 zX1 zX2 zX3 zY0 zY1 zY2 zY3
      have zA0 := hA.2 0 _ rfl
      have zA1 := hA.2 1 _ rfl
      have zA2 := hA.2 2 _ rfl
      have zA3 := hA.2 3 _ rfl
      have zA4 := hA.2 4 _ rfl
      have zA5 := hA.2 5 _ rfl
      have zA6 := hA.2 6 _ rfl
      have zX0 := hX.2 0 _ rfl
      have zX1 := hX.2 1 _ rfl
      have zX2 := hX.2 2 _ rfl
      have zX3 := hX.2 3 _ rfl
      have zY0 := hY.2 0 _ rfl
      have zY1 := hY.2 1 _ rfl
      have zY2 := hY.2 2 _ rfl
      have zY3 := hY.2 3 _ rfl
      go_wp2_with fail
      refine (RR.out _).mono ?_
      rintro e' wq ⟨rfl, hb⟩
      replace hA := hA.below hb
      replace hX := hX.below hb
      replace hY := hY.below hb
      replace hB := then_ hB hb
      clear hb zA0 zA1 zA2 zA3 zA4 zA5 zA6 zX0 zX1 zX2 zX3 zY0 zY1 zY2 zY3
      have zA0 := hA.2 0 _ rfl
      have zA1 := hA.2 1 _ rfl
      have zA2 := hA.2 2 _ rfl
      have zA3 := hA.2 3 _ rfl
      have zA4 := hA.2 4 _ rfl
      have zA5 := hA.2 5 _ rfl
      have zA6 := hA.2 6 _ rfl
      have zX0 := hX.2 0 _ rfl
      have zX1 := hX.2 1 _ rfl
      have zX2 := hX.2 2 _ rfl
      have zX3 := hX.2 3 _ rfl
      have zY0 := hY.2 0 _ rfl
      have zY1 := hY.2 1 _ rfl
      have zY2 := hY.2 2 _ rfl
      have zY3 := hY.2 3 _ rfl
      go_wp2_with fail
      refine (RM.out _).mono ?_
      rintro e' wm ⟨rfl, hb⟩
      replace hA := hA.below hb
      replace hX := hX.below hb
      replace hY := hY.below hb
      replace hB := then_ hB hb
      clear hb zA0 zA1 zA2 zA3 zA4 zA5 zA6 zX0 zX1 zX2 zX3 zY0 zY1 zY2 zY3
      have zA0 := hA.2 0 _ rfl
      have zA1 := hA.2 1 _ rfl
      have zA2 := hA.2 2 _ rfl
      have zA3 := hA.2 3 _ rfl
      have zA4 := hA.2 4 _ rfl
      have zA5 := hA.2 5 _ rfl
      have zA6 := hA.2 6 _ rfl
      have zX0 := hX.2 0 _ rfl
      have zX1 := hX.2 1 _ rfl
      have zX2 := hX.2 2 _ rfl
      have zX3 := hX.2 3 _ rfl
      have zY0 := hY.2 0 _ rfl
      have zY1 := hY.2 1 _ rfl
      have zY2 := hY.2 2 _ rfl
      have zY3 := hY.2 3 _ rfl
      go_wp2_with fail
      refine (RM2.out _).mono ?_
      rintro e' wn ⟨rfl, hb⟩
      replace hA := hA.below hb
      replace hX := hX.below hb
      replace hY := hY.below hb
      replace hB := then_ hB hb
      clear hb zA0 zA1 zA2 zA3 zA4 zA5 zA6 zX0 zX1 zX2 zX3 zY0 zY1 zY2 zY3
      have zA0 := hA.2 0 _ rfl
      have zA1 := hA.2 1 _ rfl
      have zA2 := hA.2 2 _ rfl
      have zA3 := hA.2 3 _ rfl
      have zA4 := hA.2 4 _ rfl
      have zA5 := hA.2 5 _ rfl
      have zA6 := hA.2 6 _ rfl
      have zX0 := hX.2 0 _ rfl
      have zX1 := hX.2 1 _ rfl
      have zX2 := hX.2 2 _ rfl
      have zX3 := hX.2 3 _ rfl
      have zY0 := hY.2 0 _ rfl
      have zY1 := hY.2 1 _ rfl
      have zY2 := hY.2 2 _ rfl
      have zY3 := hY.2 3 _ rfl
      go_wp2_with fail
      go_ret
      exact ⟨rfl, hB⟩
    · have t1 : (x.tp == yv) = false := by simpa using (Ne.symm h1)
      clear h1 key
      simp only [Option.getD_some, Option.isSome_some, Option.getD_none, Option.isSome_none] at RD RR
      have zA0 := hA.2 0 _ rfl
      have zA1 := hA.2 1 _ rfl
      have zA2 := hA.2 2 _ rfl
      have zA3 := hA.2 3 _ rfl
      have zA4 := hA.2 4 _ rfl
      have zA5 := hA.2 5 _ rfl
      have zA6 := hA.2 6 _ rfl
      have zX0 := hX.2 0 _ rfl
      have zX1 := hX.2 1 _ rfl
      have zX2 := hX.2 2 _ rfl
      have zX3 := hX.2 3 _ rfl
      have zY0 := hY.2 0 _ rfl
      have zY1 := hY.2 1 _ rfl
      have zY2 := hY.2 2 _ rfl
      have zY3 := hY.2 3 _ rfl
      go_wp2_with fail
      refine (RD.out _).mono ?_
      rintro e' wr ⟨rfl, hb⟩
      replace hA := hA.below hb
      replace hX := hX.below hb
      replace hY := hY.below hb
      replace hB := then_ hB hb
      clear hb zA0 zA1 zA2 zA3 zA4 zA5 zA6 zX0 zX1 zX2 zX3 zY0 zY1 zY2 zY3
      have zA0 := hA.2 0 _ rfl
      have zA1 := hA.2 1 _ rfl
      have zA2 := hA.2 2 _ rfl
      have zA3 := hA.2 3 _ rfl
      have zA4 := hA.2 4 _ rfl
      have zA5 := hA.2 5 _ rfl
      have zA6 := hA.2 6 _ rfl
      have zX0 := hX.2 0 _ rfl
      have zX1 := hX.2 1 _ rfl
      have zX2 := hX.2 2 _ rfl
      have zX3 := hX.2 3 _ rfl
      have zY0 := hY.2 0 _ rfl
      have zY1 := hY.2 1 _ rfl
      have zY2 := hY.2 2 _ rfl
      have zY3 := hY.2 3 _ rfl
      go_wp2_with fail
      refine (RR.out _).mono ?_
      rintro e' wq ⟨rfl, hb⟩
      replace hA := hA.below hb
      replace hX := hX.below hb
      replace hY := hY.below hb
      replace hB := then_ hB hb
      clear hb zA0 zA1 zA2 zA3 zA4 zA5 zA6 zX0 zX1 zX2 zX3 zY0 zY1 zY2 zY3
      have zA0 := hA.2 0 _ rfl
      have zA1 := hA.2 1 _ rfl
      have zA2 := hA.2 2 _ rfl
      have zA3 := hA.2 3 _ rfl
      have zA4 := hA.2 4 _ rfl
      have zA5 := hA.2 5 _ rfl
      have zA6 := hA.2 6 _ rfl
      have zX0 := hX.2 0 _ rfl
      have zX1 := hX.2 1 _ rfl
      have zX2 := hX.2 2 _ rfl
      have zX3 := hX.2 3 _ rfl
      have zY0 := hY.2 0 _ rfl
      have zY1 := hY.2 1 _ rfl
      have zY2 := hY.2 2 _ rfl
      have zY3 := hY.2 3 _ rfl
      go_wp2_with fail
      refine (RM.out _).mono ?_
      rintro e' wm ⟨rfl, hb⟩
      replace hA := hA.below hb
      replace hX := hX.below hb
      replace hY := hY.below hb
      replace hB := then_ hB hb
      clear hb zA0 zA1 zA2 zA3 zA4 zA5 zA6 zX0 zX1 zX2 zX3 zY0 zY1 zY2 zY3
      have zA0 := hA.2 0 _ rfl
      have zA1 := hA.2 1 _ rfl
      have zA2 := hA.2 2 _ rfl
      have zA3 := hA.2 3 _ rfl
      have zA4 := hA.2 4 _ rfl
      have zA5 := hA.2 5 _ rfl
      have zA6 := hA.2 6 _ rfl
      have zX0 := hX.2 0 _ rfl
      have zX1 := hX.2 1 _ rfl
      have zX2 := hX.2 2 _ rfl
      have zX3 := hX.2 3 _ rfl
      have zY0 := hY.2 0 _ rfl
      have zY1 := hY.2 1 _ rfl
      have zY2 := hY.2 2 _ rfl
      have zY3 := hY.2 3 _ rfl
      go_wp2_with fail
      refine (RM2.out _).mono ?_
      rintro e' wn ⟨rfl, hb⟩
      replace hA := hA.below hb
      replace hX := hX.below hb
      replace hY := hY.below hb
      replace hB := then_ hB hb
      clear hb zA0 zA1 zA2 zA3 zA4 zA5 zA6 zX0 zX1 zX2 zX3 zY0 zY1 zY2 zY3
      have zA0 := hA.2 0 _ rfl
      have zA1 := hA.2 1 _ rfl
      have zA2 := hA.2 2 _ rfl
      have zA3 := hA.2 3 _ rfl
      have zA4 := hA.2 4 _ rfl
      have zA5 := hA.2 5 _ rfl
      have zA6 := hA.2 6 _ rfl
      have zX0 := hX.2 0 _ rfl
      have zX1 := hX.2 1 _ rfl
      have zX2 := hX.2 2 _ rfl
      have zX3 := hX.2 3 _ rfl
      have zY0 := hY.2 0 _ rfl
      have zY1 := hY.2 1 _ rfl
      have zY2 := hY.2 2 _ rfl
      have zY3 := hY.2 3 _ rfl
      go_wp2_with fail
      go_ret
      exact ⟨rfl, hB⟩
    · have t1 : (x.tp == yv) = false := by simpa using (Ne.symm h1)
      clear h1 key
      simp only [Option.getD_some, Option.isSome_some, Option.getD_none, Option.isSome_none] at RD RR
      have zA0 := hA.2 0 _ rfl
      have zA1 := hA.2 1 _ rfl
      have zA2 := hA.2 2 _ rfl
      have zA3 := hA.2 3 _ rfl
      have zA4 := hA.2 4 _ rfl
      have zA5 := hA.2 5 _ rfl
      have zA6 := hA.2 6 _ rfl
      have zX0 := hX.2 0 _ rfl
      have zX1 := hX.2 1 _ rfl
      have zX2 := hX.2 2 _ rfl
      have zX3 := hX.2 3 _ rfl
      have zY0 := hY.2 0 _ rfl
      have zY1 := hY.2 1 _ rfl
      have zY2 := hY.2 2 _ rfl
      have zY3 := hY.2 3 _ rfl
      go_wp2_with fail
      refine (RD.out _).mono ?_
      rintro e' wr ⟨rfl, hb⟩
      replace hA := hA.below hb
      replace hX := hX.below hb
      replace hY := hY.below hb
      replace hB := then_ hB hb
      clear hb zA0 zA1 zA2 zA3 zA4 zA5 zA6 zX0 zX1 zX2 zX3 zY0 zY1 zY2 zY3
      have zA0 := hA.2 0 _ rfl
      have zA1 := hA.2 1 _ rfl
      have zA2 := hA.2 2 _ rfl
      have zA3 := hA.2 3 _ rfl
      have zA4 := hA.2 4 _ rfl
      have zA5 := hA.2 5 _ rfl
      have zA6 := hA.2 6 _ rfl
      have zX0 := hX.2 0 _ rfl
      have zX1 := hX.2 1 _ rfl
      have zX2 := hX.2 2 _ rfl
      have zX3 := hX.2 3 _ rfl
      have zY0 := hY.2 0 _ rfl
      have zY1 := hY.2 1 _ rfl
      have zY2 := hY.2 2 _ rfl
      have zY3 := hY.2 3 _ rfl
      go_wp2_with fail
      refine (RR.out _).mono ?_
      rintro e' wq ⟨rfl, hb⟩
      replace hA := hA.below hb
      replace hX := hX.below hb
      replace hY := hY.below hb
      replace hB := then_ hB hb
      clear hb zA0 zA1 zA2 zA3 zA4 zA5 zA6 zX0 zX1 zX2 zX3 zY0 zY1 zY2 zY3
      have zA0 := hA.2 0 _ rfl
      have zA1 := hA.2 1 _ rfl
      have zA2 := hA.2 2 _ rfl
      have zA3 := hA.2 3 _ rfl
      have zA4 := hA.2 4 _ rfl
      have zA5 := hA.2 5 _ rfl
      have zA6 := hA.2 6 _ rfl
      have zX0 := hX.2 0 _ rfl
      have zX1 := hX.2 1 _ rfl
      have zX2 := hX.2 2 _ rfl
      have zX3 := hX.2 3 _ rfl
      have zY0 := hY.2 0 _ rfl
      have zY1 := hY.2 1 _ rfl
      have zY2 := hY.2 2 _ rfl
      have zY3 := hY.2 3 _ rfl
      go_wp2_with fail
      refine (RM.out _).mono ?_
      rintro e' wm ⟨rfl, hb⟩
      replace hA := hA.below hb
      replace hX := hX.below hb
      replace hY := hY.below hb
      replace hB := then_ hB hb
      clear hb zA0 zA1 zA2 zA3 zA4 zA5 zA6 zX0 zX1 zX2 zX3 zY0 zY1 zY2 zY3
      have zA0 := hA.2 0 _ rfl
      have zA1 := hA.2 1 _ rfl
      have zA2 := hA.2 2 _ rfl
      have zA3 := hA.2 3 _ rfl
      have zA4 := hA.2 4 _ rfl
      have zA5 := hA.2 5 _ rfl
      have zA6 := hA.2 6 _ rfl
      have zX0 := hX.2 0 _ rfl
      have zX1 := hX.2 1 _ rfl
      have zX2 := hX.2 2 _ rfl
      have zX3 := hX.2 3 _ rfl
      have zY0 := hY.2 0 _ rfl
      have zY1 := hY.2 1 _ rfl
      have zY2 := hY.2 2 _ rfl
      have zY3 := hY.2 3 _ rfl
      go_wp2_with fail
      refine (RM2.out _).mono ?_
      rintro e' wn ⟨rfl, hb⟩
      replace hA := hA.below hb
      replace hX := hX.below hb
      replace hY := hY.below hb
      replace hB := then_ hB hb
      clear hb zA0 zA1 zA2 zA3 zA4 zA5 zA6 zX0 zX1 zX2 zX3 zY0 zY1 zY2 zY3
      have zA0 := hA.2 0 _ rfl
      have zA1 := hA.2 1 _ rfl
      have zA2 := hA.2 2 _ rfl
      have zA3 := hA.2 3 _ rfl
      have zA4 := hA.2 4 _ rfl
      have zA5 := hA.2 5 _ rfl
      have zA6 := hA.2 6 _ rfl
      have zX0 := hX.2 0 _ rfl
      have zX1 := hX.2 1 _ rfl
      have zX2 := hX.2 2 _ rfl
      have zX3 := hX.2 3 _ rfl
      have zY0 := hY.2 0 _ rfl
      have zY1 := hY.2 1 _ rfl
      have zY2 := hY.2 2 _ rfl
      have zY3 := hY.2 3 _ rfl
      go_wp2_with fail
      go_ret
      exact ⟨rfl, hB⟩

set_option maxRecDepth 100000 in
theorem lifted (os : Os) (started : os.Started) (H : Type) (enc : TypeId × Value → H) :
    ReturnsInHanded {} Try.checked os 3 .any (Rows.cookieFlowsSpec.pre6 enc Try.prog Try.f3 [] false) (Rows.cookieFlowsSpec.post enc Try.prog Try.f3 false true false false) :=
  law_step (s := Rows.cookieFlowsSpec) started (by kernel_rfl) Try.func3
    (ChangeSpec.witness6 (s := Rows.cookieFlowsSpec) (enc := enc) (C := Try.checked) false ⟨#[], #[.int .i64 0, .int .i64 0, .int .i64 0, .int .i64 0, .int .i64 0, .int .i64 0, .int .i64 0], []⟩ 8 (by kernel_rfl) (by kernel_rfl) (by kernel_rfl) (by kernel_rfl))
    rfl (by rw [Try.params3]; decide +kernel) rfl Try.underlying4
    (fun ds h => by
      rw [Try.params3] at h
      match ds, h with
      | [_, _, _, _, _, _, _], _ => rfl)
    (fun W base args ds ps hval hA hsz => by
      rw [Try.params3] at hA hval hsz
      obtain ⟨v0, vs0, d0, ds0, p0, q0, hargs, rfl, rfl, h0, r0⟩ := trodAll_cons hA
      obtain ⟨v1, vs1, d1, ds1, p1, q1, rfl, rfl, rfl, h1, r1⟩ := trodAll_cons r0
      obtain ⟨v2, vs2, d2, ds2, p2, q2, rfl, rfl, rfl, h2, r2⟩ := trodAll_cons r1
      obtain ⟨v3, vs3, d3, ds3, p3, q3, rfl, rfl, rfl, h3, r3⟩ := trodAll_cons r2
      obtain ⟨v4, vs4, d4, ds4, p4, q4, rfl, rfl, rfl, h4, r4⟩ := trodAll_cons r3
      obtain ⟨v5, vs5, d5, ds5, p5, q5, rfl, rfl, rfl, h5, r5⟩ := trodAll_cons r4
      obtain ⟨v6, vs6, d6, ds6, p6, q6, rfl, rfl, rfl, h6, r6⟩ := trodAll_cons r5
      obtain ⟨rfl, rfl, rfl⟩ := trodAll_nil r6
      obtain rfl : args = #[v0, v1, v2, v3, v4, v5, v6] := by cases args; simp_all
      obtain ⟨a0, rfl, rfl, rfl, w0⟩ := open_int Try.underlying3 (hval 0 3 v0 rfl rfl) h0
      obtain ⟨a1, rfl, rfl, rfl, w1⟩ := open_int Try.underlying3 (hval 1 3 v1 rfl rfl) h1
      obtain ⟨a2, rfl, rfl, rfl, w2⟩ := open_int Try.underlying3 (hval 2 3 v2 rfl rfl) h2
      obtain ⟨a3, rfl, rfl, rfl, w3⟩ := open_int Try.underlying3 (hval 3 3 v3 rfl rfl) h3
      obtain ⟨a4, rfl, rfl, rfl, w4⟩ := open_int Try.underlying3 (hval 4 3 v4 rfl rfl) h4
      obtain ⟨a5, rfl, rfl, rfl, w5⟩ := open_int Try.underlying3 (hval 5 3 v5 rfl rfl) h5
      obtain ⟨a6, rfl, rfl, rfl, w6⟩ := open_int Try.underlying3 (hval 6 3 v6 rfl rfl) h6
      exact walk W a0 (bounds_i64 w0) a1 (bounds_i64 w1) a2 (bounds_i64 w2) a3 (bounds_i64 w3) a4 (bounds_i64 w4) a5 (bounds_i64 w5) a6 (bounds_i64 w6))

theorem proved : Rows.CookieFlowsSaid :=
  OpenClaim.holds_of_wide 3 Try.f3 rfl rfl rfl rfl rfl rfl rfl ⟨rfl, rfl, rfl, rfl, rfl⟩ rfl rfl rfl rfl rfl (by kernel_rfl) Try.func3 (by kernel_rfl)
    (of_decide_eq_true (by kernel_rfl)) (by unfold Func.isWrapper; first | (rw [if_pos (by decide +kernel)]; kernel_rfl) | (rw [if_neg (by decide +kernel)]; exact ⟨rfl, rfl⟩))
    (fun os started H enc _ => lifted os started H enc)
end Go.Proofs.Ytfokkmemjkfifab.cookieFlows
