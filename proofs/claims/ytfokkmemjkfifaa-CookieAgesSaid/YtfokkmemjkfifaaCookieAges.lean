/- roundhouselaw5.CookieAges answers true for every epoch, number, kind, flow, slot and key's number; no condition. -/
import Derived.Test.YtfokkmemjkfifaaCr
import Derived.Deep.Cut
import Derived.Deep.CutRange
namespace Go.Proofs.Ytfokkmemjkfifaa.cookieAges
set_option linter.unusedVariables false
set_option linter.unusedSimpArgs false
open Go.RowKit Go.ChangeShapes Go.WideShapes Go.ChangeAt

set_option maxRecDepth 100000 in
set_option maxHeartbeats 20000000 in
theorem walk (W : World) (ep : Int) (rep : -9223372036854775808 ≤ ep ∧ ep ≤ 9223372036854775807)
    (a : Int) (ra : -9223372036854775808 ≤ a ∧ a ≤ 9223372036854775807) (b : Bool) (f0 : Int) (rf0 : -9223372036854775808 ≤ f0 ∧ f0 ≤ 9223372036854775807)
    (g0 : Int) (rg0 : -9223372036854775808 ≤ g0 ∧ g0 ≤ 9223372036854775807) (s0 : Int) (rs0 : -9223372036854775808 ≤ s0 ∧ s0 ≤ 9223372036854775807)
    (n0 : Int) (rn0 : -9223372036854775808 ≤ n0 ∧ n0 ≤ 9223372036854775807) :
    Calls Try.prog 5 #[.int .i64 ep, .int .i64 a, .bool b, .int .i64 f0, .int .i64 g0, .int .i64 s0, .int .i64 n0] W fun e w' => e = .returned (.bool true) ∧ Below W.heap.size W w' := by
  have wb9 := wi_bd ep 1048576 (by omega)
  obtain ⟨e1, he1⟩ : ∃ e1, e1 = wi ep 1048576 := ⟨_, rfl⟩
  rw [← he1] at wb9
  have WS9 := fun w => re_i64 (within_any ep 1048576 w (by omega) (by omega)) he1.symm
  have re1 : I64 (1 + e1) := ⟨by omega, by omega⟩
  obtain ⟨r, hr⟩ : ∃ r, r = rgE (1 + e1) a := ⟨_, rfl⟩
  have hE := rgE_ep (1 + e1) a
  rw [← hr] at hE
  have LR := fun w => re_v (lring_any (1 + e1) a re1 ra w) (show _ = rgV r by rw [hr])
  obtain ⟨f, hf⟩ : ∃ f, f = flN f0 g0 := ⟨_, rfl⟩
  have hI : f.I := by rw [hf]; exact flN_I _ _
  have LF := fun w => re_v (lflow_any f0 g0 w rf0 rg0) (show _ = flV f by rw [hf])
  have wb := wi_bd s0 64 (by omega)
  obtain ⟨s, hs⟩ : ∃ s, s = wi s0 64 := ⟨_, rfl⟩
  rw [← hs] at wb
  have WS := fun w => re_i64 (within_any s0 64 w (by omega) (by omega)) hs.symm
  have hre : r.e = 1 + e1 := by
    rw [hr]
    show wi (1 + e1) 1073741824 = 1 + e1
    unfold wi
    omega
  obtain ⟨c, hc⟩ : ∃ c, c = cok (tB b) r.c (kdB b) f s (r.e % 4) := ⟨_, rfl⟩
  have MK := fun w => re_i64 (make_b b r f s hI wb w) hc.symm
  obtain ⟨k1, hk1⟩ : ∃ k, k = kyN n0 := ⟨_, rfl⟩
  obtain ⟨k2, hk2⟩ : ∃ k, k = kyN (wrap64 (n0 + 1)) := ⟨_, rfl⟩
  have LK := fun w => re_v (lkey_any n0 w) (show _ = kyV k1 by rw [hk1])
  have LK2 := fun w => re_v (lkey_any (wrap64 (n0 + 1)) w) (show _ = kyV k2 by rw [hk2])
  have hp := cok_parts (tB b) r.c (kdB b) f s (r.e % 4) (tB_T b) wb (by omega)
  rw [← hc] at hp
  obtain ⟨q, hq⟩ : ∃ q : Rg, q = ⟨r.e + 1, r.c, r.n, k1⟩ := ⟨_, rfl⟩
  obtain ⟨p, hpp⟩ : ∃ p : Rg, p = ⟨r.e - 1, k1, r.p, r.c⟩ := ⟨_, rfl⟩
  obtain ⟨q2, hq2⟩ : ∃ q2 : Rg, q2 = ⟨r.e + 2, r.n, k1, k2⟩ := ⟨_, rfl⟩
  have hb64 : ∀ x : Int, -10 ≤ x → x ≤ 10000000 → Ep x := fun x h1 h2 => ⟨by omega, by omega⟩
  have NX := fun w => next_any r k1 (hb64 _ (by omega) (by omega)) w
  have NX2 := fun w => re_v (next_any q k2 (by rw [hq]; exact hb64 _ (by simp only; omega) (by simp only; omega)) w) (show _ = rgV q2 by rw [hq, hq2]; simp only; rw [show r.e + 1 + 1 = r.e + 2 from by omega])
  have RQ := fun w => read_b b q f c hI (by rw [hq]; exact hb64 _ (by simp only; omega) (by simp only; omega)) w
  have RP := fun w => read_b b p f c hI (by rw [hpp]; exact hb64 _ (by simp only; omega) (by simp only; omega)) w
  have RQ2 := fun w => read_b b q2 f c hI (by rw [hq2]; exact hb64 _ (by simp only; omega) (by simp only; omega)) w
  have r1 : readC (tB b) q (kdB b) f c = some s := by
    rw [hc]
    refine read_cok (tB b) q r.c (kdB b) f s (r.e % 4) (tB_T b) wb (by omega) ?_
    have := keyOf_prev q
    rw [hq] at this ⊢
    rwa [show (r.e + 1 - 1) % 4 = r.e % 4 from by omega] at this
  have r2 : readC (tB b) p (kdB b) f c = some s := by
    rw [hc]
    refine read_cok (tB b) p r.c (kdB b) f s (r.e % 4) (tB_T b) wb (by omega) ?_
    have := keyOf_next p
    rw [hpp] at this ⊢
    rwa [show (r.e - 1 + 1) % 4 = r.e % 4 from by omega] at this
  have r3 : readC (tB b) q2 (kdB b) f c = none := by
    unfold readC
    have := keyOf_none q2
    rw [hq2] at this ⊢
    rw [show (r.e + 2 + 2) % 4 = r.e % 4 from by omega] at this
    rw [hp.1, this]
    split <;> rfl
  rw [r1] at RQ
  rw [r2] at RP
  rw [r3] at RQ2
  rw [hq] at RQ NX2
  rw [hpp] at RP
  rw [hq2] at RQ2 NX2
  have q1 : IntKind.i64.wrap (r.e - 1) = r.e - 1 := IntWalk.i64_in _ (by omega)
  have q2' : IntKind.i64.wrap (r.e + 1) = r.e + 1 := IntWalk.i64_in _ (by omega)
  have q3 : IntKind.i64.wrap (1 + e1) = 1 + e1 := IntWalk.i64_in _ (by omega)
  have LK3 := LK2
  rw [← IntWalk.i64_left] at LK3
  clear hc hk1 hk2 hp hq hpp hq2 r1 r2 r3 hr hf hs hre hb64 he1
  cases b
  all_goals
    unfold rgV flV rdO kyV kdB at *
    simp only [if_true, Bool.false_eq_true, if_false, Option.getD_some, Option.isSome_some, Option.getD_none, Option.isSome_none] at *
    replace LR := hid LR
    replace LF := hid LF
    replace WS := hid WS
    replace WS9 := hid WS9
    replace MK := hid MK
    replace LK := hid LK
    replace LK2 := hid LK2
    replace LK3 := hid LK3
    replace NX := hid NX
    replace NX2 := hid NX2
    replace RQ := hid RQ
    replace RP := hid RP
    replace RQ2 := hid RQ2
    go_enter Try.func5, Try.ntmps5
    go_wp2_with fail
    refine (known_any _).mono ?_
    rintro e' w ⟨rfl, hb1⟩
    have B := hb1
    clear hb1
    go_wp2_with fail
    refine (WS9.out _).mono ?_
    rintro e' w1 ⟨rfl, rfl⟩
    go_wp2_with fail
    refine (LR.out _).mono ?_
    rintro e' w1 ⟨rfl, hb⟩
    replace B := B.trans (hb.mono B.size)
    clear hb
    go_wp2_with fail
    have CA := Ce.made (w := w1) (l := [.int .i64 r.e, .int .u64 r.p.a, .int .u64 r.p.b, .int .u64 r.c.a, .int .u64 r.c.b, .int .u64 r.n.a, .int .u64 r.n.b]) (T := 27) (g := w1.heap.size) rfl
    replace B := B.alloc B.size (.cells #[.int .i64 r.e, .int .u64 r.p.a, .int .u64 r.p.b, .int .u64 r.c.a, .int .u64 r.c.b, .int .u64 r.n.a, .int .u64 r.n.b] 27)
    generalize w1.alloc (.cells #[.int .i64 r.e, .int .u64 r.p.a, .int .u64 r.p.b, .int .u64 r.c.a, .int .u64 r.c.b, .int .u64 r.n.a, .int .u64 r.n.b] 27) = w2 at *
    generalize w1.heap.size = A at *
    refine (WS.out _).mono ?_
    rintro e' w3 ⟨rfl, rfl⟩
    go_wp2_with fail
    have hA := CA.cr
    have hB := B
    clear CA B
    refine wp_region_held_drew (S := fun w' => Cr w' A [.int .i64 r.e, .int .u64 r.p.a, .int .u64 r.p.b, .int .u64 r.c.a, .int .u64 r.c.b, .int .u64 r.n.a, .int .u64 r.n.b] ∧ Below W.heap.size W w') (by kernel_rfl) ?_ (fun hHeld => ?_)
    · exact ⟨hA, hB.drew⟩
    refine tk 0 (v := ?_) rfl (by kernel_rfl) (by kernel_rfl) (by kernel_rfl) (fun _ _ _ h => h) rfl ?_ (by assumption) ?_; rotate_left; (focus (intro w hSw; (try dsimp only at hSw); obtain ⟨hA, hB⟩ := hSw; have zA0 := hA.2 0 _ rfl; have zA1 := hA.2 1 _ rfl; have zA2 := hA.2 2 _ rfl; have zA3 := hA.2 3 _ rfl; have zA4 := hA.2 4 _ rfl; have zA5 := hA.2 5 _ rfl; have zA6 := hA.2 6 _ rfl; go_simp; (try with_reducible rfl))); (try simp only [Act.put, List.setIfInBounds_toArray, List.set_cons_zero, List.set_cons_succ])
    refine tk 1 (v := ?_) rfl (by kernel_rfl) (by kernel_rfl) (by kernel_rfl) (fun _ _ _ h => h) rfl ?_ (by assumption) ?_; rotate_left; (focus (intro w hSw; (try dsimp only at hSw); obtain ⟨hA, hB⟩ := hSw; have zA0 := hA.2 0 _ rfl; have zA1 := hA.2 1 _ rfl; have zA2 := hA.2 2 _ rfl; have zA3 := hA.2 3 _ rfl; have zA4 := hA.2 4 _ rfl; have zA5 := hA.2 5 _ rfl; have zA6 := hA.2 6 _ rfl; go_simp; (try with_reducible rfl))); (try simp only [Act.put, List.setIfInBounds_toArray, List.set_cons_zero, List.set_cons_succ])
    refine tk 2 (v := ?_) rfl (by kernel_rfl) (by kernel_rfl) (by kernel_rfl) (fun _ _ _ h => h) rfl ?_ (by assumption) ?_; rotate_left; (focus (intro w hSw; (try dsimp only at hSw); obtain ⟨hA, hB⟩ := hSw; have zA0 := hA.2 0 _ rfl; have zA1 := hA.2 1 _ rfl; have zA2 := hA.2 2 _ rfl; have zA3 := hA.2 3 _ rfl; have zA4 := hA.2 4 _ rfl; have zA5 := hA.2 5 _ rfl; have zA6 := hA.2 6 _ rfl; go_simp; (try with_reducible rfl))); (try simp only [Act.put, List.setIfInBounds_toArray, List.set_cons_zero, List.set_cons_succ])
    refine tk 3 (v := ?_) rfl (by kernel_rfl) (by kernel_rfl) (by kernel_rfl) (fun _ _ _ h => h) rfl ?_ (by assumption) ?_; rotate_left; (focus (intro w hSw; (try dsimp only at hSw); obtain ⟨hA, hB⟩ := hSw; have zA0 := hA.2 0 _ rfl; have zA1 := hA.2 1 _ rfl; have zA2 := hA.2 2 _ rfl; have zA3 := hA.2 3 _ rfl; have zA4 := hA.2 4 _ rfl; have zA5 := hA.2 5 _ rfl; have zA6 := hA.2 6 _ rfl; go_simp; (try with_reducible rfl))); (try simp only [Act.put, List.setIfInBounds_toArray, List.set_cons_zero, List.set_cons_succ])
    refine tk 5 (v := ?_) rfl (by kernel_rfl) (by kernel_rfl) (by kernel_rfl) (fun _ _ _ h => h) rfl ?_ (by assumption) ?_; rotate_left; (focus (intro w hSw; (try dsimp only at hSw); obtain ⟨hA, hB⟩ := hSw; have zA0 := hA.2 0 _ rfl; have zA1 := hA.2 1 _ rfl; have zA2 := hA.2 2 _ rfl; have zA3 := hA.2 3 _ rfl; have zA4 := hA.2 4 _ rfl; have zA5 := hA.2 5 _ rfl; have zA6 := hA.2 6 _ rfl; go_simp; (try with_reducible rfl))); (try simp only [Act.put, List.setIfInBounds_toArray, List.set_cons_zero, List.set_cons_succ])
    refine only 4 rfl (by kernel_rfl) rfl (fun K hK => ?_)
    go_simp
    refine (LF.out _).mono ?_
    rintro e' wf8 ⟨rfl, hf8⟩
    try go_wp2_with fail
    refine hK.out _ _ ?_ (fun hHeld2 => ?_)
    · (obtain ⟨hA, hB⟩ := hHeld; exact ⟨hA.below hf8, then_ hB hf8⟩)
    clear hK hHeld
    try simp only [Act.put, List.setIfInBounds_toArray, List.set_cons_zero, List.set_cons_succ]
    have hHeld := hHeld2
    clear hHeld2
    refine only 6 rfl (by kernel_rfl) rfl (fun K hK => ?_)
    go_simp
    refine (MK.out _).mono ?_
    rintro e' wm8 ⟨rfl, hm8⟩
    try go_wp2_with fail
    refine hK.out _ _ ?_ (fun hHeld2 => ?_)
    · (obtain ⟨hA, hB⟩ := hHeld; exact ⟨hA.below hm8, then_ hB hm8⟩)
    clear hK hHeld
    try simp only [Act.put, List.setIfInBounds_toArray, List.set_cons_zero, List.set_cons_succ]
    have hHeld := hHeld2
    clear hHeld2
    refine tk 7 (v := ?_) rfl (by kernel_rfl) (by kernel_rfl) (by kernel_rfl) (fun _ _ _ h => h) rfl ?_ (by assumption) ?_; rotate_left; (focus (intro w hSw; (try dsimp only at hSw); obtain ⟨hA, hB⟩ := hSw; have zA0 := hA.2 0 _ rfl; have zA1 := hA.2 1 _ rfl; have zA2 := hA.2 2 _ rfl; have zA3 := hA.2 3 _ rfl; have zA4 := hA.2 4 _ rfl; have zA5 := hA.2 5 _ rfl; have zA6 := hA.2 6 _ rfl; go_simp; (try with_reducible rfl))); (try simp only [Act.put, List.setIfInBounds_toArray, List.set_cons_zero, List.set_cons_succ])
    refine wpAnyH_done (by kernel_rfl) ?_ _
    obtain ⟨hA, hB⟩ := hHeld
    go_upto_region 9 with (fail)
    go_cut [19] from 44 to 47 (fun p wx => ∃ C : Nat, p = .pointer (some ⟨C, 0, none⟩) ∧ Cr wx A [.int .i64 r.e, .int .u64 r.p.a, .int .u64 r.p.b, .int .u64 r.c.a, .int .u64 r.c.b, .int .u64 r.n.a, .int .u64 r.n.b] ∧ Cr wx C [.int .i64 (r.e + 1), .int .u64 r.c.a, .int .u64 r.c.b, .int .u64 r.n.a, .int .u64 r.n.b, .int .u64 k1.a, .int .u64 k1.b] ∧ Below W.heap.size W wx)
    case first =>
      refine wp_region_held_drew (S := fun w' => Cr w' A [.int .i64 r.e, .int .u64 r.p.a, .int .u64 r.p.b, .int .u64 r.c.a, .int .u64 r.c.b, .int .u64 r.n.a, .int .u64 r.n.b] ∧ Below W.heap.size W w') (by kernel_rfl) ?_ (fun hHeld => ?_)
      · exact ⟨hA, hB.drew⟩
      refine tk 0 (v := ?_) rfl (by kernel_rfl) (by kernel_rfl) (by kernel_rfl) (fun _ _ _ h => h) rfl ?_ (by assumption) ?_; rotate_left; (focus (intro w hSw; (try dsimp only at hSw); obtain ⟨hA, hB⟩ := hSw; have zA0 := hA.2 0 _ rfl; have zA1 := hA.2 1 _ rfl; have zA2 := hA.2 2 _ rfl; have zA3 := hA.2 3 _ rfl; have zA4 := hA.2 4 _ rfl; have zA5 := hA.2 5 _ rfl; have zA6 := hA.2 6 _ rfl; go_simp; (try with_reducible rfl))); (try simp only [Act.put, List.setIfInBounds_toArray, List.set_cons_zero, List.set_cons_succ])
      refine tk 1 (v := ?_) rfl (by kernel_rfl) (by kernel_rfl) (by kernel_rfl) (fun _ _ _ h => h) rfl ?_ (by assumption) ?_; rotate_left; (focus (intro w hSw; (try dsimp only at hSw); obtain ⟨hA, hB⟩ := hSw; have zA0 := hA.2 0 _ rfl; have zA1 := hA.2 1 _ rfl; have zA2 := hA.2 2 _ rfl; have zA3 := hA.2 3 _ rfl; have zA4 := hA.2 4 _ rfl; have zA5 := hA.2 5 _ rfl; have zA6 := hA.2 6 _ rfl; go_simp; (try with_reducible rfl))); (try simp only [Act.put, List.setIfInBounds_toArray, List.set_cons_zero, List.set_cons_succ])
      refine twoUp 2 4 rfl rfl (by kernel_rfl) rfl rfl (fun K hK => ?_) (fun K hK => ?_)
      · go_simp
        refine (LK.out _).mono ?_
        rintro e' wk9 ⟨rfl, hk9⟩
        try go_wp2_with fail
        refine hK.out _ _ ?_ (fun hHeld2 => ?_)
        · (obtain ⟨hA, hB⟩ := hHeld; exact ⟨hA.below hk9, then_ hB hk9⟩)
        clear hK hHeld
        try simp only [Act.put, List.setIfInBounds_toArray, List.set_cons_zero, List.set_cons_succ]
        have hHeld := hHeld2
        clear hHeld2
        refine twoUp 3 4 rfl rfl (by kernel_rfl) rfl rfl (fun K hK => ?_) (fun K hK => ?_)
        · go_simp
          refine (NX.out _).mono ?_
          rintro e' wn9 ⟨rfl, hn9⟩
          try go_wp2_with fail
          refine hK.out _ _ ?_ (fun hHeld2 => ?_)
          · (obtain ⟨hA, hB⟩ := hHeld; exact ⟨hA.below hn9, then_ hB hn9⟩)
          clear hK hHeld
          try simp only [Act.put, List.setIfInBounds_toArray, List.set_cons_zero, List.set_cons_succ]
          have hHeld := hHeld2
          clear hHeld2
          refine only 4 rfl (by kernel_rfl) rfl (fun K hK => ?_)
          go_simp
          refine hK.out _ _ ?_ (fun hHeld2 => ?_)
          · (obtain ⟨hA, hB⟩ := hHeld; exact ⟨hA.alloc _, hB.alloc hB.size _⟩)
          have hCX : CX (wn9.alloc (.cells #[.int .i64 0, .int .u64 0, .int .u64 0, .int .u64 0, .int .u64 0, .int .u64 0, .int .u64 0] 27)) wn9.heap.size := ⟨_, _, _, _, _, _, _, Ce.made (w := wn9) (l := [.int .i64 0, .int .u64 0, .int .u64 0, .int .u64 0, .int .u64 0, .int .u64 0, .int .u64 0]) rfl⟩
          have neCA : wn9.heap.size ≠ A := (by obtain ⟨hA, hB⟩ := hHeld; exact Nat.ne_of_gt hA.1)
          have hWC : W.heap.size ≤ wn9.heap.size := (by obtain ⟨hA, hB⟩ := hHeld; exact hB.size)
          obtain ⟨hA, hB⟩ := id hHeld
          have PA := hid hA
          have PB := hid hB
          clear hB hA
          clear hK hHeld
          try simp only [Act.put, List.setIfInBounds_toArray, List.set_cons_zero, List.set_cons_succ]
          refine more (fun w' => CX w' (wn9.heap.size) ∧ Cr w' A [.int .i64 r.e, .int .u64 r.p.a, .int .u64 r.p.b, .int .u64 r.c.a, .int .u64 r.c.b, .int .u64 r.n.a, .int .u64 r.n.b] ∧ Below W.heap.size W w') (fun w' h => h.2) ⟨hCX, hHeld2⟩ (fun hHeld => ?_)
          clear hCX hHeld2
          refine only 5 rfl (by kernel_rfl) rfl (fun K hK => ?_)
          clear hHeld
          go_simp
          refine hK.out _ _ ?_ (fun hHeld2 => ?_)
          · exact ⟨⟨_, _, _, _, _, _, _, Ce.made (w := wn9) (l := [.int .i64 (r.e + 1), .int .u64 r.c.a, .int .u64 r.c.b, .int .u64 r.n.a, .int .u64 r.n.b, .int .u64 k1.a, .int .u64 k1.b]) rfl⟩, PA.out.alloc _, PB.out.alloc PB.out.size _⟩
          have hNew := Ce.made (w := wn9) (l := [.int .i64 (r.e + 1), .int .u64 r.c.a, .int .u64 r.c.b, .int .u64 r.n.a, .int .u64 r.n.b, .int .u64 k1.a, .int .u64 k1.b]) (T := 27) (g := wn9.heap.size) rfl
          clear hK
          try simp only [Act.put, List.setIfInBounds_toArray, List.set_cons_zero, List.set_cons_succ]
          refine wpAnyH_done (by kernel_rfl) ?_ _
          go_wp2_with fail
          go_meet
          (obtain ⟨_, hA, hB⟩ := hHeld2; exact ⟨_, rfl, hA, hNew.cr, hB⟩)
        · go_simp
          refine hK.out _ _ ?_ (fun hHeld2 => ?_)
          · (obtain ⟨hA, hB⟩ := hHeld; exact ⟨hA.alloc _, hB.alloc hB.size _⟩)
          have hCX : CX (wk9.alloc (.cells #[.int .i64 0, .int .u64 0, .int .u64 0, .int .u64 0, .int .u64 0, .int .u64 0, .int .u64 0] 27)) wk9.heap.size := ⟨_, _, _, _, _, _, _, Ce.made (w := wk9) (l := [.int .i64 0, .int .u64 0, .int .u64 0, .int .u64 0, .int .u64 0, .int .u64 0, .int .u64 0]) rfl⟩
          have neCA : wk9.heap.size ≠ A := (by obtain ⟨hA, hB⟩ := hHeld; exact Nat.ne_of_gt hA.1)
          have hWC : W.heap.size ≤ wk9.heap.size := (by obtain ⟨hA, hB⟩ := hHeld; exact hB.size)
          obtain ⟨hA, hB⟩ := id hHeld
          have PA := hid hA
          have PB := hid hB
          clear hB hA
          clear hK hHeld
          try simp only [Act.put, List.setIfInBounds_toArray, List.set_cons_zero, List.set_cons_succ]
          refine more (fun w' => CX w' (wk9.heap.size) ∧ Cr w' A [.int .i64 r.e, .int .u64 r.p.a, .int .u64 r.p.b, .int .u64 r.c.a, .int .u64 r.c.b, .int .u64 r.n.a, .int .u64 r.n.b] ∧ Below W.heap.size W w') (fun w' h => h.2) ⟨hCX, hHeld2⟩ (fun hHeld => ?_)
          clear hCX hHeld2
          refine only 3 rfl (by kernel_rfl) rfl (fun K hK => ?_)
          go_simp
          refine (NX.out _).mono ?_
          rintro e' wn9 ⟨rfl, hn9⟩
          try go_wp2_with fail
          refine hK.out _ _ ?_ (fun hHeld2 => ?_)
          · (obtain ⟨hX, hA, hB⟩ := hHeld; exact ⟨hX.below hn9, hA.below hn9, then_ hB hn9⟩)
          clear hK hHeld
          try simp only [Act.put, List.setIfInBounds_toArray, List.set_cons_zero, List.set_cons_succ]
          have hHeld := hHeld2
          clear hHeld2
          refine only 5 rfl (by kernel_rfl) rfl (fun K hK => ?_)
          obtain ⟨⟨x0, x1, x2, x3, x4, x5, x6, hE⟩, hA, hB⟩ := hHeld
          have y0 := hE.2.1 0 _ rfl
          have y1 := hE.2.1 1 _ rfl
          have y2 := hE.2.1 2 _ rfl
          have y3 := hE.2.1 3 _ rfl
          have y4 := hE.2.1 4 _ rfl
          have y5 := hE.2.1 5 _ rfl
          have y6 := hE.2.1 6 _ rfl
          have yl := hE.1
          have yf := hE.2.2
          have HE := hid hE
          have HA := hid hA
          have HB := hid hB
          clear hE hB hA
          go_simp
          refine hK.out _ _ ?_ (fun hHeld2 => ?_)
          · exact ⟨⟨_, _, _, _, _, _, _, HE.out.set7 (.int .i64 (r.e + 1)) (.int .u64 r.c.a) (.int .u64 r.c.b) (.int .u64 r.n.a) (.int .u64 r.n.b) (.int .u64 k1.a) (.int .u64 k1.b)⟩, HA.out.set7 neCA, below_set7 HB.out hWC⟩
          have hNew := HE.out.set7 (.int .i64 (r.e + 1)) (.int .u64 r.c.a) (.int .u64 r.c.b) (.int .u64 r.n.a) (.int .u64 r.n.b) (.int .u64 k1.a) (.int .u64 k1.b)
          clear hK
          try simp only [Act.put, List.setIfInBounds_toArray, List.set_cons_zero, List.set_cons_succ]
          refine wpAnyH_done (by kernel_rfl) ?_ _
          go_wp2_with fail
          go_meet
          (obtain ⟨_, hA, hB⟩ := hHeld2; exact ⟨_, rfl, hA, hNew.cr, hB⟩)
      · go_simp
        refine hK.out _ _ ?_ (fun hHeld2 => ?_)
        · (obtain ⟨hA, hB⟩ := hHeld; exact ⟨hA.alloc _, hB.alloc hB.size _⟩)
        have hCX : CX (wm8.drew.alloc (.cells #[.int .i64 0, .int .u64 0, .int .u64 0, .int .u64 0, .int .u64 0, .int .u64 0, .int .u64 0] 27)) wm8.heap.size := ⟨_, _, _, _, _, _, _, Ce.made (w := wm8.drew) (l := [.int .i64 0, .int .u64 0, .int .u64 0, .int .u64 0, .int .u64 0, .int .u64 0, .int .u64 0]) rfl⟩
        have neCA : wm8.heap.size ≠ A := (by obtain ⟨hA, hB⟩ := hHeld; exact Nat.ne_of_gt hA.1)
        have hWC : W.heap.size ≤ wm8.heap.size := (by obtain ⟨hA, hB⟩ := hHeld; exact hB.size)
        obtain ⟨hA, hB⟩ := id hHeld
        have PA := hid hA
        have PB := hid hB
        clear hB hA
        clear hK hHeld
        try simp only [Act.put, List.setIfInBounds_toArray, List.set_cons_zero, List.set_cons_succ]
        refine more (fun w' => CX w' (wm8.heap.size) ∧ Cr w' A [.int .i64 r.e, .int .u64 r.p.a, .int .u64 r.p.b, .int .u64 r.c.a, .int .u64 r.c.b, .int .u64 r.n.a, .int .u64 r.n.b] ∧ Below W.heap.size W w') (fun w' h => h.2) ⟨hCX, hHeld2⟩ (fun hHeld => ?_)
        clear hCX hHeld2
        refine only 2 rfl (by kernel_rfl) rfl (fun K hK => ?_)
        go_simp
        refine (LK.out _).mono ?_
        rintro e' wk9 ⟨rfl, hk9⟩
        try go_wp2_with fail
        refine hK.out _ _ ?_ (fun hHeld2 => ?_)
        · (obtain ⟨hX, hA, hB⟩ := hHeld; exact ⟨hX.below hk9, hA.below hk9, then_ hB hk9⟩)
        clear hK hHeld
        try simp only [Act.put, List.setIfInBounds_toArray, List.set_cons_zero, List.set_cons_succ]
        have hHeld := hHeld2
        clear hHeld2
        refine only 3 rfl (by kernel_rfl) rfl (fun K hK => ?_)
        go_simp
        refine (NX.out _).mono ?_
        rintro e' wn9 ⟨rfl, hn9⟩
        try go_wp2_with fail
        refine hK.out _ _ ?_ (fun hHeld2 => ?_)
        · (obtain ⟨hX, hA, hB⟩ := hHeld; exact ⟨hX.below hn9, hA.below hn9, then_ hB hn9⟩)
        clear hK hHeld
        try simp only [Act.put, List.setIfInBounds_toArray, List.set_cons_zero, List.set_cons_succ]
        have hHeld := hHeld2
        clear hHeld2
        refine only 5 rfl (by kernel_rfl) rfl (fun K hK => ?_)
        obtain ⟨⟨x0, x1, x2, x3, x4, x5, x6, hE⟩, hA, hB⟩ := hHeld
        have y0 := hE.2.1 0 _ rfl
        have y1 := hE.2.1 1 _ rfl
        have y2 := hE.2.1 2 _ rfl
        have y3 := hE.2.1 3 _ rfl
        have y4 := hE.2.1 4 _ rfl
        have y5 := hE.2.1 5 _ rfl
        have y6 := hE.2.1 6 _ rfl
        have yl := hE.1
        have yf := hE.2.2
        have HE := hid hE
        have HA := hid hA
        have HB := hid hB
        clear hE hB hA
        go_simp
        refine hK.out _ _ ?_ (fun hHeld2 => ?_)
        · exact ⟨⟨_, _, _, _, _, _, _, HE.out.set7 (.int .i64 (r.e + 1)) (.int .u64 r.c.a) (.int .u64 r.c.b) (.int .u64 r.n.a) (.int .u64 r.n.b) (.int .u64 k1.a) (.int .u64 k1.b)⟩, HA.out.set7 neCA, below_set7 HB.out hWC⟩
        have hNew := HE.out.set7 (.int .i64 (r.e + 1)) (.int .u64 r.c.a) (.int .u64 r.c.b) (.int .u64 r.n.a) (.int .u64 r.n.b) (.int .u64 k1.a) (.int .u64 k1.b)
        clear hK
        try simp only [Act.put, List.setIfInBounds_toArray, List.set_cons_zero, List.set_cons_succ]
        refine wpAnyH_done (by kernel_rfl) ?_ _
        go_wp2_with fail
        go_meet
        (obtain ⟨_, hA, hB⟩ := hHeld2; exact ⟨_, rfl, hA, hNew.cr, hB⟩)
    case rest =>
      clear hA hB
      obtain ⟨C, rfl, hA, hC, hB⟩ := hcut
      go_wp2_with fail
      refine wp_region_held_drew (S := fun w' => Cr w' A [.int .i64 r.e, .int .u64 r.p.a, .int .u64 r.p.b, .int .u64 r.c.a, .int .u64 r.c.b, .int .u64 r.n.a, .int .u64 r.n.b] ∧ Cr w' C [.int .i64 (r.e + 1), .int .u64 r.c.a, .int .u64 r.c.b, .int .u64 r.n.a, .int .u64 r.n.b, .int .u64 k1.a, .int .u64 k1.b] ∧ Below W.heap.size W w') (by kernel_rfl) ?_ (fun hHeld => ?_)
      · exact ⟨hA, hC, hB.drew⟩
      refine tk 0 (v := ?_) rfl (by kernel_rfl) (by kernel_rfl) (by kernel_rfl) (fun _ _ _ h => h) rfl ?_ (by assumption) ?_; rotate_left; (focus (intro w hSw; (try dsimp only at hSw); obtain ⟨hA, hC, hB⟩ := hSw; have zA0 := hA.2 0 _ rfl; have zA1 := hA.2 1 _ rfl; have zA2 := hA.2 2 _ rfl; have zA3 := hA.2 3 _ rfl; have zA4 := hA.2 4 _ rfl; have zA5 := hA.2 5 _ rfl; have zA6 := hA.2 6 _ rfl; have zC0 := hC.2 0 _ rfl; have zC1 := hC.2 1 _ rfl; have zC2 := hC.2 2 _ rfl; have zC3 := hC.2 3 _ rfl; have zC4 := hC.2 4 _ rfl; have zC5 := hC.2 5 _ rfl; have zC6 := hC.2 6 _ rfl; go_simp; (try with_reducible rfl))); (try simp only [Act.put, List.setIfInBounds_toArray, List.set_cons_zero, List.set_cons_succ])
      refine tk 1 (v := ?_) rfl (by kernel_rfl) (by kernel_rfl) (by kernel_rfl) (fun _ _ _ h => h) rfl ?_ (by assumption) ?_; rotate_left; (focus (intro w hSw; (try dsimp only at hSw); obtain ⟨hA, hC, hB⟩ := hSw; have zA0 := hA.2 0 _ rfl; have zA1 := hA.2 1 _ rfl; have zA2 := hA.2 2 _ rfl; have zA3 := hA.2 3 _ rfl; have zA4 := hA.2 4 _ rfl; have zA5 := hA.2 5 _ rfl; have zA6 := hA.2 6 _ rfl; have zC0 := hC.2 0 _ rfl; have zC1 := hC.2 1 _ rfl; have zC2 := hC.2 2 _ rfl; have zC3 := hC.2 3 _ rfl; have zC4 := hC.2 4 _ rfl; have zC5 := hC.2 5 _ rfl; have zC6 := hC.2 6 _ rfl; go_simp; (try with_reducible rfl))); (try simp only [Act.put, List.setIfInBounds_toArray, List.set_cons_zero, List.set_cons_succ])
      refine tk 2 (v := ?_) rfl (by kernel_rfl) (by kernel_rfl) (by kernel_rfl) (fun _ _ _ h => h) rfl ?_ (by assumption) ?_; rotate_left; (focus (intro w hSw; (try dsimp only at hSw); obtain ⟨hA, hC, hB⟩ := hSw; have zA0 := hA.2 0 _ rfl; have zA1 := hA.2 1 _ rfl; have zA2 := hA.2 2 _ rfl; have zA3 := hA.2 3 _ rfl; have zA4 := hA.2 4 _ rfl; have zA5 := hA.2 5 _ rfl; have zA6 := hA.2 6 _ rfl; have zC0 := hC.2 0 _ rfl; have zC1 := hC.2 1 _ rfl; have zC2 := hC.2 2 _ rfl; have zC3 := hC.2 3 _ rfl; have zC4 := hC.2 4 _ rfl; have zC5 := hC.2 5 _ rfl; have zC6 := hC.2 6 _ rfl; go_simp; (try with_reducible rfl))); (try simp only [Act.put, List.setIfInBounds_toArray, List.set_cons_zero, List.set_cons_succ])
      refine tk 3 (v := ?_) rfl (by kernel_rfl) (by kernel_rfl) (by kernel_rfl) (fun _ _ _ h => h) rfl ?_ (by assumption) ?_; rotate_left; (focus (intro w hSw; (try dsimp only at hSw); obtain ⟨hA, hC, hB⟩ := hSw; have zA0 := hA.2 0 _ rfl; have zA1 := hA.2 1 _ rfl; have zA2 := hA.2 2 _ rfl; have zA3 := hA.2 3 _ rfl; have zA4 := hA.2 4 _ rfl; have zA5 := hA.2 5 _ rfl; have zA6 := hA.2 6 _ rfl; have zC0 := hC.2 0 _ rfl; have zC1 := hC.2 1 _ rfl; have zC2 := hC.2 2 _ rfl; have zC3 := hC.2 3 _ rfl; have zC4 := hC.2 4 _ rfl; have zC5 := hC.2 5 _ rfl; have zC6 := hC.2 6 _ rfl; go_simp; (try with_reducible rfl))); (try simp only [Act.put, List.setIfInBounds_toArray, List.set_cons_zero, List.set_cons_succ])
      refine tk 5 (v := ?_) rfl (by kernel_rfl) (by kernel_rfl) (by kernel_rfl) (fun _ _ _ h => h) rfl ?_ (by assumption) ?_; rotate_left; (focus (intro w hSw; (try dsimp only at hSw); obtain ⟨hA, hC, hB⟩ := hSw; have zA0 := hA.2 0 _ rfl; have zA1 := hA.2 1 _ rfl; have zA2 := hA.2 2 _ rfl; have zA3 := hA.2 3 _ rfl; have zA4 := hA.2 4 _ rfl; have zA5 := hA.2 5 _ rfl; have zA6 := hA.2 6 _ rfl; have zC0 := hC.2 0 _ rfl; have zC1 := hC.2 1 _ rfl; have zC2 := hC.2 2 _ rfl; have zC3 := hC.2 3 _ rfl; have zC4 := hC.2 4 _ rfl; have zC5 := hC.2 5 _ rfl; have zC6 := hC.2 6 _ rfl; go_simp; (try with_reducible rfl))); (try simp only [Act.put, List.setIfInBounds_toArray, List.set_cons_zero, List.set_cons_succ])
      refine only 4 rfl (by kernel_rfl) rfl (fun K hK => ?_)
      go_simp
      refine (LF.out _).mono ?_
      rintro e' wf10 ⟨rfl, hf10⟩
      try go_wp2_with fail
      refine hK.out _ _ ?_ (fun hHeld2 => ?_)
      · (obtain ⟨hA, hC, hB⟩ := hHeld; exact ⟨hA.below hf10, hC.below hf10, then_ hB hf10⟩)
      clear hK hHeld
      try simp only [Act.put, List.setIfInBounds_toArray, List.set_cons_zero, List.set_cons_succ]
      have hHeld := hHeld2
      clear hHeld2
      refine only 6 rfl (by kernel_rfl) rfl (fun K hK => ?_)
      go_simp
      refine (RQ.out _).mono ?_
      rintro e' wr10 ⟨rfl, hr10⟩
      try go_wp2_with fail
      refine hK.out _ _ ?_ (fun hHeld2 => ?_)
      · (obtain ⟨hA, hC, hB⟩ := hHeld; exact ⟨hA.below hr10, hC.below hr10, then_ hB hr10⟩)
      clear hK hHeld
      try simp only [Act.put, List.setIfInBounds_toArray, List.set_cons_zero, List.set_cons_succ]
      have hHeld := hHeld2
      clear hHeld2
      refine tk 7 (v := ?_) rfl (by kernel_rfl) (by kernel_rfl) (by kernel_rfl) (fun _ _ _ h => h) rfl ?_ (by assumption) ?_; rotate_left; (focus (intro w hSw; (try dsimp only at hSw); obtain ⟨hA, hC, hB⟩ := hSw; have zA0 := hA.2 0 _ rfl; have zA1 := hA.2 1 _ rfl; have zA2 := hA.2 2 _ rfl; have zA3 := hA.2 3 _ rfl; have zA4 := hA.2 4 _ rfl; have zA5 := hA.2 5 _ rfl; have zA6 := hA.2 6 _ rfl; have zC0 := hC.2 0 _ rfl; have zC1 := hC.2 1 _ rfl; have zC2 := hC.2 2 _ rfl; have zC3 := hC.2 3 _ rfl; have zC4 := hC.2 4 _ rfl; have zC5 := hC.2 5 _ rfl; have zC6 := hC.2 6 _ rfl; go_simp; (try with_reducible rfl))); (try simp only [Act.put, List.setIfInBounds_toArray, List.set_cons_zero, List.set_cons_succ])
      refine tk 8 (v := ?_) rfl (by kernel_rfl) (by kernel_rfl) (by kernel_rfl) (fun _ _ _ h => h) rfl ?_ (by assumption) ?_; rotate_left; (focus (intro w hSw; (try dsimp only at hSw); obtain ⟨hA, hC, hB⟩ := hSw; have zA0 := hA.2 0 _ rfl; have zA1 := hA.2 1 _ rfl; have zA2 := hA.2 2 _ rfl; have zA3 := hA.2 3 _ rfl; have zA4 := hA.2 4 _ rfl; have zA5 := hA.2 5 _ rfl; have zA6 := hA.2 6 _ rfl; have zC0 := hC.2 0 _ rfl; have zC1 := hC.2 1 _ rfl; have zC2 := hC.2 2 _ rfl; have zC3 := hC.2 3 _ rfl; have zC4 := hC.2 4 _ rfl; have zC5 := hC.2 5 _ rfl; have zC6 := hC.2 6 _ rfl; go_simp; (try with_reducible rfl))); (try simp only [Act.put, List.setIfInBounds_toArray, List.set_cons_zero, List.set_cons_succ])
      refine tk 9 (v := ?_) rfl (by kernel_rfl) (by kernel_rfl) (by kernel_rfl) (fun _ _ _ h => h) rfl ?_ (by assumption) ?_; rotate_left; (focus (intro w hSw; (try dsimp only at hSw); obtain ⟨hA, hC, hB⟩ := hSw; have zA0 := hA.2 0 _ rfl; have zA1 := hA.2 1 _ rfl; have zA2 := hA.2 2 _ rfl; have zA3 := hA.2 3 _ rfl; have zA4 := hA.2 4 _ rfl; have zA5 := hA.2 5 _ rfl; have zA6 := hA.2 6 _ rfl; have zC0 := hC.2 0 _ rfl; have zC1 := hC.2 1 _ rfl; have zC2 := hC.2 2 _ rfl; have zC3 := hC.2 3 _ rfl; have zC4 := hC.2 4 _ rfl; have zC5 := hC.2 5 _ rfl; have zC6 := hC.2 6 _ rfl; go_simp; (try with_reducible rfl))); (try simp only [Act.put, List.setIfInBounds_toArray, List.set_cons_zero, List.set_cons_succ])
      refine tk 10 (v := ?_) rfl (by kernel_rfl) (by kernel_rfl) (by kernel_rfl) (fun _ _ _ h => h) rfl ?_ (by assumption) ?_; rotate_left; (focus (intro w hSw; (try dsimp only at hSw); obtain ⟨hA, hC, hB⟩ := hSw; have zA0 := hA.2 0 _ rfl; have zA1 := hA.2 1 _ rfl; have zA2 := hA.2 2 _ rfl; have zA3 := hA.2 3 _ rfl; have zA4 := hA.2 4 _ rfl; have zA5 := hA.2 5 _ rfl; have zA6 := hA.2 6 _ rfl; have zC0 := hC.2 0 _ rfl; have zC1 := hC.2 1 _ rfl; have zC2 := hC.2 2 _ rfl; have zC3 := hC.2 3 _ rfl; have zC4 := hC.2 4 _ rfl; have zC5 := hC.2 5 _ rfl; have zC6 := hC.2 6 _ rfl; go_simp; (try with_reducible rfl))); (try simp only [Act.put, List.setIfInBounds_toArray, List.set_cons_zero, List.set_cons_succ])
      refine tk 11 (v := ?_) rfl (by kernel_rfl) (by kernel_rfl) (by kernel_rfl) (fun _ _ _ h => h) rfl ?_ (by assumption) ?_; rotate_left; (focus (intro w hSw; (try dsimp only at hSw); obtain ⟨hA, hC, hB⟩ := hSw; have zA0 := hA.2 0 _ rfl; have zA1 := hA.2 1 _ rfl; have zA2 := hA.2 2 _ rfl; have zA3 := hA.2 3 _ rfl; have zA4 := hA.2 4 _ rfl; have zA5 := hA.2 5 _ rfl; have zA6 := hA.2 6 _ rfl; have zC0 := hC.2 0 _ rfl; have zC1 := hC.2 1 _ rfl; have zC2 := hC.2 2 _ rfl; have zC3 := hC.2 3 _ rfl; have zC4 := hC.2 4 _ rfl; have zC5 := hC.2 5 _ rfl; have zC6 := hC.2 6 _ rfl; go_simp; (try with_reducible rfl))); (try simp only [Act.put, List.setIfInBounds_toArray, List.set_cons_zero, List.set_cons_succ])
      refine wpAnyH_done (by kernel_rfl) ?_ _
      obtain ⟨hA, hC, hB⟩ := hHeld
      go_upto_region 11 with (fail)
      go_cut [22] from 58 to 67 (fun p wx => ∃ D : Nat, p = .pointer (some ⟨D, 0, none⟩) ∧ Cr wx A [.int .i64 r.e, .int .u64 r.p.a, .int .u64 r.p.b, .int .u64 r.c.a, .int .u64 r.c.b, .int .u64 r.n.a, .int .u64 r.n.b] ∧ Cr wx C [.int .i64 (r.e + 1), .int .u64 r.c.a, .int .u64 r.c.b, .int .u64 r.n.a, .int .u64 r.n.b, .int .u64 k1.a, .int .u64 k1.b] ∧ Cr wx D [.int .i64 (r.e - 1), .int .u64 k1.a, .int .u64 k1.b, .int .u64 r.p.a, .int .u64 r.p.b, .int .u64 r.c.a, .int .u64 r.c.b] ∧ Below W.heap.size W wx)
      case first =>
        refine wp_region_held_drew (S := fun w' => Cr w' A [.int .i64 r.e, .int .u64 r.p.a, .int .u64 r.p.b, .int .u64 r.c.a, .int .u64 r.c.b, .int .u64 r.n.a, .int .u64 r.n.b] ∧ Cr w' C [.int .i64 (r.e + 1), .int .u64 r.c.a, .int .u64 r.c.b, .int .u64 r.n.a, .int .u64 r.n.b, .int .u64 k1.a, .int .u64 k1.b] ∧ Below W.heap.size W w') (by kernel_rfl) ?_ (fun hHeld => ?_)
        · exact ⟨hA, hC, hB.drew⟩
        refine tk 0 (v := ?_) rfl (by kernel_rfl) (by kernel_rfl) (by kernel_rfl) (fun _ _ _ h => h) rfl ?_ (by assumption) ?_; rotate_left; (focus (intro w hSw; (try dsimp only at hSw); obtain ⟨hA, hC, hB⟩ := hSw; have zA0 := hA.2 0 _ rfl; have zA1 := hA.2 1 _ rfl; have zA2 := hA.2 2 _ rfl; have zA3 := hA.2 3 _ rfl; have zA4 := hA.2 4 _ rfl; have zA5 := hA.2 5 _ rfl; have zA6 := hA.2 6 _ rfl; have zC0 := hC.2 0 _ rfl; have zC1 := hC.2 1 _ rfl; have zC2 := hC.2 2 _ rfl; have zC3 := hC.2 3 _ rfl; have zC4 := hC.2 4 _ rfl; have zC5 := hC.2 5 _ rfl; have zC6 := hC.2 6 _ rfl; go_simp; (try with_reducible rfl))); (try simp only [Act.put, List.setIfInBounds_toArray, List.set_cons_zero, List.set_cons_succ])
        refine tk 1 (v := ?_) rfl (by kernel_rfl) (by kernel_rfl) (by kernel_rfl) (fun _ _ _ h => h) rfl ?_ (by assumption) ?_; rotate_left; (focus (intro w hSw; (try dsimp only at hSw); obtain ⟨hA, hC, hB⟩ := hSw; have zA0 := hA.2 0 _ rfl; have zA1 := hA.2 1 _ rfl; have zA2 := hA.2 2 _ rfl; have zA3 := hA.2 3 _ rfl; have zA4 := hA.2 4 _ rfl; have zA5 := hA.2 5 _ rfl; have zA6 := hA.2 6 _ rfl; have zC0 := hC.2 0 _ rfl; have zC1 := hC.2 1 _ rfl; have zC2 := hC.2 2 _ rfl; have zC3 := hC.2 3 _ rfl; have zC4 := hC.2 4 _ rfl; have zC5 := hC.2 5 _ rfl; have zC6 := hC.2 6 _ rfl; go_simp; (try with_reducible rfl))); (try simp only [Act.put, List.setIfInBounds_toArray, List.set_cons_zero, List.set_cons_succ])
        refine tk 2 (v := ?_) rfl (by kernel_rfl) (by kernel_rfl) (by kernel_rfl) (fun _ _ _ h => h) rfl ?_ (by assumption) ?_; rotate_left; (focus (intro w hSw; (try dsimp only at hSw); obtain ⟨hA, hC, hB⟩ := hSw; have zA0 := hA.2 0 _ rfl; have zA1 := hA.2 1 _ rfl; have zA2 := hA.2 2 _ rfl; have zA3 := hA.2 3 _ rfl; have zA4 := hA.2 4 _ rfl; have zA5 := hA.2 5 _ rfl; have zA6 := hA.2 6 _ rfl; have zC0 := hC.2 0 _ rfl; have zC1 := hC.2 1 _ rfl; have zC2 := hC.2 2 _ rfl; have zC3 := hC.2 3 _ rfl; have zC4 := hC.2 4 _ rfl; have zC5 := hC.2 5 _ rfl; have zC6 := hC.2 6 _ rfl; go_simp; (try with_reducible rfl))); (try simp only [Act.put, List.setIfInBounds_toArray, List.set_cons_zero, List.set_cons_succ])
        refine tk 3 (v := ?_) rfl (by kernel_rfl) (by kernel_rfl) (by kernel_rfl) (fun _ _ _ h => h) rfl ?_ (by assumption) ?_; rotate_left; (focus (intro w hSw; (try dsimp only at hSw); obtain ⟨hA, hC, hB⟩ := hSw; have zA0 := hA.2 0 _ rfl; have zA1 := hA.2 1 _ rfl; have zA2 := hA.2 2 _ rfl; have zA3 := hA.2 3 _ rfl; have zA4 := hA.2 4 _ rfl; have zA5 := hA.2 5 _ rfl; have zA6 := hA.2 6 _ rfl; have zC0 := hC.2 0 _ rfl; have zC1 := hC.2 1 _ rfl; have zC2 := hC.2 2 _ rfl; have zC3 := hC.2 3 _ rfl; have zC4 := hC.2 4 _ rfl; have zC5 := hC.2 5 _ rfl; have zC6 := hC.2 6 _ rfl; go_simp; (try with_reducible rfl))); (try simp only [Act.put, List.setIfInBounds_toArray, List.set_cons_zero, List.set_cons_succ])
        refine tk 5 (v := ?_) rfl (by kernel_rfl) (by kernel_rfl) (by kernel_rfl) (fun _ _ _ h => h) rfl ?_ (by assumption) ?_; rotate_left; (focus (intro w hSw; (try dsimp only at hSw); obtain ⟨hA, hC, hB⟩ := hSw; have zA0 := hA.2 0 _ rfl; have zA1 := hA.2 1 _ rfl; have zA2 := hA.2 2 _ rfl; have zA3 := hA.2 3 _ rfl; have zA4 := hA.2 4 _ rfl; have zA5 := hA.2 5 _ rfl; have zA6 := hA.2 6 _ rfl; have zC0 := hC.2 0 _ rfl; have zC1 := hC.2 1 _ rfl; have zC2 := hC.2 2 _ rfl; have zC3 := hC.2 3 _ rfl; have zC4 := hC.2 4 _ rfl; have zC5 := hC.2 5 _ rfl; have zC6 := hC.2 6 _ rfl; go_simp; (try with_reducible rfl))); (try simp only [Act.put, List.setIfInBounds_toArray, List.set_cons_zero, List.set_cons_succ])
        refine tk 6 (v := ?_) rfl (by kernel_rfl) (by kernel_rfl) (by kernel_rfl) (fun _ _ _ h => h) rfl ?_ (by assumption) ?_; rotate_left; (focus (intro w hSw; (try dsimp only at hSw); obtain ⟨hA, hC, hB⟩ := hSw; have zA0 := hA.2 0 _ rfl; have zA1 := hA.2 1 _ rfl; have zA2 := hA.2 2 _ rfl; have zA3 := hA.2 3 _ rfl; have zA4 := hA.2 4 _ rfl; have zA5 := hA.2 5 _ rfl; have zA6 := hA.2 6 _ rfl; have zC0 := hC.2 0 _ rfl; have zC1 := hC.2 1 _ rfl; have zC2 := hC.2 2 _ rfl; have zC3 := hC.2 3 _ rfl; have zC4 := hC.2 4 _ rfl; have zC5 := hC.2 5 _ rfl; have zC6 := hC.2 6 _ rfl; go_simp; (try with_reducible rfl))); (try simp only [Act.put, List.setIfInBounds_toArray, List.set_cons_zero, List.set_cons_succ])
        refine tk 7 (v := ?_) rfl (by kernel_rfl) (by kernel_rfl) (by kernel_rfl) (fun _ _ _ h => h) rfl ?_ (by assumption) ?_; rotate_left; (focus (intro w hSw; (try dsimp only at hSw); obtain ⟨hA, hC, hB⟩ := hSw; have zA0 := hA.2 0 _ rfl; have zA1 := hA.2 1 _ rfl; have zA2 := hA.2 2 _ rfl; have zA3 := hA.2 3 _ rfl; have zA4 := hA.2 4 _ rfl; have zA5 := hA.2 5 _ rfl; have zA6 := hA.2 6 _ rfl; have zC0 := hC.2 0 _ rfl; have zC1 := hC.2 1 _ rfl; have zC2 := hC.2 2 _ rfl; have zC3 := hC.2 3 _ rfl; have zC4 := hC.2 4 _ rfl; have zC5 := hC.2 5 _ rfl; have zC6 := hC.2 6 _ rfl; go_simp; (try with_reducible rfl))); (try simp only [Act.put, List.setIfInBounds_toArray, List.set_cons_zero, List.set_cons_succ])
        refine tk 8 (v := ?_) rfl (by kernel_rfl) (by kernel_rfl) (by kernel_rfl) (fun _ _ _ h => h) rfl ?_ (by assumption) ?_; rotate_left; (focus (intro w hSw; (try dsimp only at hSw); obtain ⟨hA, hC, hB⟩ := hSw; have zA0 := hA.2 0 _ rfl; have zA1 := hA.2 1 _ rfl; have zA2 := hA.2 2 _ rfl; have zA3 := hA.2 3 _ rfl; have zA4 := hA.2 4 _ rfl; have zA5 := hA.2 5 _ rfl; have zA6 := hA.2 6 _ rfl; have zC0 := hC.2 0 _ rfl; have zC1 := hC.2 1 _ rfl; have zC2 := hC.2 2 _ rfl; have zC3 := hC.2 3 _ rfl; have zC4 := hC.2 4 _ rfl; have zC5 := hC.2 5 _ rfl; have zC6 := hC.2 6 _ rfl; go_simp; (try with_reducible rfl))); (try simp only [Act.put, List.setIfInBounds_toArray, List.set_cons_zero, List.set_cons_succ])
        refine twoUp 4 10 rfl rfl (by kernel_rfl) rfl rfl (fun K hK => ?_) (fun K hK => ?_)
        · go_simp
          refine (LK.out _).mono ?_
          rintro e' wk11 ⟨rfl, hk11⟩
          try go_wp2_with fail
          refine hK.out _ _ ?_ (fun hHeld2 => ?_)
          · (obtain ⟨hA, hC, hB⟩ := hHeld; exact ⟨hA.below hk11, hC.below hk11, then_ hB hk11⟩)
          clear hK hHeld
          try simp only [Act.put, List.setIfInBounds_toArray, List.set_cons_zero, List.set_cons_succ]
          have hHeld := hHeld2
          clear hHeld2
          refine tk 9 (v := ?_) rfl (by kernel_rfl) (by kernel_rfl) (by kernel_rfl) (fun _ _ _ h => h) rfl ?_ (by assumption) ?_; rotate_left; (focus (intro w hSw; (try dsimp only at hSw); obtain ⟨hA, hC, hB⟩ := hSw; have zA0 := hA.2 0 _ rfl; have zA1 := hA.2 1 _ rfl; have zA2 := hA.2 2 _ rfl; have zA3 := hA.2 3 _ rfl; have zA4 := hA.2 4 _ rfl; have zA5 := hA.2 5 _ rfl; have zA6 := hA.2 6 _ rfl; have zC0 := hC.2 0 _ rfl; have zC1 := hC.2 1 _ rfl; have zC2 := hC.2 2 _ rfl; have zC3 := hC.2 3 _ rfl; have zC4 := hC.2 4 _ rfl; have zC5 := hC.2 5 _ rfl; have zC6 := hC.2 6 _ rfl; go_simp; (try with_reducible rfl))); (try simp only [Act.put, List.setIfInBounds_toArray, List.set_cons_zero, List.set_cons_succ])
          refine only 10 rfl (by kernel_rfl) rfl (fun K hK => ?_)
          go_simp
          refine hK.out _ _ ?_ (fun hHeld2 => ?_)
          · (obtain ⟨hA, hC, hB⟩ := hHeld; exact ⟨hA.alloc _, hC.alloc _, hB.alloc hB.size _⟩)
          have hCX : CX (wk11.alloc (.cells #[.int .i64 0, .int .u64 0, .int .u64 0, .int .u64 0, .int .u64 0, .int .u64 0, .int .u64 0] 27)) wk11.heap.size := ⟨_, _, _, _, _, _, _, Ce.made (w := wk11) (l := [.int .i64 0, .int .u64 0, .int .u64 0, .int .u64 0, .int .u64 0, .int .u64 0, .int .u64 0]) rfl⟩
          have neDA : wk11.heap.size ≠ A := (by obtain ⟨hA, hC, hB⟩ := hHeld; exact Nat.ne_of_gt hA.1)
          have neDC : wk11.heap.size ≠ C := (by obtain ⟨hA, hC, hB⟩ := hHeld; exact Nat.ne_of_gt hC.1)
          have hWD : W.heap.size ≤ wk11.heap.size := (by obtain ⟨hA, hC, hB⟩ := hHeld; exact hB.size)
          obtain ⟨hA, hC, hB⟩ := id hHeld
          have PA := hid hA
          have PC := hid hC
          have PB := hid hB
          clear hB hA hC
          clear hK hHeld
          try simp only [Act.put, List.setIfInBounds_toArray, List.set_cons_zero, List.set_cons_succ]
          refine more (fun w' => CX w' (wk11.heap.size) ∧ Cr w' A [.int .i64 r.e, .int .u64 r.p.a, .int .u64 r.p.b, .int .u64 r.c.a, .int .u64 r.c.b, .int .u64 r.n.a, .int .u64 r.n.b] ∧ Cr w' C [.int .i64 (r.e + 1), .int .u64 r.c.a, .int .u64 r.c.b, .int .u64 r.n.a, .int .u64 r.n.b, .int .u64 k1.a, .int .u64 k1.b] ∧ Below W.heap.size W w') (fun w' h => h.2) ⟨hCX, hHeld2⟩ (fun hHeld => ?_)
          clear hCX hHeld2
          refine only 11 rfl (by kernel_rfl) rfl (fun K hK => ?_)
          clear hHeld
          go_simp
          refine hK.out _ _ ?_ (fun hHeld2 => ?_)
          · exact ⟨⟨_, _, _, _, _, _, _, Ce.made (w := wk11) (l := [.int .i64 (r.e - 1), .int .u64 k1.a, .int .u64 k1.b, .int .u64 r.p.a, .int .u64 r.p.b, .int .u64 r.c.a, .int .u64 r.c.b]) rfl⟩, PA.out.alloc _, PC.out.alloc _, PB.out.alloc PB.out.size _⟩
          have hNew := Ce.made (w := wk11) (l := [.int .i64 (r.e - 1), .int .u64 k1.a, .int .u64 k1.b, .int .u64 r.p.a, .int .u64 r.p.b, .int .u64 r.c.a, .int .u64 r.c.b]) (T := 27) (g := wk11.heap.size) rfl
          clear hK
          try simp only [Act.put, List.setIfInBounds_toArray, List.set_cons_zero, List.set_cons_succ]
          refine wpAnyH_done (by kernel_rfl) ?_ _
          go_wp2_with fail
          go_meet
          (obtain ⟨_, hA, hC, hB⟩ := hHeld2; exact ⟨_, rfl, hA, hC, hNew.cr, hB⟩)
        · go_simp
          refine hK.out _ _ ?_ (fun hHeld2 => ?_)
          · (obtain ⟨hA, hC, hB⟩ := hHeld; exact ⟨hA.alloc _, hC.alloc _, hB.alloc hB.size _⟩)
          have hCX : CX (wr10.drew.alloc (.cells #[.int .i64 0, .int .u64 0, .int .u64 0, .int .u64 0, .int .u64 0, .int .u64 0, .int .u64 0] 27)) wr10.heap.size := ⟨_, _, _, _, _, _, _, Ce.made (w := wr10.drew) (l := [.int .i64 0, .int .u64 0, .int .u64 0, .int .u64 0, .int .u64 0, .int .u64 0, .int .u64 0]) rfl⟩
          have neDA : wr10.heap.size ≠ A := (by obtain ⟨hA, hC, hB⟩ := hHeld; exact Nat.ne_of_gt hA.1)
          have neDC : wr10.heap.size ≠ C := (by obtain ⟨hA, hC, hB⟩ := hHeld; exact Nat.ne_of_gt hC.1)
          have hWD : W.heap.size ≤ wr10.heap.size := (by obtain ⟨hA, hC, hB⟩ := hHeld; exact hB.size)
          obtain ⟨hA, hC, hB⟩ := id hHeld
          have PA := hid hA
          have PC := hid hC
          have PB := hid hB
          clear hB hA hC
          clear hK hHeld
          try simp only [Act.put, List.setIfInBounds_toArray, List.set_cons_zero, List.set_cons_succ]
          refine more (fun w' => CX w' (wr10.heap.size) ∧ Cr w' A [.int .i64 r.e, .int .u64 r.p.a, .int .u64 r.p.b, .int .u64 r.c.a, .int .u64 r.c.b, .int .u64 r.n.a, .int .u64 r.n.b] ∧ Cr w' C [.int .i64 (r.e + 1), .int .u64 r.c.a, .int .u64 r.c.b, .int .u64 r.n.a, .int .u64 r.n.b, .int .u64 k1.a, .int .u64 k1.b] ∧ Below W.heap.size W w') (fun w' h => h.2) ⟨hCX, hHeld2⟩ (fun hHeld => ?_)
          clear hCX hHeld2
          refine only 4 rfl (by kernel_rfl) rfl (fun K hK => ?_)
          go_simp
          refine (LK.out _).mono ?_
          rintro e' wk11 ⟨rfl, hk11⟩
          try go_wp2_with fail
          refine hK.out _ _ ?_ (fun hHeld2 => ?_)
          · (obtain ⟨hX, hA, hC, hB⟩ := hHeld; exact ⟨hX.below hk11, hA.below hk11, hC.below hk11, then_ hB hk11⟩)
          clear hK hHeld
          try simp only [Act.put, List.setIfInBounds_toArray, List.set_cons_zero, List.set_cons_succ]
          have hHeld := hHeld2
          clear hHeld2
          refine tk 9 (v := ?_) rfl (by kernel_rfl) (by kernel_rfl) (by kernel_rfl) (fun _ _ _ h => h) rfl ?_ (by assumption) ?_; rotate_left; (focus (intro w hSw; (try dsimp only at hSw); obtain ⟨hX, hA, hC, hB⟩ := hSw; have zA0 := hA.2 0 _ rfl; have zA1 := hA.2 1 _ rfl; have zA2 := hA.2 2 _ rfl; have zA3 := hA.2 3 _ rfl; have zA4 := hA.2 4 _ rfl; have zA5 := hA.2 5 _ rfl; have zA6 := hA.2 6 _ rfl; have zC0 := hC.2 0 _ rfl; have zC1 := hC.2 1 _ rfl; have zC2 := hC.2 2 _ rfl; have zC3 := hC.2 3 _ rfl; have zC4 := hC.2 4 _ rfl; have zC5 := hC.2 5 _ rfl; have zC6 := hC.2 6 _ rfl; go_simp; (try with_reducible rfl))); (try simp only [Act.put, List.setIfInBounds_toArray, List.set_cons_zero, List.set_cons_succ])
          refine only 11 rfl (by kernel_rfl) rfl (fun K hK => ?_)
          obtain ⟨⟨x0, x1, x2, x3, x4, x5, x6, hE⟩, hA, hC, hB⟩ := hHeld
          have y0 := hE.2.1 0 _ rfl
          have y1 := hE.2.1 1 _ rfl
          have y2 := hE.2.1 2 _ rfl
          have y3 := hE.2.1 3 _ rfl
          have y4 := hE.2.1 4 _ rfl
          have y5 := hE.2.1 5 _ rfl
          have y6 := hE.2.1 6 _ rfl
          have yl := hE.1
          have yf := hE.2.2
          have HE := hid hE
          have HA := hid hA
          have HC := hid hC
          have HB := hid hB
          clear hE hB hA hC
          go_simp
          refine hK.out _ _ ?_ (fun hHeld2 => ?_)
          · exact ⟨⟨_, _, _, _, _, _, _, HE.out.set7 (.int .i64 (r.e - 1)) (.int .u64 k1.a) (.int .u64 k1.b) (.int .u64 r.p.a) (.int .u64 r.p.b) (.int .u64 r.c.a) (.int .u64 r.c.b)⟩, HA.out.set7 neDA, HC.out.set7 neDC, below_set7 HB.out hWD⟩
          have hNew := HE.out.set7 (.int .i64 (r.e - 1)) (.int .u64 k1.a) (.int .u64 k1.b) (.int .u64 r.p.a) (.int .u64 r.p.b) (.int .u64 r.c.a) (.int .u64 r.c.b)
          clear hK
          try simp only [Act.put, List.setIfInBounds_toArray, List.set_cons_zero, List.set_cons_succ]
          refine wpAnyH_done (by kernel_rfl) ?_ _
          go_wp2_with fail
          go_meet
          (obtain ⟨_, hA, hC, hB⟩ := hHeld2; exact ⟨_, rfl, hA, hC, hNew.cr, hB⟩)
      case rest =>
        clear hA hC hB
        obtain ⟨D, rfl, hA, hC, hD, hB⟩ := hcut
        obtain ⟨wd, rfl⟩ : ∃ wd : World, wd = wc := ⟨_, rfl⟩
        go_wp2_with fail
        refine wp_region_held_drew (S := fun w' => Cr w' A [.int .i64 r.e, .int .u64 r.p.a, .int .u64 r.p.b, .int .u64 r.c.a, .int .u64 r.c.b, .int .u64 r.n.a, .int .u64 r.n.b] ∧ Cr w' C [.int .i64 (r.e + 1), .int .u64 r.c.a, .int .u64 r.c.b, .int .u64 r.n.a, .int .u64 r.n.b, .int .u64 k1.a, .int .u64 k1.b] ∧ Cr w' D [.int .i64 (r.e - 1), .int .u64 k1.a, .int .u64 k1.b, .int .u64 r.p.a, .int .u64 r.p.b, .int .u64 r.c.a, .int .u64 r.c.b] ∧ Below W.heap.size W w') (by kernel_rfl) ?_ (fun hHeld => ?_)
        · exact ⟨hA, hC, hD, hB.drew⟩
        refine tk 0 (v := ?_) rfl (by kernel_rfl) (by kernel_rfl) (by kernel_rfl) (fun _ _ _ h => h) rfl ?_ (by assumption) ?_; rotate_left; (focus (intro w hSw; (try dsimp only at hSw); obtain ⟨hA, hC, hD, hB⟩ := hSw; have zA0 := hA.2 0 _ rfl; have zA1 := hA.2 1 _ rfl; have zA2 := hA.2 2 _ rfl; have zA3 := hA.2 3 _ rfl; have zA4 := hA.2 4 _ rfl; have zA5 := hA.2 5 _ rfl; have zA6 := hA.2 6 _ rfl; have zC0 := hC.2 0 _ rfl; have zC1 := hC.2 1 _ rfl; have zC2 := hC.2 2 _ rfl; have zC3 := hC.2 3 _ rfl; have zC4 := hC.2 4 _ rfl; have zC5 := hC.2 5 _ rfl; have zC6 := hC.2 6 _ rfl; have zD0 := hD.2 0 _ rfl; have zD1 := hD.2 1 _ rfl; have zD2 := hD.2 2 _ rfl; have zD3 := hD.2 3 _ rfl; have zD4 := hD.2 4 _ rfl; have zD5 := hD.2 5 _ rfl; have zD6 := hD.2 6 _ rfl; go_simp; (try with_reducible rfl))); (try simp only [Act.put, List.setIfInBounds_toArray, List.set_cons_zero, List.set_cons_succ])
        refine tk 1 (v := ?_) rfl (by kernel_rfl) (by kernel_rfl) (by kernel_rfl) (fun _ _ _ h => h) rfl ?_ (by assumption) ?_; rotate_left; (focus (intro w hSw; (try dsimp only at hSw); obtain ⟨hA, hC, hD, hB⟩ := hSw; have zA0 := hA.2 0 _ rfl; have zA1 := hA.2 1 _ rfl; have zA2 := hA.2 2 _ rfl; have zA3 := hA.2 3 _ rfl; have zA4 := hA.2 4 _ rfl; have zA5 := hA.2 5 _ rfl; have zA6 := hA.2 6 _ rfl; have zC0 := hC.2 0 _ rfl; have zC1 := hC.2 1 _ rfl; have zC2 := hC.2 2 _ rfl; have zC3 := hC.2 3 _ rfl; have zC4 := hC.2 4 _ rfl; have zC5 := hC.2 5 _ rfl; have zC6 := hC.2 6 _ rfl; have zD0 := hD.2 0 _ rfl; have zD1 := hD.2 1 _ rfl; have zD2 := hD.2 2 _ rfl; have zD3 := hD.2 3 _ rfl; have zD4 := hD.2 4 _ rfl; have zD5 := hD.2 5 _ rfl; have zD6 := hD.2 6 _ rfl; go_simp; (try with_reducible rfl))); (try simp only [Act.put, List.setIfInBounds_toArray, List.set_cons_zero, List.set_cons_succ])
        refine tk 2 (v := ?_) rfl (by kernel_rfl) (by kernel_rfl) (by kernel_rfl) (fun _ _ _ h => h) rfl ?_ (by assumption) ?_; rotate_left; (focus (intro w hSw; (try dsimp only at hSw); obtain ⟨hA, hC, hD, hB⟩ := hSw; have zA0 := hA.2 0 _ rfl; have zA1 := hA.2 1 _ rfl; have zA2 := hA.2 2 _ rfl; have zA3 := hA.2 3 _ rfl; have zA4 := hA.2 4 _ rfl; have zA5 := hA.2 5 _ rfl; have zA6 := hA.2 6 _ rfl; have zC0 := hC.2 0 _ rfl; have zC1 := hC.2 1 _ rfl; have zC2 := hC.2 2 _ rfl; have zC3 := hC.2 3 _ rfl; have zC4 := hC.2 4 _ rfl; have zC5 := hC.2 5 _ rfl; have zC6 := hC.2 6 _ rfl; have zD0 := hD.2 0 _ rfl; have zD1 := hD.2 1 _ rfl; have zD2 := hD.2 2 _ rfl; have zD3 := hD.2 3 _ rfl; have zD4 := hD.2 4 _ rfl; have zD5 := hD.2 5 _ rfl; have zD6 := hD.2 6 _ rfl; go_simp; (try with_reducible rfl))); (try simp only [Act.put, List.setIfInBounds_toArray, List.set_cons_zero, List.set_cons_succ])
        refine tk 3 (v := ?_) rfl (by kernel_rfl) (by kernel_rfl) (by kernel_rfl) (fun _ _ _ h => h) rfl ?_ (by assumption) ?_; rotate_left; (focus (intro w hSw; (try dsimp only at hSw); obtain ⟨hA, hC, hD, hB⟩ := hSw; have zA0 := hA.2 0 _ rfl; have zA1 := hA.2 1 _ rfl; have zA2 := hA.2 2 _ rfl; have zA3 := hA.2 3 _ rfl; have zA4 := hA.2 4 _ rfl; have zA5 := hA.2 5 _ rfl; have zA6 := hA.2 6 _ rfl; have zC0 := hC.2 0 _ rfl; have zC1 := hC.2 1 _ rfl; have zC2 := hC.2 2 _ rfl; have zC3 := hC.2 3 _ rfl; have zC4 := hC.2 4 _ rfl; have zC5 := hC.2 5 _ rfl; have zC6 := hC.2 6 _ rfl; have zD0 := hD.2 0 _ rfl; have zD1 := hD.2 1 _ rfl; have zD2 := hD.2 2 _ rfl; have zD3 := hD.2 3 _ rfl; have zD4 := hD.2 4 _ rfl; have zD5 := hD.2 5 _ rfl; have zD6 := hD.2 6 _ rfl; go_simp; (try with_reducible rfl))); (try simp only [Act.put, List.setIfInBounds_toArray, List.set_cons_zero, List.set_cons_succ])
        refine tk 5 (v := ?_) rfl (by kernel_rfl) (by kernel_rfl) (by kernel_rfl) (fun _ _ _ h => h) rfl ?_ (by assumption) ?_; rotate_left; (focus (intro w hSw; (try dsimp only at hSw); obtain ⟨hA, hC, hD, hB⟩ := hSw; have zA0 := hA.2 0 _ rfl; have zA1 := hA.2 1 _ rfl; have zA2 := hA.2 2 _ rfl; have zA3 := hA.2 3 _ rfl; have zA4 := hA.2 4 _ rfl; have zA5 := hA.2 5 _ rfl; have zA6 := hA.2 6 _ rfl; have zC0 := hC.2 0 _ rfl; have zC1 := hC.2 1 _ rfl; have zC2 := hC.2 2 _ rfl; have zC3 := hC.2 3 _ rfl; have zC4 := hC.2 4 _ rfl; have zC5 := hC.2 5 _ rfl; have zC6 := hC.2 6 _ rfl; have zD0 := hD.2 0 _ rfl; have zD1 := hD.2 1 _ rfl; have zD2 := hD.2 2 _ rfl; have zD3 := hD.2 3 _ rfl; have zD4 := hD.2 4 _ rfl; have zD5 := hD.2 5 _ rfl; have zD6 := hD.2 6 _ rfl; go_simp; (try with_reducible rfl))); (try simp only [Act.put, List.setIfInBounds_toArray, List.set_cons_zero, List.set_cons_succ])
        refine only 4 rfl (by kernel_rfl) rfl (fun K hK => ?_)
        go_simp
        refine (LF.out _).mono ?_
        rintro e' wf12 ⟨rfl, hf12⟩
        try go_wp2_with fail
        refine hK.out _ _ ?_ (fun hHeld2 => ?_)
        · (obtain ⟨hA, hC, hD, hB⟩ := hHeld; exact ⟨hA.below hf12, hC.below hf12, hD.below hf12, then_ hB hf12⟩)
        clear hK hHeld
        try simp only [Act.put, List.setIfInBounds_toArray, List.set_cons_zero, List.set_cons_succ]
        have hHeld := hHeld2
        clear hHeld2
        refine only 6 rfl (by kernel_rfl) rfl (fun K hK => ?_)
        go_simp
        refine (RP.out _).mono ?_
        rintro e' wr12 ⟨rfl, hr12⟩
        try go_wp2_with fail
        refine hK.out _ _ ?_ (fun hHeld2 => ?_)
        · (obtain ⟨hA, hC, hD, hB⟩ := hHeld; exact ⟨hA.below hr12, hC.below hr12, hD.below hr12, then_ hB hr12⟩)
        clear hK hHeld
        try simp only [Act.put, List.setIfInBounds_toArray, List.set_cons_zero, List.set_cons_succ]
        have hHeld := hHeld2
        clear hHeld2
        refine tk 7 (v := ?_) rfl (by kernel_rfl) (by kernel_rfl) (by kernel_rfl) (fun _ _ _ h => h) rfl ?_ (by assumption) ?_; rotate_left; (focus (intro w hSw; (try dsimp only at hSw); obtain ⟨hA, hC, hD, hB⟩ := hSw; have zA0 := hA.2 0 _ rfl; have zA1 := hA.2 1 _ rfl; have zA2 := hA.2 2 _ rfl; have zA3 := hA.2 3 _ rfl; have zA4 := hA.2 4 _ rfl; have zA5 := hA.2 5 _ rfl; have zA6 := hA.2 6 _ rfl; have zC0 := hC.2 0 _ rfl; have zC1 := hC.2 1 _ rfl; have zC2 := hC.2 2 _ rfl; have zC3 := hC.2 3 _ rfl; have zC4 := hC.2 4 _ rfl; have zC5 := hC.2 5 _ rfl; have zC6 := hC.2 6 _ rfl; have zD0 := hD.2 0 _ rfl; have zD1 := hD.2 1 _ rfl; have zD2 := hD.2 2 _ rfl; have zD3 := hD.2 3 _ rfl; have zD4 := hD.2 4 _ rfl; have zD5 := hD.2 5 _ rfl; have zD6 := hD.2 6 _ rfl; go_simp; (try with_reducible rfl))); (try simp only [Act.put, List.setIfInBounds_toArray, List.set_cons_zero, List.set_cons_succ])
        refine tk 8 (v := ?_) rfl (by kernel_rfl) (by kernel_rfl) (by kernel_rfl) (fun _ _ _ h => h) rfl ?_ (by assumption) ?_; rotate_left; (focus (intro w hSw; (try dsimp only at hSw); obtain ⟨hA, hC, hD, hB⟩ := hSw; have zA0 := hA.2 0 _ rfl; have zA1 := hA.2 1 _ rfl; have zA2 := hA.2 2 _ rfl; have zA3 := hA.2 3 _ rfl; have zA4 := hA.2 4 _ rfl; have zA5 := hA.2 5 _ rfl; have zA6 := hA.2 6 _ rfl; have zC0 := hC.2 0 _ rfl; have zC1 := hC.2 1 _ rfl; have zC2 := hC.2 2 _ rfl; have zC3 := hC.2 3 _ rfl; have zC4 := hC.2 4 _ rfl; have zC5 := hC.2 5 _ rfl; have zC6 := hC.2 6 _ rfl; have zD0 := hD.2 0 _ rfl; have zD1 := hD.2 1 _ rfl; have zD2 := hD.2 2 _ rfl; have zD3 := hD.2 3 _ rfl; have zD4 := hD.2 4 _ rfl; have zD5 := hD.2 5 _ rfl; have zD6 := hD.2 6 _ rfl; go_simp; (try with_reducible rfl))); (try simp only [Act.put, List.setIfInBounds_toArray, List.set_cons_zero, List.set_cons_succ])
        refine tk 9 (v := ?_) rfl (by kernel_rfl) (by kernel_rfl) (by kernel_rfl) (fun _ _ _ h => h) rfl ?_ (by assumption) ?_; rotate_left; (focus (intro w hSw; (try dsimp only at hSw); obtain ⟨hA, hC, hD, hB⟩ := hSw; have zA0 := hA.2 0 _ rfl; have zA1 := hA.2 1 _ rfl; have zA2 := hA.2 2 _ rfl; have zA3 := hA.2 3 _ rfl; have zA4 := hA.2 4 _ rfl; have zA5 := hA.2 5 _ rfl; have zA6 := hA.2 6 _ rfl; have zC0 := hC.2 0 _ rfl; have zC1 := hC.2 1 _ rfl; have zC2 := hC.2 2 _ rfl; have zC3 := hC.2 3 _ rfl; have zC4 := hC.2 4 _ rfl; have zC5 := hC.2 5 _ rfl; have zC6 := hC.2 6 _ rfl; have zD0 := hD.2 0 _ rfl; have zD1 := hD.2 1 _ rfl; have zD2 := hD.2 2 _ rfl; have zD3 := hD.2 3 _ rfl; have zD4 := hD.2 4 _ rfl; have zD5 := hD.2 5 _ rfl; have zD6 := hD.2 6 _ rfl; go_simp; (try with_reducible rfl))); (try simp only [Act.put, List.setIfInBounds_toArray, List.set_cons_zero, List.set_cons_succ])
        refine tk 10 (v := ?_) rfl (by kernel_rfl) (by kernel_rfl) (by kernel_rfl) (fun _ _ _ h => h) rfl ?_ (by assumption) ?_; rotate_left; (focus (intro w hSw; (try dsimp only at hSw); obtain ⟨hA, hC, hD, hB⟩ := hSw; have zA0 := hA.2 0 _ rfl; have zA1 := hA.2 1 _ rfl; have zA2 := hA.2 2 _ rfl; have zA3 := hA.2 3 _ rfl; have zA4 := hA.2 4 _ rfl; have zA5 := hA.2 5 _ rfl; have zA6 := hA.2 6 _ rfl; have zC0 := hC.2 0 _ rfl; have zC1 := hC.2 1 _ rfl; have zC2 := hC.2 2 _ rfl; have zC3 := hC.2 3 _ rfl; have zC4 := hC.2 4 _ rfl; have zC5 := hC.2 5 _ rfl; have zC6 := hC.2 6 _ rfl; have zD0 := hD.2 0 _ rfl; have zD1 := hD.2 1 _ rfl; have zD2 := hD.2 2 _ rfl; have zD3 := hD.2 3 _ rfl; have zD4 := hD.2 4 _ rfl; have zD5 := hD.2 5 _ rfl; have zD6 := hD.2 6 _ rfl; go_simp; (try with_reducible rfl))); (try simp only [Act.put, List.setIfInBounds_toArray, List.set_cons_zero, List.set_cons_succ])
        refine tk 11 (v := ?_) rfl (by kernel_rfl) (by kernel_rfl) (by kernel_rfl) (fun _ _ _ h => h) rfl ?_ (by assumption) ?_; rotate_left; (focus (intro w hSw; (try dsimp only at hSw); obtain ⟨hA, hC, hD, hB⟩ := hSw; have zA0 := hA.2 0 _ rfl; have zA1 := hA.2 1 _ rfl; have zA2 := hA.2 2 _ rfl; have zA3 := hA.2 3 _ rfl; have zA4 := hA.2 4 _ rfl; have zA5 := hA.2 5 _ rfl; have zA6 := hA.2 6 _ rfl; have zC0 := hC.2 0 _ rfl; have zC1 := hC.2 1 _ rfl; have zC2 := hC.2 2 _ rfl; have zC3 := hC.2 3 _ rfl; have zC4 := hC.2 4 _ rfl; have zC5 := hC.2 5 _ rfl; have zC6 := hC.2 6 _ rfl; have zD0 := hD.2 0 _ rfl; have zD1 := hD.2 1 _ rfl; have zD2 := hD.2 2 _ rfl; have zD3 := hD.2 3 _ rfl; have zD4 := hD.2 4 _ rfl; have zD5 := hD.2 5 _ rfl; have zD6 := hD.2 6 _ rfl; go_simp; (try with_reducible rfl))); (try simp only [Act.put, List.setIfInBounds_toArray, List.set_cons_zero, List.set_cons_succ])
        refine wpAnyH_done (by kernel_rfl) ?_ _
        obtain ⟨hA, hC, hD, hB⟩ := hHeld
        go_wp2_with fail
        refine wp_region_held_drew (S := fun w' => Cr w' A [.int .i64 r.e, .int .u64 r.p.a, .int .u64 r.p.b, .int .u64 r.c.a, .int .u64 r.c.b, .int .u64 r.n.a, .int .u64 r.n.b] ∧ Cr w' C [.int .i64 (r.e + 1), .int .u64 r.c.a, .int .u64 r.c.b, .int .u64 r.n.a, .int .u64 r.n.b, .int .u64 k1.a, .int .u64 k1.b] ∧ Below W.heap.size W w') (by kernel_rfl) ?_ (fun hHeld => ?_)
        · exact ⟨hA, hC, hB.drew⟩
        refine tk 0 (v := ?_) rfl (by kernel_rfl) (by kernel_rfl) (by kernel_rfl) (fun _ _ _ h => h) rfl ?_ (by assumption) ?_; rotate_left; (focus (intro w hSw; (try dsimp only at hSw); obtain ⟨hA, hC, hB⟩ := hSw; have zA0 := hA.2 0 _ rfl; have zA1 := hA.2 1 _ rfl; have zA2 := hA.2 2 _ rfl; have zA3 := hA.2 3 _ rfl; have zA4 := hA.2 4 _ rfl; have zA5 := hA.2 5 _ rfl; have zA6 := hA.2 6 _ rfl; have zC0 := hC.2 0 _ rfl; have zC1 := hC.2 1 _ rfl; have zC2 := hC.2 2 _ rfl; have zC3 := hC.2 3 _ rfl; have zC4 := hC.2 4 _ rfl; have zC5 := hC.2 5 _ rfl; have zC6 := hC.2 6 _ rfl; go_simp; (try with_reducible rfl))); (try simp only [Act.put, List.setIfInBounds_toArray, List.set_cons_zero, List.set_cons_succ])
        refine tk 1 (v := ?_) rfl (by kernel_rfl) (by kernel_rfl) (by kernel_rfl) (fun _ _ _ h => h) rfl ?_ (by assumption) ?_; rotate_left; (focus (intro w hSw; (try dsimp only at hSw); obtain ⟨hA, hC, hB⟩ := hSw; have zA0 := hA.2 0 _ rfl; have zA1 := hA.2 1 _ rfl; have zA2 := hA.2 2 _ rfl; have zA3 := hA.2 3 _ rfl; have zA4 := hA.2 4 _ rfl; have zA5 := hA.2 5 _ rfl; have zA6 := hA.2 6 _ rfl; have zC0 := hC.2 0 _ rfl; have zC1 := hC.2 1 _ rfl; have zC2 := hC.2 2 _ rfl; have zC3 := hC.2 3 _ rfl; have zC4 := hC.2 4 _ rfl; have zC5 := hC.2 5 _ rfl; have zC6 := hC.2 6 _ rfl; go_simp; (try with_reducible rfl))); (try simp only [Act.put, List.setIfInBounds_toArray, List.set_cons_zero, List.set_cons_succ])
        refine tk 2 (v := ?_) rfl (by kernel_rfl) (by kernel_rfl) (by kernel_rfl) (fun _ _ _ h => h) rfl ?_ (by assumption) ?_; rotate_left; (focus (intro w hSw; (try dsimp only at hSw); obtain ⟨hA, hC, hB⟩ := hSw; have zA0 := hA.2 0 _ rfl; have zA1 := hA.2 1 _ rfl; have zA2 := hA.2 2 _ rfl; have zA3 := hA.2 3 _ rfl; have zA4 := hA.2 4 _ rfl; have zA5 := hA.2 5 _ rfl; have zA6 := hA.2 6 _ rfl; have zC0 := hC.2 0 _ rfl; have zC1 := hC.2 1 _ rfl; have zC2 := hC.2 2 _ rfl; have zC3 := hC.2 3 _ rfl; have zC4 := hC.2 4 _ rfl; have zC5 := hC.2 5 _ rfl; have zC6 := hC.2 6 _ rfl; go_simp; (try with_reducible rfl))); (try simp only [Act.put, List.setIfInBounds_toArray, List.set_cons_zero, List.set_cons_succ])
        refine tk 5 (v := ?_) rfl (by kernel_rfl) (by kernel_rfl) (by kernel_rfl) (fun _ _ _ h => h) rfl ?_ (by assumption) ?_; rotate_left; (focus (intro w hSw; (try dsimp only at hSw); obtain ⟨hA, hC, hB⟩ := hSw; have zA0 := hA.2 0 _ rfl; have zA1 := hA.2 1 _ rfl; have zA2 := hA.2 2 _ rfl; have zA3 := hA.2 3 _ rfl; have zA4 := hA.2 4 _ rfl; have zA5 := hA.2 5 _ rfl; have zA6 := hA.2 6 _ rfl; have zC0 := hC.2 0 _ rfl; have zC1 := hC.2 1 _ rfl; have zC2 := hC.2 2 _ rfl; have zC3 := hC.2 3 _ rfl; have zC4 := hC.2 4 _ rfl; have zC5 := hC.2 5 _ rfl; have zC6 := hC.2 6 _ rfl; go_simp; (try with_reducible rfl))); (try simp only [Act.put, List.setIfInBounds_toArray, List.set_cons_zero, List.set_cons_succ])
        refine tk 6 (v := ?_) rfl (by kernel_rfl) (by kernel_rfl) (by kernel_rfl) (fun _ _ _ h => h) rfl ?_ (by assumption) ?_; rotate_left; (focus (intro w hSw; (try dsimp only at hSw); obtain ⟨hA, hC, hB⟩ := hSw; have zA0 := hA.2 0 _ rfl; have zA1 := hA.2 1 _ rfl; have zA2 := hA.2 2 _ rfl; have zA3 := hA.2 3 _ rfl; have zA4 := hA.2 4 _ rfl; have zA5 := hA.2 5 _ rfl; have zA6 := hA.2 6 _ rfl; have zC0 := hC.2 0 _ rfl; have zC1 := hC.2 1 _ rfl; have zC2 := hC.2 2 _ rfl; have zC3 := hC.2 3 _ rfl; have zC4 := hC.2 4 _ rfl; have zC5 := hC.2 5 _ rfl; have zC6 := hC.2 6 _ rfl; go_simp; (try with_reducible rfl))); (try simp only [Act.put, List.setIfInBounds_toArray, List.set_cons_zero, List.set_cons_succ])
        refine tk 7 (v := ?_) rfl (by kernel_rfl) (by kernel_rfl) (by kernel_rfl) (fun _ _ _ h => h) rfl ?_ (by assumption) ?_; rotate_left; (focus (intro w hSw; (try dsimp only at hSw); obtain ⟨hA, hC, hB⟩ := hSw; have zA0 := hA.2 0 _ rfl; have zA1 := hA.2 1 _ rfl; have zA2 := hA.2 2 _ rfl; have zA3 := hA.2 3 _ rfl; have zA4 := hA.2 4 _ rfl; have zA5 := hA.2 5 _ rfl; have zA6 := hA.2 6 _ rfl; have zC0 := hC.2 0 _ rfl; have zC1 := hC.2 1 _ rfl; have zC2 := hC.2 2 _ rfl; have zC3 := hC.2 3 _ rfl; have zC4 := hC.2 4 _ rfl; have zC5 := hC.2 5 _ rfl; have zC6 := hC.2 6 _ rfl; go_simp; (try with_reducible rfl))); (try simp only [Act.put, List.setIfInBounds_toArray, List.set_cons_zero, List.set_cons_succ])
        refine tk 9 (v := ?_) rfl (by kernel_rfl) (by kernel_rfl) (by kernel_rfl) (fun _ _ _ h => h) rfl ?_ (by assumption) ?_; rotate_left; (focus (intro w hSw; (try dsimp only at hSw); obtain ⟨hA, hC, hB⟩ := hSw; have zA0 := hA.2 0 _ rfl; have zA1 := hA.2 1 _ rfl; have zA2 := hA.2 2 _ rfl; have zA3 := hA.2 3 _ rfl; have zA4 := hA.2 4 _ rfl; have zA5 := hA.2 5 _ rfl; have zA6 := hA.2 6 _ rfl; have zC0 := hC.2 0 _ rfl; have zC1 := hC.2 1 _ rfl; have zC2 := hC.2 2 _ rfl; have zC3 := hC.2 3 _ rfl; have zC4 := hC.2 4 _ rfl; have zC5 := hC.2 5 _ rfl; have zC6 := hC.2 6 _ rfl; go_simp; (try with_reducible rfl))); (try simp only [Act.put, List.setIfInBounds_toArray, List.set_cons_zero, List.set_cons_succ])
        refine only 3 rfl (by kernel_rfl) rfl (fun K hK => ?_)
        go_simp
        refine (LK3.out _).mono ?_
        rintro e' wk13 ⟨rfl, hk13⟩
        try go_wp2_with fail
        refine hK.out _ _ ?_ (fun hHeld2 => ?_)
        · (obtain ⟨hA, hC, hB⟩ := hHeld; exact ⟨hA.below hk13, hC.below hk13, then_ hB hk13⟩)
        clear hK hHeld
        try simp only [Act.put, List.setIfInBounds_toArray, List.set_cons_zero, List.set_cons_succ]
        have hHeld := hHeld2
        clear hHeld2
        refine only 4 rfl (by kernel_rfl) rfl (fun K hK => ?_)
        go_simp
        refine (NX2.out _).mono ?_
        rintro e' wn13 ⟨rfl, hn13⟩
        try go_wp2_with fail
        refine hK.out _ _ ?_ (fun hHeld2 => ?_)
        · (obtain ⟨hA, hC, hB⟩ := hHeld; exact ⟨hA.below hn13, hC.below hn13, then_ hB hn13⟩)
        clear hK hHeld
        try simp only [Act.put, List.setIfInBounds_toArray, List.set_cons_zero, List.set_cons_succ]
        have hHeld := hHeld2
        clear hHeld2
        refine only 8 rfl (by kernel_rfl) rfl (fun K hK => ?_)
        go_simp
        refine (LF.out _).mono ?_
        rintro e' wf13 ⟨rfl, hf13⟩
        try go_wp2_with fail
        refine hK.out _ _ ?_ (fun hHeld2 => ?_)
        · (obtain ⟨hA, hC, hB⟩ := hHeld; exact ⟨hA.below hf13, hC.below hf13, then_ hB hf13⟩)
        clear hK hHeld
        try simp only [Act.put, List.setIfInBounds_toArray, List.set_cons_zero, List.set_cons_succ]
        have hHeld := hHeld2
        clear hHeld2
        refine only 10 rfl (by kernel_rfl) rfl (fun K hK => ?_)
        go_simp
        refine (RQ2.out _).mono ?_
        rintro e' wr13 ⟨rfl, hr13⟩
        try go_wp2_with fail
        refine hK.out _ _ ?_ (fun hHeld2 => ?_)
        · (obtain ⟨hA, hC, hB⟩ := hHeld; exact ⟨hA.below hr13, hC.below hr13, then_ hB hr13⟩)
        clear hK hHeld
        try simp only [Act.put, List.setIfInBounds_toArray, List.set_cons_zero, List.set_cons_succ]
        have hHeld := hHeld2
        clear hHeld2
        refine tk 11 (v := ?_) rfl (by kernel_rfl) (by kernel_rfl) (by kernel_rfl) (fun _ _ _ h => h) rfl ?_ (by assumption) ?_; rotate_left; (focus (intro w hSw; (try dsimp only at hSw); obtain ⟨hA, hC, hB⟩ := hSw; have zA0 := hA.2 0 _ rfl; have zA1 := hA.2 1 _ rfl; have zA2 := hA.2 2 _ rfl; have zA3 := hA.2 3 _ rfl; have zA4 := hA.2 4 _ rfl; have zA5 := hA.2 5 _ rfl; have zA6 := hA.2 6 _ rfl; have zC0 := hC.2 0 _ rfl; have zC1 := hC.2 1 _ rfl; have zC2 := hC.2 2 _ rfl; have zC3 := hC.2 3 _ rfl; have zC4 := hC.2 4 _ rfl; have zC5 := hC.2 5 _ rfl; have zC6 := hC.2 6 _ rfl; go_simp; (try with_reducible rfl))); (try simp only [Act.put, List.setIfInBounds_toArray, List.set_cons_zero, List.set_cons_succ])
        refine tk 12 (v := ?_) rfl (by kernel_rfl) (by kernel_rfl) (by kernel_rfl) (fun _ _ _ h => h) rfl ?_ (by assumption) ?_; rotate_left; (focus (intro w hSw; (try dsimp only at hSw); obtain ⟨hA, hC, hB⟩ := hSw; have zA0 := hA.2 0 _ rfl; have zA1 := hA.2 1 _ rfl; have zA2 := hA.2 2 _ rfl; have zA3 := hA.2 3 _ rfl; have zA4 := hA.2 4 _ rfl; have zA5 := hA.2 5 _ rfl; have zA6 := hA.2 6 _ rfl; have zC0 := hC.2 0 _ rfl; have zC1 := hC.2 1 _ rfl; have zC2 := hC.2 2 _ rfl; have zC3 := hC.2 3 _ rfl; have zC4 := hC.2 4 _ rfl; have zC5 := hC.2 5 _ rfl; have zC6 := hC.2 6 _ rfl; go_simp; (try with_reducible rfl))); (try simp only [Act.put, List.setIfInBounds_toArray, List.set_cons_zero, List.set_cons_succ])
        refine tk 13 (v := ?_) rfl (by kernel_rfl) (by kernel_rfl) (by kernel_rfl) (fun _ _ _ h => h) rfl ?_ (by assumption) ?_; rotate_left; (focus (intro w hSw; (try dsimp only at hSw); obtain ⟨hA, hC, hB⟩ := hSw; have zA0 := hA.2 0 _ rfl; have zA1 := hA.2 1 _ rfl; have zA2 := hA.2 2 _ rfl; have zA3 := hA.2 3 _ rfl; have zA4 := hA.2 4 _ rfl; have zA5 := hA.2 5 _ rfl; have zA6 := hA.2 6 _ rfl; have zC0 := hC.2 0 _ rfl; have zC1 := hC.2 1 _ rfl; have zC2 := hC.2 2 _ rfl; have zC3 := hC.2 3 _ rfl; have zC4 := hC.2 4 _ rfl; have zC5 := hC.2 5 _ rfl; have zC6 := hC.2 6 _ rfl; go_simp; (try with_reducible rfl))); (try simp only [Act.put, List.setIfInBounds_toArray, List.set_cons_zero, List.set_cons_succ])
        refine tk 14 (v := ?_) rfl (by kernel_rfl) (by kernel_rfl) (by kernel_rfl) (fun _ _ _ h => h) rfl ?_ (by assumption) ?_; rotate_left; (focus (intro w hSw; (try dsimp only at hSw); obtain ⟨hA, hC, hB⟩ := hSw; have zA0 := hA.2 0 _ rfl; have zA1 := hA.2 1 _ rfl; have zA2 := hA.2 2 _ rfl; have zA3 := hA.2 3 _ rfl; have zA4 := hA.2 4 _ rfl; have zA5 := hA.2 5 _ rfl; have zA6 := hA.2 6 _ rfl; have zC0 := hC.2 0 _ rfl; have zC1 := hC.2 1 _ rfl; have zC2 := hC.2 2 _ rfl; have zC3 := hC.2 3 _ rfl; have zC4 := hC.2 4 _ rfl; have zC5 := hC.2 5 _ rfl; have zC6 := hC.2 6 _ rfl; go_simp; (try with_reducible rfl))); (try simp only [Act.put, List.setIfInBounds_toArray, List.set_cons_zero, List.set_cons_succ])
        refine tk 15 (v := ?_) rfl (by kernel_rfl) (by kernel_rfl) (by kernel_rfl) (fun _ _ _ h => h) rfl ?_ (by assumption) ?_; rotate_left; (focus (intro w hSw; (try dsimp only at hSw); obtain ⟨hA, hC, hB⟩ := hSw; have zA0 := hA.2 0 _ rfl; have zA1 := hA.2 1 _ rfl; have zA2 := hA.2 2 _ rfl; have zA3 := hA.2 3 _ rfl; have zA4 := hA.2 4 _ rfl; have zA5 := hA.2 5 _ rfl; have zA6 := hA.2 6 _ rfl; have zC0 := hC.2 0 _ rfl; have zC1 := hC.2 1 _ rfl; have zC2 := hC.2 2 _ rfl; have zC3 := hC.2 3 _ rfl; have zC4 := hC.2 4 _ rfl; have zC5 := hC.2 5 _ rfl; have zC6 := hC.2 6 _ rfl; go_simp; (try with_reducible rfl))); (try simp only [Act.put, List.setIfInBounds_toArray, List.set_cons_zero, List.set_cons_succ])
        refine wpAnyH_done (by kernel_rfl) ?_ _
        obtain ⟨hA, hC, hB⟩ := hHeld
        go_wp2_with fail
        refine wp_region_held_drew (S := fun w' => Cr w' A [.int .i64 r.e, .int .u64 r.p.a, .int .u64 r.p.b, .int .u64 r.c.a, .int .u64 r.c.b, .int .u64 r.n.a, .int .u64 r.n.b] ∧ Cr w' C [.int .i64 (r.e + 1), .int .u64 r.c.a, .int .u64 r.c.b, .int .u64 r.n.a, .int .u64 r.n.b, .int .u64 k1.a, .int .u64 k1.b] ∧ Below W.heap.size W w') (by kernel_rfl) ?_ (fun hHeld => ?_)
        · exact ⟨hA, hC, hB.drew⟩
        refine tk 0 (v := ?_) rfl (by kernel_rfl) (by kernel_rfl) (by kernel_rfl) (fun _ _ _ h => h) rfl ?_ (by assumption) ?_; rotate_left; (focus (intro w hSw; (try dsimp only at hSw); obtain ⟨hA, hC, hB⟩ := hSw; have zA0 := hA.2 0 _ rfl; have zA1 := hA.2 1 _ rfl; have zA2 := hA.2 2 _ rfl; have zA3 := hA.2 3 _ rfl; have zA4 := hA.2 4 _ rfl; have zA5 := hA.2 5 _ rfl; have zA6 := hA.2 6 _ rfl; have zC0 := hC.2 0 _ rfl; have zC1 := hC.2 1 _ rfl; have zC2 := hC.2 2 _ rfl; have zC3 := hC.2 3 _ rfl; have zC4 := hC.2 4 _ rfl; have zC5 := hC.2 5 _ rfl; have zC6 := hC.2 6 _ rfl; go_simp; (try with_reducible rfl))); (try simp only [Act.put, List.setIfInBounds_toArray, List.set_cons_zero, List.set_cons_succ])
        refine tk 1 (v := ?_) rfl (by kernel_rfl) (by kernel_rfl) (by kernel_rfl) (fun _ _ _ h => h) rfl ?_ (by assumption) ?_; rotate_left; (focus (intro w hSw; (try dsimp only at hSw); obtain ⟨hA, hC, hB⟩ := hSw; have zA0 := hA.2 0 _ rfl; have zA1 := hA.2 1 _ rfl; have zA2 := hA.2 2 _ rfl; have zA3 := hA.2 3 _ rfl; have zA4 := hA.2 4 _ rfl; have zA5 := hA.2 5 _ rfl; have zA6 := hA.2 6 _ rfl; have zC0 := hC.2 0 _ rfl; have zC1 := hC.2 1 _ rfl; have zC2 := hC.2 2 _ rfl; have zC3 := hC.2 3 _ rfl; have zC4 := hC.2 4 _ rfl; have zC5 := hC.2 5 _ rfl; have zC6 := hC.2 6 _ rfl; go_simp; (try with_reducible rfl))); (try simp only [Act.put, List.setIfInBounds_toArray, List.set_cons_zero, List.set_cons_succ])
        refine tk 2 (v := ?_) rfl (by kernel_rfl) (by kernel_rfl) (by kernel_rfl) (fun _ _ _ h => h) rfl ?_ (by assumption) ?_; rotate_left; (focus (intro w hSw; (try dsimp only at hSw); obtain ⟨hA, hC, hB⟩ := hSw; have zA0 := hA.2 0 _ rfl; have zA1 := hA.2 1 _ rfl; have zA2 := hA.2 2 _ rfl; have zA3 := hA.2 3 _ rfl; have zA4 := hA.2 4 _ rfl; have zA5 := hA.2 5 _ rfl; have zA6 := hA.2 6 _ rfl; have zC0 := hC.2 0 _ rfl; have zC1 := hC.2 1 _ rfl; have zC2 := hC.2 2 _ rfl; have zC3 := hC.2 3 _ rfl; have zC4 := hC.2 4 _ rfl; have zC5 := hC.2 5 _ rfl; have zC6 := hC.2 6 _ rfl; go_simp; (try with_reducible rfl))); (try simp only [Act.put, List.setIfInBounds_toArray, List.set_cons_zero, List.set_cons_succ])
        refine tk 3 (v := ?_) rfl (by kernel_rfl) (by kernel_rfl) (by kernel_rfl) (fun _ _ _ h => h) rfl ?_ (by assumption) ?_; rotate_left; (focus (intro w hSw; (try dsimp only at hSw); obtain ⟨hA, hC, hB⟩ := hSw; have zA0 := hA.2 0 _ rfl; have zA1 := hA.2 1 _ rfl; have zA2 := hA.2 2 _ rfl; have zA3 := hA.2 3 _ rfl; have zA4 := hA.2 4 _ rfl; have zA5 := hA.2 5 _ rfl; have zA6 := hA.2 6 _ rfl; have zC0 := hC.2 0 _ rfl; have zC1 := hC.2 1 _ rfl; have zC2 := hC.2 2 _ rfl; have zC3 := hC.2 3 _ rfl; have zC4 := hC.2 4 _ rfl; have zC5 := hC.2 5 _ rfl; have zC6 := hC.2 6 _ rfl; go_simp; (try with_reducible rfl))); (try simp only [Act.put, List.setIfInBounds_toArray, List.set_cons_zero, List.set_cons_succ])
        refine tk 4 (v := ?_) rfl (by kernel_rfl) (by kernel_rfl) (by kernel_rfl) (fun _ _ _ h => h) rfl ?_ (by assumption) ?_; rotate_left; (focus (intro w hSw; (try dsimp only at hSw); obtain ⟨hA, hC, hB⟩ := hSw; have zA0 := hA.2 0 _ rfl; have zA1 := hA.2 1 _ rfl; have zA2 := hA.2 2 _ rfl; have zA3 := hA.2 3 _ rfl; have zA4 := hA.2 4 _ rfl; have zA5 := hA.2 5 _ rfl; have zA6 := hA.2 6 _ rfl; have zC0 := hC.2 0 _ rfl; have zC1 := hC.2 1 _ rfl; have zC2 := hC.2 2 _ rfl; have zC3 := hC.2 3 _ rfl; have zC4 := hC.2 4 _ rfl; have zC5 := hC.2 5 _ rfl; have zC6 := hC.2 6 _ rfl; go_simp; (try with_reducible rfl))); (try simp only [Act.put, List.setIfInBounds_toArray, List.set_cons_zero, List.set_cons_succ])
        refine tk 5 (v := ?_) rfl (by kernel_rfl) (by kernel_rfl) (by kernel_rfl) (fun _ _ _ h => h) rfl ?_ (by assumption) ?_; rotate_left; (focus (intro w hSw; (try dsimp only at hSw); obtain ⟨hA, hC, hB⟩ := hSw; have zA0 := hA.2 0 _ rfl; have zA1 := hA.2 1 _ rfl; have zA2 := hA.2 2 _ rfl; have zA3 := hA.2 3 _ rfl; have zA4 := hA.2 4 _ rfl; have zA5 := hA.2 5 _ rfl; have zA6 := hA.2 6 _ rfl; have zC0 := hC.2 0 _ rfl; have zC1 := hC.2 1 _ rfl; have zC2 := hC.2 2 _ rfl; have zC3 := hC.2 3 _ rfl; have zC4 := hC.2 4 _ rfl; have zC5 := hC.2 5 _ rfl; have zC6 := hC.2 6 _ rfl; go_simp; (try with_reducible rfl))); (try simp only [Act.put, List.setIfInBounds_toArray, List.set_cons_zero, List.set_cons_succ])
        refine tk 6 (v := ?_) rfl (by kernel_rfl) (by kernel_rfl) (by kernel_rfl) (fun _ _ _ h => h) rfl ?_ (by assumption) ?_; rotate_left; (focus (intro w hSw; (try dsimp only at hSw); obtain ⟨hA, hC, hB⟩ := hSw; have zA0 := hA.2 0 _ rfl; have zA1 := hA.2 1 _ rfl; have zA2 := hA.2 2 _ rfl; have zA3 := hA.2 3 _ rfl; have zA4 := hA.2 4 _ rfl; have zA5 := hA.2 5 _ rfl; have zA6 := hA.2 6 _ rfl; have zC0 := hC.2 0 _ rfl; have zC1 := hC.2 1 _ rfl; have zC2 := hC.2 2 _ rfl; have zC3 := hC.2 3 _ rfl; have zC4 := hC.2 4 _ rfl; have zC5 := hC.2 5 _ rfl; have zC6 := hC.2 6 _ rfl; go_simp; (try with_reducible rfl))); (try simp only [Act.put, List.setIfInBounds_toArray, List.set_cons_zero, List.set_cons_succ])
        refine tk 7 (v := ?_) rfl (by kernel_rfl) (by kernel_rfl) (by kernel_rfl) (fun _ _ _ h => h) rfl ?_ (by assumption) ?_; rotate_left; (focus (intro w hSw; (try dsimp only at hSw); obtain ⟨hA, hC, hB⟩ := hSw; have zA0 := hA.2 0 _ rfl; have zA1 := hA.2 1 _ rfl; have zA2 := hA.2 2 _ rfl; have zA3 := hA.2 3 _ rfl; have zA4 := hA.2 4 _ rfl; have zA5 := hA.2 5 _ rfl; have zA6 := hA.2 6 _ rfl; have zC0 := hC.2 0 _ rfl; have zC1 := hC.2 1 _ rfl; have zC2 := hC.2 2 _ rfl; have zC3 := hC.2 3 _ rfl; have zC4 := hC.2 4 _ rfl; have zC5 := hC.2 5 _ rfl; have zC6 := hC.2 6 _ rfl; go_simp; (try with_reducible rfl))); (try simp only [Act.put, List.setIfInBounds_toArray, List.set_cons_zero, List.set_cons_succ])
        refine tk 8 (v := ?_) rfl (by kernel_rfl) (by kernel_rfl) (by kernel_rfl) (fun _ _ _ h => h) rfl ?_ (by assumption) ?_; rotate_left; (focus (intro w hSw; (try dsimp only at hSw); obtain ⟨hA, hC, hB⟩ := hSw; have zA0 := hA.2 0 _ rfl; have zA1 := hA.2 1 _ rfl; have zA2 := hA.2 2 _ rfl; have zA3 := hA.2 3 _ rfl; have zA4 := hA.2 4 _ rfl; have zA5 := hA.2 5 _ rfl; have zA6 := hA.2 6 _ rfl; have zC0 := hC.2 0 _ rfl; have zC1 := hC.2 1 _ rfl; have zC2 := hC.2 2 _ rfl; have zC3 := hC.2 3 _ rfl; have zC4 := hC.2 4 _ rfl; have zC5 := hC.2 5 _ rfl; have zC6 := hC.2 6 _ rfl; go_simp; (try with_reducible rfl))); (try simp only [Act.put, List.setIfInBounds_toArray, List.set_cons_zero, List.set_cons_succ])
        refine tk 9 (v := ?_) rfl (by kernel_rfl) (by kernel_rfl) (by kernel_rfl) (fun _ _ _ h => h) rfl ?_ (by assumption) ?_; rotate_left; (focus (intro w hSw; (try dsimp only at hSw); obtain ⟨hA, hC, hB⟩ := hSw; have zA0 := hA.2 0 _ rfl; have zA1 := hA.2 1 _ rfl; have zA2 := hA.2 2 _ rfl; have zA3 := hA.2 3 _ rfl; have zA4 := hA.2 4 _ rfl; have zA5 := hA.2 5 _ rfl; have zA6 := hA.2 6 _ rfl; have zC0 := hC.2 0 _ rfl; have zC1 := hC.2 1 _ rfl; have zC2 := hC.2 2 _ rfl; have zC3 := hC.2 3 _ rfl; have zC4 := hC.2 4 _ rfl; have zC5 := hC.2 5 _ rfl; have zC6 := hC.2 6 _ rfl; go_simp; (try with_reducible rfl))); (try simp only [Act.put, List.setIfInBounds_toArray, List.set_cons_zero, List.set_cons_succ])
        refine tk 10 (v := ?_) rfl (by kernel_rfl) (by kernel_rfl) (by kernel_rfl) (fun _ _ _ h => h) rfl ?_ (by assumption) ?_; rotate_left; (focus (intro w hSw; (try dsimp only at hSw); obtain ⟨hA, hC, hB⟩ := hSw; have zA0 := hA.2 0 _ rfl; have zA1 := hA.2 1 _ rfl; have zA2 := hA.2 2 _ rfl; have zA3 := hA.2 3 _ rfl; have zA4 := hA.2 4 _ rfl; have zA5 := hA.2 5 _ rfl; have zA6 := hA.2 6 _ rfl; have zC0 := hC.2 0 _ rfl; have zC1 := hC.2 1 _ rfl; have zC2 := hC.2 2 _ rfl; have zC3 := hC.2 3 _ rfl; have zC4 := hC.2 4 _ rfl; have zC5 := hC.2 5 _ rfl; have zC6 := hC.2 6 _ rfl; go_simp; (try with_reducible rfl))); (try simp only [Act.put, List.setIfInBounds_toArray, List.set_cons_zero, List.set_cons_succ])
        refine tk 11 (v := ?_) rfl (by kernel_rfl) (by kernel_rfl) (by kernel_rfl) (fun _ _ _ h => h) rfl ?_ (by assumption) ?_; rotate_left; (focus (intro w hSw; (try dsimp only at hSw); obtain ⟨hA, hC, hB⟩ := hSw; have zA0 := hA.2 0 _ rfl; have zA1 := hA.2 1 _ rfl; have zA2 := hA.2 2 _ rfl; have zA3 := hA.2 3 _ rfl; have zA4 := hA.2 4 _ rfl; have zA5 := hA.2 5 _ rfl; have zA6 := hA.2 6 _ rfl; have zC0 := hC.2 0 _ rfl; have zC1 := hC.2 1 _ rfl; have zC2 := hC.2 2 _ rfl; have zC3 := hC.2 3 _ rfl; have zC4 := hC.2 4 _ rfl; have zC5 := hC.2 5 _ rfl; have zC6 := hC.2 6 _ rfl; go_simp; (try with_reducible rfl))); (try simp only [Act.put, List.setIfInBounds_toArray, List.set_cons_zero, List.set_cons_succ])
        refine tk 12 (v := ?_) rfl (by kernel_rfl) (by kernel_rfl) (by kernel_rfl) (fun _ _ _ h => h) rfl ?_ (by assumption) ?_; rotate_left; (focus (intro w hSw; (try dsimp only at hSw); obtain ⟨hA, hC, hB⟩ := hSw; have zA0 := hA.2 0 _ rfl; have zA1 := hA.2 1 _ rfl; have zA2 := hA.2 2 _ rfl; have zA3 := hA.2 3 _ rfl; have zA4 := hA.2 4 _ rfl; have zA5 := hA.2 5 _ rfl; have zA6 := hA.2 6 _ rfl; have zC0 := hC.2 0 _ rfl; have zC1 := hC.2 1 _ rfl; have zC2 := hC.2 2 _ rfl; have zC3 := hC.2 3 _ rfl; have zC4 := hC.2 4 _ rfl; have zC5 := hC.2 5 _ rfl; have zC6 := hC.2 6 _ rfl; go_simp; (try with_reducible rfl))); (try simp only [Act.put, List.setIfInBounds_toArray, List.set_cons_zero, List.set_cons_succ])
        refine tk 13 (v := ?_) rfl (by kernel_rfl) (by kernel_rfl) (by kernel_rfl) (fun _ _ _ h => h) rfl ?_ (by assumption) ?_; rotate_left; (focus (intro w hSw; (try dsimp only at hSw); obtain ⟨hA, hC, hB⟩ := hSw; have zA0 := hA.2 0 _ rfl; have zA1 := hA.2 1 _ rfl; have zA2 := hA.2 2 _ rfl; have zA3 := hA.2 3 _ rfl; have zA4 := hA.2 4 _ rfl; have zA5 := hA.2 5 _ rfl; have zA6 := hA.2 6 _ rfl; have zC0 := hC.2 0 _ rfl; have zC1 := hC.2 1 _ rfl; have zC2 := hC.2 2 _ rfl; have zC3 := hC.2 3 _ rfl; have zC4 := hC.2 4 _ rfl; have zC5 := hC.2 5 _ rfl; have zC6 := hC.2 6 _ rfl; go_simp; (try with_reducible rfl))); (try simp only [Act.put, List.setIfInBounds_toArray, List.set_cons_zero, List.set_cons_succ])
        refine tk 14 (v := ?_) rfl (by kernel_rfl) (by kernel_rfl) (by kernel_rfl) (fun _ _ _ h => h) rfl ?_ (by assumption) ?_; rotate_left; (focus (intro w hSw; (try dsimp only at hSw); obtain ⟨hA, hC, hB⟩ := hSw; have zA0 := hA.2 0 _ rfl; have zA1 := hA.2 1 _ rfl; have zA2 := hA.2 2 _ rfl; have zA3 := hA.2 3 _ rfl; have zA4 := hA.2 4 _ rfl; have zA5 := hA.2 5 _ rfl; have zA6 := hA.2 6 _ rfl; have zC0 := hC.2 0 _ rfl; have zC1 := hC.2 1 _ rfl; have zC2 := hC.2 2 _ rfl; have zC3 := hC.2 3 _ rfl; have zC4 := hC.2 4 _ rfl; have zC5 := hC.2 5 _ rfl; have zC6 := hC.2 6 _ rfl; go_simp; (try with_reducible rfl))); (try simp only [Act.put, List.setIfInBounds_toArray, List.set_cons_zero, List.set_cons_succ])
        refine tk 15 (v := ?_) rfl (by kernel_rfl) (by kernel_rfl) (by kernel_rfl) (fun _ _ _ h => h) rfl ?_ (by assumption) ?_; rotate_left; (focus (intro w hSw; (try dsimp only at hSw); obtain ⟨hA, hC, hB⟩ := hSw; have zA0 := hA.2 0 _ rfl; have zA1 := hA.2 1 _ rfl; have zA2 := hA.2 2 _ rfl; have zA3 := hA.2 3 _ rfl; have zA4 := hA.2 4 _ rfl; have zA5 := hA.2 5 _ rfl; have zA6 := hA.2 6 _ rfl; have zC0 := hC.2 0 _ rfl; have zC1 := hC.2 1 _ rfl; have zC2 := hC.2 2 _ rfl; have zC3 := hC.2 3 _ rfl; have zC4 := hC.2 4 _ rfl; have zC5 := hC.2 5 _ rfl; have zC6 := hC.2 6 _ rfl; go_simp; (try with_reducible rfl))); (try simp only [Act.put, List.setIfInBounds_toArray, List.set_cons_zero, List.set_cons_succ])
        refine tk 16 (v := ?_) rfl (by kernel_rfl) (by kernel_rfl) (by kernel_rfl) (fun _ _ _ h => h) rfl ?_ (by assumption) ?_; rotate_left; (focus (intro w hSw; (try dsimp only at hSw); obtain ⟨hA, hC, hB⟩ := hSw; have zA0 := hA.2 0 _ rfl; have zA1 := hA.2 1 _ rfl; have zA2 := hA.2 2 _ rfl; have zA3 := hA.2 3 _ rfl; have zA4 := hA.2 4 _ rfl; have zA5 := hA.2 5 _ rfl; have zA6 := hA.2 6 _ rfl; have zC0 := hC.2 0 _ rfl; have zC1 := hC.2 1 _ rfl; have zC2 := hC.2 2 _ rfl; have zC3 := hC.2 3 _ rfl; have zC4 := hC.2 4 _ rfl; have zC5 := hC.2 5 _ rfl; have zC6 := hC.2 6 _ rfl; go_simp; (try with_reducible rfl))); (try simp only [Act.put, List.setIfInBounds_toArray, List.set_cons_zero, List.set_cons_succ])
        refine tk 17 (v := ?_) rfl (by kernel_rfl) (by kernel_rfl) (by kernel_rfl) (fun _ _ _ h => h) rfl ?_ (by assumption) ?_; rotate_left; (focus (intro w hSw; (try dsimp only at hSw); obtain ⟨hA, hC, hB⟩ := hSw; have zA0 := hA.2 0 _ rfl; have zA1 := hA.2 1 _ rfl; have zA2 := hA.2 2 _ rfl; have zA3 := hA.2 3 _ rfl; have zA4 := hA.2 4 _ rfl; have zA5 := hA.2 5 _ rfl; have zA6 := hA.2 6 _ rfl; have zC0 := hC.2 0 _ rfl; have zC1 := hC.2 1 _ rfl; have zC2 := hC.2 2 _ rfl; have zC3 := hC.2 3 _ rfl; have zC4 := hC.2 4 _ rfl; have zC5 := hC.2 5 _ rfl; have zC6 := hC.2 6 _ rfl; go_simp; (try with_reducible rfl))); (try simp only [Act.put, List.setIfInBounds_toArray, List.set_cons_zero, List.set_cons_succ])
        refine tk 18 (v := ?_) rfl (by kernel_rfl) (by kernel_rfl) (by kernel_rfl) (fun _ _ _ h => h) rfl ?_ (by assumption) ?_; rotate_left; (focus (intro w hSw; (try dsimp only at hSw); obtain ⟨hA, hC, hB⟩ := hSw; have zA0 := hA.2 0 _ rfl; have zA1 := hA.2 1 _ rfl; have zA2 := hA.2 2 _ rfl; have zA3 := hA.2 3 _ rfl; have zA4 := hA.2 4 _ rfl; have zA5 := hA.2 5 _ rfl; have zA6 := hA.2 6 _ rfl; have zC0 := hC.2 0 _ rfl; have zC1 := hC.2 1 _ rfl; have zC2 := hC.2 2 _ rfl; have zC3 := hC.2 3 _ rfl; have zC4 := hC.2 4 _ rfl; have zC5 := hC.2 5 _ rfl; have zC6 := hC.2 6 _ rfl; go_simp; (try with_reducible rfl))); (try simp only [Act.put, List.setIfInBounds_toArray, List.set_cons_zero, List.set_cons_succ])
        refine tk 19 (v := ?_) rfl (by kernel_rfl) (by kernel_rfl) (by kernel_rfl) (fun _ _ _ h => h) rfl ?_ (by assumption) ?_; rotate_left; (focus (intro w hSw; (try dsimp only at hSw); obtain ⟨hA, hC, hB⟩ := hSw; have zA0 := hA.2 0 _ rfl; have zA1 := hA.2 1 _ rfl; have zA2 := hA.2 2 _ rfl; have zA3 := hA.2 3 _ rfl; have zA4 := hA.2 4 _ rfl; have zA5 := hA.2 5 _ rfl; have zA6 := hA.2 6 _ rfl; have zC0 := hC.2 0 _ rfl; have zC1 := hC.2 1 _ rfl; have zC2 := hC.2 2 _ rfl; have zC3 := hC.2 3 _ rfl; have zC4 := hC.2 4 _ rfl; have zC5 := hC.2 5 _ rfl; have zC6 := hC.2 6 _ rfl; go_simp; (try with_reducible rfl))); (try simp only [Act.put, List.setIfInBounds_toArray, List.set_cons_zero, List.set_cons_succ])
        refine tk 20 (v := ?_) rfl (by kernel_rfl) (by kernel_rfl) (by kernel_rfl) (fun _ _ _ h => h) rfl ?_ (by assumption) ?_; rotate_left; (focus (intro w hSw; (try dsimp only at hSw); obtain ⟨hA, hC, hB⟩ := hSw; have zA0 := hA.2 0 _ rfl; have zA1 := hA.2 1 _ rfl; have zA2 := hA.2 2 _ rfl; have zA3 := hA.2 3 _ rfl; have zA4 := hA.2 4 _ rfl; have zA5 := hA.2 5 _ rfl; have zA6 := hA.2 6 _ rfl; have zC0 := hC.2 0 _ rfl; have zC1 := hC.2 1 _ rfl; have zC2 := hC.2 2 _ rfl; have zC3 := hC.2 3 _ rfl; have zC4 := hC.2 4 _ rfl; have zC5 := hC.2 5 _ rfl; have zC6 := hC.2 6 _ rfl; go_simp; (try with_reducible rfl))); (try simp only [Act.put, List.setIfInBounds_toArray, List.set_cons_zero, List.set_cons_succ])
        refine tk 21 (v := ?_) rfl (by kernel_rfl) (by kernel_rfl) (by kernel_rfl) (fun _ _ _ h => h) rfl ?_ (by assumption) ?_; rotate_left; (focus (intro w hSw; (try dsimp only at hSw); obtain ⟨hA, hC, hB⟩ := hSw; have zA0 := hA.2 0 _ rfl; have zA1 := hA.2 1 _ rfl; have zA2 := hA.2 2 _ rfl; have zA3 := hA.2 3 _ rfl; have zA4 := hA.2 4 _ rfl; have zA5 := hA.2 5 _ rfl; have zA6 := hA.2 6 _ rfl; have zC0 := hC.2 0 _ rfl; have zC1 := hC.2 1 _ rfl; have zC2 := hC.2 2 _ rfl; have zC3 := hC.2 3 _ rfl; have zC4 := hC.2 4 _ rfl; have zC5 := hC.2 5 _ rfl; have zC6 := hC.2 6 _ rfl; go_simp; (try with_reducible rfl))); (try simp only [Act.put, List.setIfInBounds_toArray, List.set_cons_zero, List.set_cons_succ])
        refine tk 22 (v := ?_) rfl (by kernel_rfl) (by kernel_rfl) (by kernel_rfl) (fun _ _ _ h => h) rfl ?_ (by assumption) ?_; rotate_left; (focus (intro w hSw; (try dsimp only at hSw); obtain ⟨hA, hC, hB⟩ := hSw; have zA0 := hA.2 0 _ rfl; have zA1 := hA.2 1 _ rfl; have zA2 := hA.2 2 _ rfl; have zA3 := hA.2 3 _ rfl; have zA4 := hA.2 4 _ rfl; have zA5 := hA.2 5 _ rfl; have zA6 := hA.2 6 _ rfl; have zC0 := hC.2 0 _ rfl; have zC1 := hC.2 1 _ rfl; have zC2 := hC.2 2 _ rfl; have zC3 := hC.2 3 _ rfl; have zC4 := hC.2 4 _ rfl; have zC5 := hC.2 5 _ rfl; have zC6 := hC.2 6 _ rfl; go_simp; (try with_reducible rfl))); (try simp only [Act.put, List.setIfInBounds_toArray, List.set_cons_zero, List.set_cons_succ])
        refine tk 23 (v := ?_) rfl (by kernel_rfl) (by kernel_rfl) (by kernel_rfl) (fun _ _ _ h => h) rfl ?_ (by assumption) ?_; rotate_left; (focus (intro w hSw; (try dsimp only at hSw); obtain ⟨hA, hC, hB⟩ := hSw; have zA0 := hA.2 0 _ rfl; have zA1 := hA.2 1 _ rfl; have zA2 := hA.2 2 _ rfl; have zA3 := hA.2 3 _ rfl; have zA4 := hA.2 4 _ rfl; have zA5 := hA.2 5 _ rfl; have zA6 := hA.2 6 _ rfl; have zC0 := hC.2 0 _ rfl; have zC1 := hC.2 1 _ rfl; have zC2 := hC.2 2 _ rfl; have zC3 := hC.2 3 _ rfl; have zC4 := hC.2 4 _ rfl; have zC5 := hC.2 5 _ rfl; have zC6 := hC.2 6 _ rfl; go_simp; (try with_reducible rfl))); (try simp only [Act.put, List.setIfInBounds_toArray, List.set_cons_zero, List.set_cons_succ])
        refine tk 24 (v := ?_) rfl (by kernel_rfl) (by kernel_rfl) (by kernel_rfl) (fun _ _ _ h => h) rfl ?_ (by assumption) ?_; rotate_left; (focus (intro w hSw; (try dsimp only at hSw); obtain ⟨hA, hC, hB⟩ := hSw; have zA0 := hA.2 0 _ rfl; have zA1 := hA.2 1 _ rfl; have zA2 := hA.2 2 _ rfl; have zA3 := hA.2 3 _ rfl; have zA4 := hA.2 4 _ rfl; have zA5 := hA.2 5 _ rfl; have zA6 := hA.2 6 _ rfl; have zC0 := hC.2 0 _ rfl; have zC1 := hC.2 1 _ rfl; have zC2 := hC.2 2 _ rfl; have zC3 := hC.2 3 _ rfl; have zC4 := hC.2 4 _ rfl; have zC5 := hC.2 5 _ rfl; have zC6 := hC.2 6 _ rfl; go_simp; (try with_reducible rfl))); (try simp only [Act.put, List.setIfInBounds_toArray, List.set_cons_zero, List.set_cons_succ])
        refine tk 25 (v := ?_) rfl (by kernel_rfl) (by kernel_rfl) (by kernel_rfl) (fun _ _ _ h => h) rfl ?_ (by assumption) ?_; rotate_left; (focus (intro w hSw; (try dsimp only at hSw); obtain ⟨hA, hC, hB⟩ := hSw; have zA0 := hA.2 0 _ rfl; have zA1 := hA.2 1 _ rfl; have zA2 := hA.2 2 _ rfl; have zA3 := hA.2 3 _ rfl; have zA4 := hA.2 4 _ rfl; have zA5 := hA.2 5 _ rfl; have zA6 := hA.2 6 _ rfl; have zC0 := hC.2 0 _ rfl; have zC1 := hC.2 1 _ rfl; have zC2 := hC.2 2 _ rfl; have zC3 := hC.2 3 _ rfl; have zC4 := hC.2 4 _ rfl; have zC5 := hC.2 5 _ rfl; have zC6 := hC.2 6 _ rfl; go_simp; (try with_reducible rfl))); (try simp only [Act.put, List.setIfInBounds_toArray, List.set_cons_zero, List.set_cons_succ])
        refine tk 26 (v := ?_) rfl (by kernel_rfl) (by kernel_rfl) (by kernel_rfl) (fun _ _ _ h => h) rfl ?_ (by assumption) ?_; rotate_left; (focus (intro w hSw; (try dsimp only at hSw); obtain ⟨hA, hC, hB⟩ := hSw; have zA0 := hA.2 0 _ rfl; have zA1 := hA.2 1 _ rfl; have zA2 := hA.2 2 _ rfl; have zA3 := hA.2 3 _ rfl; have zA4 := hA.2 4 _ rfl; have zA5 := hA.2 5 _ rfl; have zA6 := hA.2 6 _ rfl; have zC0 := hC.2 0 _ rfl; have zC1 := hC.2 1 _ rfl; have zC2 := hC.2 2 _ rfl; have zC3 := hC.2 3 _ rfl; have zC4 := hC.2 4 _ rfl; have zC5 := hC.2 5 _ rfl; have zC6 := hC.2 6 _ rfl; go_simp; (try with_reducible rfl))); (try simp only [Act.put, List.setIfInBounds_toArray, List.set_cons_zero, List.set_cons_succ])
        refine tk 27 (v := ?_) rfl (by kernel_rfl) (by kernel_rfl) (by kernel_rfl) (fun _ _ _ h => h) rfl ?_ (by assumption) ?_; rotate_left; (focus (intro w hSw; (try dsimp only at hSw); obtain ⟨hA, hC, hB⟩ := hSw; have zA0 := hA.2 0 _ rfl; have zA1 := hA.2 1 _ rfl; have zA2 := hA.2 2 _ rfl; have zA3 := hA.2 3 _ rfl; have zA4 := hA.2 4 _ rfl; have zA5 := hA.2 5 _ rfl; have zA6 := hA.2 6 _ rfl; have zC0 := hC.2 0 _ rfl; have zC1 := hC.2 1 _ rfl; have zC2 := hC.2 2 _ rfl; have zC3 := hC.2 3 _ rfl; have zC4 := hC.2 4 _ rfl; have zC5 := hC.2 5 _ rfl; have zC6 := hC.2 6 _ rfl; go_simp; (try with_reducible rfl))); (try simp only [Act.put, List.setIfInBounds_toArray, List.set_cons_zero, List.set_cons_succ])
        refine tk 28 (v := ?_) rfl (by kernel_rfl) (by kernel_rfl) (by kernel_rfl) (fun _ _ _ h => h) rfl ?_ (by assumption) ?_; rotate_left; (focus (intro w hSw; (try dsimp only at hSw); obtain ⟨hA, hC, hB⟩ := hSw; have zA0 := hA.2 0 _ rfl; have zA1 := hA.2 1 _ rfl; have zA2 := hA.2 2 _ rfl; have zA3 := hA.2 3 _ rfl; have zA4 := hA.2 4 _ rfl; have zA5 := hA.2 5 _ rfl; have zA6 := hA.2 6 _ rfl; have zC0 := hC.2 0 _ rfl; have zC1 := hC.2 1 _ rfl; have zC2 := hC.2 2 _ rfl; have zC3 := hC.2 3 _ rfl; have zC4 := hC.2 4 _ rfl; have zC5 := hC.2 5 _ rfl; have zC6 := hC.2 6 _ rfl; go_simp; (try with_reducible rfl))); (try simp only [Act.put, List.setIfInBounds_toArray, List.set_cons_zero, List.set_cons_succ])
        refine tk 29 (v := ?_) rfl (by kernel_rfl) (by kernel_rfl) (by kernel_rfl) (fun _ _ _ h => h) rfl ?_ (by assumption) ?_; rotate_left; (focus (intro w hSw; (try dsimp only at hSw); obtain ⟨hA, hC, hB⟩ := hSw; have zA0 := hA.2 0 _ rfl; have zA1 := hA.2 1 _ rfl; have zA2 := hA.2 2 _ rfl; have zA3 := hA.2 3 _ rfl; have zA4 := hA.2 4 _ rfl; have zA5 := hA.2 5 _ rfl; have zA6 := hA.2 6 _ rfl; have zC0 := hC.2 0 _ rfl; have zC1 := hC.2 1 _ rfl; have zC2 := hC.2 2 _ rfl; have zC3 := hC.2 3 _ rfl; have zC4 := hC.2 4 _ rfl; have zC5 := hC.2 5 _ rfl; have zC6 := hC.2 6 _ rfl; go_simp; (try with_reducible rfl))); (try simp only [Act.put, List.setIfInBounds_toArray, List.set_cons_zero, List.set_cons_succ])
        refine tk 30 (v := ?_) rfl (by kernel_rfl) (by kernel_rfl) (by kernel_rfl) (fun _ _ _ h => h) rfl ?_ (by assumption) ?_; rotate_left; (focus (intro w hSw; (try dsimp only at hSw); obtain ⟨hA, hC, hB⟩ := hSw; have zA0 := hA.2 0 _ rfl; have zA1 := hA.2 1 _ rfl; have zA2 := hA.2 2 _ rfl; have zA3 := hA.2 3 _ rfl; have zA4 := hA.2 4 _ rfl; have zA5 := hA.2 5 _ rfl; have zA6 := hA.2 6 _ rfl; have zC0 := hC.2 0 _ rfl; have zC1 := hC.2 1 _ rfl; have zC2 := hC.2 2 _ rfl; have zC3 := hC.2 3 _ rfl; have zC4 := hC.2 4 _ rfl; have zC5 := hC.2 5 _ rfl; have zC6 := hC.2 6 _ rfl; go_simp; (try with_reducible rfl))); (try simp only [Act.put, List.setIfInBounds_toArray, List.set_cons_zero, List.set_cons_succ])
        refine tk 31 (v := ?_) rfl (by kernel_rfl) (by kernel_rfl) (by kernel_rfl) (fun _ _ _ h => h) rfl ?_ (by assumption) ?_; rotate_left; (focus (intro w hSw; (try dsimp only at hSw); obtain ⟨hA, hC, hB⟩ := hSw; have zA0 := hA.2 0 _ rfl; have zA1 := hA.2 1 _ rfl; have zA2 := hA.2 2 _ rfl; have zA3 := hA.2 3 _ rfl; have zA4 := hA.2 4 _ rfl; have zA5 := hA.2 5 _ rfl; have zA6 := hA.2 6 _ rfl; have zC0 := hC.2 0 _ rfl; have zC1 := hC.2 1 _ rfl; have zC2 := hC.2 2 _ rfl; have zC3 := hC.2 3 _ rfl; have zC4 := hC.2 4 _ rfl; have zC5 := hC.2 5 _ rfl; have zC6 := hC.2 6 _ rfl; go_simp; (try with_reducible rfl))); (try simp only [Act.put, List.setIfInBounds_toArray, List.set_cons_zero, List.set_cons_succ])
        refine tk 32 (v := ?_) rfl (by kernel_rfl) (by kernel_rfl) (by kernel_rfl) (fun _ _ _ h => h) rfl ?_ (by assumption) ?_; rotate_left; (focus (intro w hSw; (try dsimp only at hSw); obtain ⟨hA, hC, hB⟩ := hSw; have zA0 := hA.2 0 _ rfl; have zA1 := hA.2 1 _ rfl; have zA2 := hA.2 2 _ rfl; have zA3 := hA.2 3 _ rfl; have zA4 := hA.2 4 _ rfl; have zA5 := hA.2 5 _ rfl; have zA6 := hA.2 6 _ rfl; have zC0 := hC.2 0 _ rfl; have zC1 := hC.2 1 _ rfl; have zC2 := hC.2 2 _ rfl; have zC3 := hC.2 3 _ rfl; have zC4 := hC.2 4 _ rfl; have zC5 := hC.2 5 _ rfl; have zC6 := hC.2 6 _ rfl; go_simp; (try with_reducible rfl))); (try simp only [Act.put, List.setIfInBounds_toArray, List.set_cons_zero, List.set_cons_succ])
        refine tk 33 (v := ?_) rfl (by kernel_rfl) (by kernel_rfl) (by kernel_rfl) (fun _ _ _ h => h) rfl ?_ (by assumption) ?_; rotate_left; (focus (intro w hSw; (try dsimp only at hSw); obtain ⟨hA, hC, hB⟩ := hSw; have zA0 := hA.2 0 _ rfl; have zA1 := hA.2 1 _ rfl; have zA2 := hA.2 2 _ rfl; have zA3 := hA.2 3 _ rfl; have zA4 := hA.2 4 _ rfl; have zA5 := hA.2 5 _ rfl; have zA6 := hA.2 6 _ rfl; have zC0 := hC.2 0 _ rfl; have zC1 := hC.2 1 _ rfl; have zC2 := hC.2 2 _ rfl; have zC3 := hC.2 3 _ rfl; have zC4 := hC.2 4 _ rfl; have zC5 := hC.2 5 _ rfl; have zC6 := hC.2 6 _ rfl; go_simp; (try with_reducible rfl))); (try simp only [Act.put, List.setIfInBounds_toArray, List.set_cons_zero, List.set_cons_succ])
        refine tk 34 (v := ?_) rfl (by kernel_rfl) (by kernel_rfl) (by kernel_rfl) (fun _ _ _ h => h) rfl ?_ (by assumption) ?_; rotate_left; (focus (intro w hSw; (try dsimp only at hSw); obtain ⟨hA, hC, hB⟩ := hSw; have zA0 := hA.2 0 _ rfl; have zA1 := hA.2 1 _ rfl; have zA2 := hA.2 2 _ rfl; have zA3 := hA.2 3 _ rfl; have zA4 := hA.2 4 _ rfl; have zA5 := hA.2 5 _ rfl; have zA6 := hA.2 6 _ rfl; have zC0 := hC.2 0 _ rfl; have zC1 := hC.2 1 _ rfl; have zC2 := hC.2 2 _ rfl; have zC3 := hC.2 3 _ rfl; have zC4 := hC.2 4 _ rfl; have zC5 := hC.2 5 _ rfl; have zC6 := hC.2 6 _ rfl; go_simp; (try with_reducible rfl))); (try simp only [Act.put, List.setIfInBounds_toArray, List.set_cons_zero, List.set_cons_succ])
        refine tk 35 (v := ?_) rfl (by kernel_rfl) (by kernel_rfl) (by kernel_rfl) (fun _ _ _ h => h) rfl ?_ (by assumption) ?_; rotate_left; (focus (intro w hSw; (try dsimp only at hSw); obtain ⟨hA, hC, hB⟩ := hSw; have zA0 := hA.2 0 _ rfl; have zA1 := hA.2 1 _ rfl; have zA2 := hA.2 2 _ rfl; have zA3 := hA.2 3 _ rfl; have zA4 := hA.2 4 _ rfl; have zA5 := hA.2 5 _ rfl; have zA6 := hA.2 6 _ rfl; have zC0 := hC.2 0 _ rfl; have zC1 := hC.2 1 _ rfl; have zC2 := hC.2 2 _ rfl; have zC3 := hC.2 3 _ rfl; have zC4 := hC.2 4 _ rfl; have zC5 := hC.2 5 _ rfl; have zC6 := hC.2 6 _ rfl; go_simp; (try with_reducible rfl))); (try simp only [Act.put, List.setIfInBounds_toArray, List.set_cons_zero, List.set_cons_succ])
        refine tk 36 (v := ?_) rfl (by kernel_rfl) (by kernel_rfl) (by kernel_rfl) (fun _ _ _ h => h) rfl ?_ (by assumption) ?_; rotate_left; (focus (intro w hSw; (try dsimp only at hSw); obtain ⟨hA, hC, hB⟩ := hSw; have zA0 := hA.2 0 _ rfl; have zA1 := hA.2 1 _ rfl; have zA2 := hA.2 2 _ rfl; have zA3 := hA.2 3 _ rfl; have zA4 := hA.2 4 _ rfl; have zA5 := hA.2 5 _ rfl; have zA6 := hA.2 6 _ rfl; have zC0 := hC.2 0 _ rfl; have zC1 := hC.2 1 _ rfl; have zC2 := hC.2 2 _ rfl; have zC3 := hC.2 3 _ rfl; have zC4 := hC.2 4 _ rfl; have zC5 := hC.2 5 _ rfl; have zC6 := hC.2 6 _ rfl; go_simp; (try with_reducible rfl))); (try simp only [Act.put, List.setIfInBounds_toArray, List.set_cons_zero, List.set_cons_succ])
        refine tk 37 (v := ?_) rfl (by kernel_rfl) (by kernel_rfl) (by kernel_rfl) (fun _ _ _ h => h) rfl ?_ (by assumption) ?_; rotate_left; (focus (intro w hSw; (try dsimp only at hSw); obtain ⟨hA, hC, hB⟩ := hSw; have zA0 := hA.2 0 _ rfl; have zA1 := hA.2 1 _ rfl; have zA2 := hA.2 2 _ rfl; have zA3 := hA.2 3 _ rfl; have zA4 := hA.2 4 _ rfl; have zA5 := hA.2 5 _ rfl; have zA6 := hA.2 6 _ rfl; have zC0 := hC.2 0 _ rfl; have zC1 := hC.2 1 _ rfl; have zC2 := hC.2 2 _ rfl; have zC3 := hC.2 3 _ rfl; have zC4 := hC.2 4 _ rfl; have zC5 := hC.2 5 _ rfl; have zC6 := hC.2 6 _ rfl; go_simp; (try with_reducible rfl))); (try simp only [Act.put, List.setIfInBounds_toArray, List.set_cons_zero, List.set_cons_succ])
        refine tk 38 (v := ?_) rfl (by kernel_rfl) (by kernel_rfl) (by kernel_rfl) (fun _ _ _ h => h) rfl ?_ (by assumption) ?_; rotate_left; (focus (intro w hSw; (try dsimp only at hSw); obtain ⟨hA, hC, hB⟩ := hSw; have zA0 := hA.2 0 _ rfl; have zA1 := hA.2 1 _ rfl; have zA2 := hA.2 2 _ rfl; have zA3 := hA.2 3 _ rfl; have zA4 := hA.2 4 _ rfl; have zA5 := hA.2 5 _ rfl; have zA6 := hA.2 6 _ rfl; have zC0 := hC.2 0 _ rfl; have zC1 := hC.2 1 _ rfl; have zC2 := hC.2 2 _ rfl; have zC3 := hC.2 3 _ rfl; have zC4 := hC.2 4 _ rfl; have zC5 := hC.2 5 _ rfl; have zC6 := hC.2 6 _ rfl; go_simp; (try with_reducible rfl))); (try simp only [Act.put, List.setIfInBounds_toArray, List.set_cons_zero, List.set_cons_succ])
        refine tk 39 (v := ?_) rfl (by kernel_rfl) (by kernel_rfl) (by kernel_rfl) (fun _ _ _ h => h) rfl ?_ (by assumption) ?_; rotate_left; (focus (intro w hSw; (try dsimp only at hSw); obtain ⟨hA, hC, hB⟩ := hSw; have zA0 := hA.2 0 _ rfl; have zA1 := hA.2 1 _ rfl; have zA2 := hA.2 2 _ rfl; have zA3 := hA.2 3 _ rfl; have zA4 := hA.2 4 _ rfl; have zA5 := hA.2 5 _ rfl; have zA6 := hA.2 6 _ rfl; have zC0 := hC.2 0 _ rfl; have zC1 := hC.2 1 _ rfl; have zC2 := hC.2 2 _ rfl; have zC3 := hC.2 3 _ rfl; have zC4 := hC.2 4 _ rfl; have zC5 := hC.2 5 _ rfl; have zC6 := hC.2 6 _ rfl; go_simp; (try with_reducible rfl))); (try simp only [Act.put, List.setIfInBounds_toArray, List.set_cons_zero, List.set_cons_succ])
        refine tk 40 (v := ?_) rfl (by kernel_rfl) (by kernel_rfl) (by kernel_rfl) (fun _ _ _ h => h) rfl ?_ (by assumption) ?_; rotate_left; (focus (intro w hSw; (try dsimp only at hSw); obtain ⟨hA, hC, hB⟩ := hSw; have zA0 := hA.2 0 _ rfl; have zA1 := hA.2 1 _ rfl; have zA2 := hA.2 2 _ rfl; have zA3 := hA.2 3 _ rfl; have zA4 := hA.2 4 _ rfl; have zA5 := hA.2 5 _ rfl; have zA6 := hA.2 6 _ rfl; have zC0 := hC.2 0 _ rfl; have zC1 := hC.2 1 _ rfl; have zC2 := hC.2 2 _ rfl; have zC3 := hC.2 3 _ rfl; have zC4 := hC.2 4 _ rfl; have zC5 := hC.2 5 _ rfl; have zC6 := hC.2 6 _ rfl; go_simp; (try with_reducible rfl))); (try simp only [Act.put, List.setIfInBounds_toArray, List.set_cons_zero, List.set_cons_succ])
        refine tk 41 (v := ?_) rfl (by kernel_rfl) (by kernel_rfl) (by kernel_rfl) (fun _ _ _ h => h) rfl ?_ (by assumption) ?_; rotate_left; (focus (intro w hSw; (try dsimp only at hSw); obtain ⟨hA, hC, hB⟩ := hSw; have zA0 := hA.2 0 _ rfl; have zA1 := hA.2 1 _ rfl; have zA2 := hA.2 2 _ rfl; have zA3 := hA.2 3 _ rfl; have zA4 := hA.2 4 _ rfl; have zA5 := hA.2 5 _ rfl; have zA6 := hA.2 6 _ rfl; have zC0 := hC.2 0 _ rfl; have zC1 := hC.2 1 _ rfl; have zC2 := hC.2 2 _ rfl; have zC3 := hC.2 3 _ rfl; have zC4 := hC.2 4 _ rfl; have zC5 := hC.2 5 _ rfl; have zC6 := hC.2 6 _ rfl; go_simp; (try with_reducible rfl))); (try simp only [Act.put, List.setIfInBounds_toArray, List.set_cons_zero, List.set_cons_succ])
        refine tk 42 (v := ?_) rfl (by kernel_rfl) (by kernel_rfl) (by kernel_rfl) (fun _ _ _ h => h) rfl ?_ (by assumption) ?_; rotate_left; (focus (intro w hSw; (try dsimp only at hSw); obtain ⟨hA, hC, hB⟩ := hSw; have zA0 := hA.2 0 _ rfl; have zA1 := hA.2 1 _ rfl; have zA2 := hA.2 2 _ rfl; have zA3 := hA.2 3 _ rfl; have zA4 := hA.2 4 _ rfl; have zA5 := hA.2 5 _ rfl; have zA6 := hA.2 6 _ rfl; have zC0 := hC.2 0 _ rfl; have zC1 := hC.2 1 _ rfl; have zC2 := hC.2 2 _ rfl; have zC3 := hC.2 3 _ rfl; have zC4 := hC.2 4 _ rfl; have zC5 := hC.2 5 _ rfl; have zC6 := hC.2 6 _ rfl; go_simp; (try with_reducible rfl))); (try simp only [Act.put, List.setIfInBounds_toArray, List.set_cons_zero, List.set_cons_succ])
        refine tk 43 (v := ?_) rfl (by kernel_rfl) (by kernel_rfl) (by kernel_rfl) (fun _ _ _ h => h) rfl ?_ (by assumption) ?_; rotate_left; (focus (intro w hSw; (try dsimp only at hSw); obtain ⟨hA, hC, hB⟩ := hSw; have zA0 := hA.2 0 _ rfl; have zA1 := hA.2 1 _ rfl; have zA2 := hA.2 2 _ rfl; have zA3 := hA.2 3 _ rfl; have zA4 := hA.2 4 _ rfl; have zA5 := hA.2 5 _ rfl; have zA6 := hA.2 6 _ rfl; have zC0 := hC.2 0 _ rfl; have zC1 := hC.2 1 _ rfl; have zC2 := hC.2 2 _ rfl; have zC3 := hC.2 3 _ rfl; have zC4 := hC.2 4 _ rfl; have zC5 := hC.2 5 _ rfl; have zC6 := hC.2 6 _ rfl; go_simp; (try with_reducible rfl))); (try simp only [Act.put, List.setIfInBounds_toArray, List.set_cons_zero, List.set_cons_succ])
        refine only 44 rfl (by kernel_rfl) rfl (fun K hK => ?_)
        go_simp
        refine (LK.out _).mono ?_
        rintro e' wk14 ⟨rfl, hk14⟩
        try go_wp2_with fail
        refine hK.out _ _ ?_ (fun hHeld2 => ?_)
        · (obtain ⟨hA, hC, hB⟩ := hHeld; exact ⟨hA.below hk14, hC.below hk14, then_ hB hk14⟩)
        clear hK hHeld
        try simp only [Act.put, List.setIfInBounds_toArray, List.set_cons_zero, List.set_cons_succ]
        have hHeld := hHeld2
        clear hHeld2
        refine tk 45 (v := ?_) rfl (by kernel_rfl) (by kernel_rfl) (by kernel_rfl) (fun _ _ _ h => h) rfl ?_ (by assumption) ?_; rotate_left; (focus (intro w hSw; (try dsimp only at hSw); obtain ⟨hA, hC, hB⟩ := hSw; have zA0 := hA.2 0 _ rfl; have zA1 := hA.2 1 _ rfl; have zA2 := hA.2 2 _ rfl; have zA3 := hA.2 3 _ rfl; have zA4 := hA.2 4 _ rfl; have zA5 := hA.2 5 _ rfl; have zA6 := hA.2 6 _ rfl; have zC0 := hC.2 0 _ rfl; have zC1 := hC.2 1 _ rfl; have zC2 := hC.2 2 _ rfl; have zC3 := hC.2 3 _ rfl; have zC4 := hC.2 4 _ rfl; have zC5 := hC.2 5 _ rfl; have zC6 := hC.2 6 _ rfl; go_simp; (try with_reducible rfl))); (try simp only [Act.put, List.setIfInBounds_toArray, List.set_cons_zero, List.set_cons_succ])
        refine tk 46 (v := ?_) rfl (by kernel_rfl) (by kernel_rfl) (by kernel_rfl) (fun _ _ _ h => h) rfl ?_ (by assumption) ?_; rotate_left; (focus (intro w hSw; (try dsimp only at hSw); obtain ⟨hA, hC, hB⟩ := hSw; have zA0 := hA.2 0 _ rfl; have zA1 := hA.2 1 _ rfl; have zA2 := hA.2 2 _ rfl; have zA3 := hA.2 3 _ rfl; have zA4 := hA.2 4 _ rfl; have zA5 := hA.2 5 _ rfl; have zA6 := hA.2 6 _ rfl; have zC0 := hC.2 0 _ rfl; have zC1 := hC.2 1 _ rfl; have zC2 := hC.2 2 _ rfl; have zC3 := hC.2 3 _ rfl; have zC4 := hC.2 4 _ rfl; have zC5 := hC.2 5 _ rfl; have zC6 := hC.2 6 _ rfl; go_simp; (try with_reducible rfl))); (try simp only [Act.put, List.setIfInBounds_toArray, List.set_cons_zero, List.set_cons_succ])
        refine tk 47 (v := ?_) rfl (by kernel_rfl) (by kernel_rfl) (by kernel_rfl) (fun _ _ _ h => h) rfl ?_ (by assumption) ?_; rotate_left; (focus (intro w hSw; (try dsimp only at hSw); obtain ⟨hA, hC, hB⟩ := hSw; have zA0 := hA.2 0 _ rfl; have zA1 := hA.2 1 _ rfl; have zA2 := hA.2 2 _ rfl; have zA3 := hA.2 3 _ rfl; have zA4 := hA.2 4 _ rfl; have zA5 := hA.2 5 _ rfl; have zA6 := hA.2 6 _ rfl; have zC0 := hC.2 0 _ rfl; have zC1 := hC.2 1 _ rfl; have zC2 := hC.2 2 _ rfl; have zC3 := hC.2 3 _ rfl; have zC4 := hC.2 4 _ rfl; have zC5 := hC.2 5 _ rfl; have zC6 := hC.2 6 _ rfl; go_simp; (try with_reducible rfl))); (try simp only [Act.put, List.setIfInBounds_toArray, List.set_cons_zero, List.set_cons_succ])
        refine wpAnyH_done (by kernel_rfl) ?_ _
        obtain ⟨hA, hC, hB⟩ := hHeld
        go_wp2_with fail
        go_ret
        exact ⟨rfl, hB⟩

set_option maxRecDepth 100000 in
theorem lifted (os : Os) (started : os.Started) (H : Type) (enc : TypeId × Value → H) :
    ReturnsInHanded {} Try.checked os 5 .any (Rows.cookieAgesSpec.pre6 enc Try.prog Try.f5 [] false) (Rows.cookieAgesSpec.post enc Try.prog Try.f5 false true false false) :=
  law_step (s := Rows.cookieAgesSpec) started (by kernel_rfl) Try.func5
    (ChangeSpec.witness6 (s := Rows.cookieAgesSpec) (enc := enc) (C := Try.checked) false ⟨#[], #[.int .i64 0, .int .i64 0, .bool false, .int .i64 0, .int .i64 0, .int .i64 0, .int .i64 0], []⟩ 8 (by kernel_rfl) (by kernel_rfl) (by kernel_rfl) (by kernel_rfl))
    rfl (by rw [Try.params5]; decide +kernel) rfl Try.underlying4
    (fun ds h => by
      rw [Try.params5] at h
      match ds, h with
      | [_, _, _, _, _, _, _], _ => rfl)
    (fun W base args ds ps hval hA hsz => by
      rw [Try.params5] at hA hval hsz
      obtain ⟨v0, vs0, d0, ds0, p0, q0, hargs, rfl, rfl, h0, r0⟩ := trodAll_cons hA
      obtain ⟨v1, vs1, d1, ds1, p1, q1, rfl, rfl, rfl, h1, r1⟩ := trodAll_cons r0
      obtain ⟨v2, vs2, d2, ds2, p2, q2, rfl, rfl, rfl, h2, r2⟩ := trodAll_cons r1
      obtain ⟨v3, vs3, d3, ds3, p3, q3, rfl, rfl, rfl, h3, r3⟩ := trodAll_cons r2
      obtain ⟨v4, vs4, d4, ds4, p4, q4, rfl, rfl, rfl, h4, r4⟩ := trodAll_cons r3
      obtain ⟨v5, vs5, d5, ds5, p5, q5, rfl, rfl, rfl, h5, r5⟩ := trodAll_cons r4
      obtain ⟨v6, vs6, d6, ds6, p6, q6, rfl, rfl, rfl, h6, r6⟩ := trodAll_cons r5
      obtain ⟨rfl, rfl, rfl⟩ := trodAll_nil r6
      obtain rfl : args = #[v0, v1, v2, v3, v4, v5, v6] := by cases args; simp_all
      obtain ⟨a0, rfl, rfl, rfl, w0⟩ := open_int Try.underlying3 (hval 0 3 v0 rfl rfl) h0
      obtain ⟨a1, rfl, rfl, rfl, w1⟩ := open_int Try.underlying3 (hval 1 3 v1 rfl rfl) h1
      obtain ⟨a2, rfl, rfl, rfl⟩ := open_bool Try.underlying4 (hval 2 4 v2 rfl rfl) h2
      obtain ⟨a3, rfl, rfl, rfl, w3⟩ := open_int Try.underlying3 (hval 3 3 v3 rfl rfl) h3
      obtain ⟨a4, rfl, rfl, rfl, w4⟩ := open_int Try.underlying3 (hval 4 3 v4 rfl rfl) h4
      obtain ⟨a5, rfl, rfl, rfl, w5⟩ := open_int Try.underlying3 (hval 5 3 v5 rfl rfl) h5
      obtain ⟨a6, rfl, rfl, rfl, w6⟩ := open_int Try.underlying3 (hval 6 3 v6 rfl rfl) h6
      exact walk W a0 (bounds_i64 w0) a1 (bounds_i64 w1) a2 a3 (bounds_i64 w3) a4 (bounds_i64 w4) a5 (bounds_i64 w5) a6 (bounds_i64 w6))

theorem proved : Rows.CookieAgesSaid :=
  OpenClaim.holds_of_wide 5 Try.f5 rfl rfl rfl rfl rfl rfl rfl ⟨rfl, rfl, rfl, rfl, rfl⟩ rfl rfl rfl rfl rfl (by kernel_rfl) Try.func5 (by kernel_rfl)
    (of_decide_eq_true (by kernel_rfl)) (by unfold Func.isWrapper; first | (rw [if_pos (by decide +kernel)]; kernel_rfl) | (rw [if_neg (by decide +kernel)]; exact ⟨rfl, rfl⟩))
    (fun os started H enc _ => lifted os started H enc)
end Go.Proofs.Ytfokkmemjkfifaa.cookieAges
