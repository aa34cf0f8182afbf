/- A head's channel: what waits, and is published. -/
import Derived.Test.YtomlpkojnipkhaaGreatGa
import Derived.Test.YtomlpkojnipkhaaGreatHdFn1
import Derived.BigQuiet
import Derived.Deep.RegionHeld3
import Derived.Deep.Cut
namespace Go.Proofs.YtomlpkojnipkhaaGreat
set_option linter.unusedVariables false
set_option linter.unusedSimpArgs false
open Go.RowKit Go.ChangeShapes Go.WideShapes Go.ChangeAt

section
variable {w : World} {b c m n : Nat} {h : Hd}
set_option maxRecDepth 100000 in
theorem wait_any (hH : HeadAt w b c m n h) (e : En) (hq : h.q.length < 200) : Calls Tryz.prog 113 #[.pointer (some ⟨b, 0, none⟩), enV e] w fun x w' => x = .returned (.tuple #[]) ∧ HeadAt w' b c m n { h with q := h.q ++ [e] } ∧ Ch [b, c, m] w w' := by
  refine calls_of_wpN Tryz.func113 rfl ?_
  simp only [Tryz.ntmps113, List.size_toArray, List.length_cons, List.length_nil, Nat.reduceAdd, Nat.reduceSub, Array.replicate_succ, Array.replicate_zero, List.push_toArray, List.append_toArray, List.nil_append, List.cons_append]
  unfold enV at *
  refine wpN_seq_k (fun K hK => wpN_of ?_)
  go_wp2
  have S1 := hid (hH.hs.cells (T := 79) (enL e))
  unfold enL at S1
  generalize w.alloc (.cells #[.int .i64 e.k, .int .i64 e.s, .int .i64 e.a, .int .i64 e.p, .int .i64 e.w, .int .u64 e.y.a, .int .u64 e.y.b] 79) = w1 at *
  have hH1 : HeadAt w1 b c m n h := S1.out.nth 1 rfl
  have c0 := hH1.c660
  have e0 := (S1.out.ce 0 rfl).2.1 0 _ rfl
  have e1 := (S1.out.ce 0 rfl).2.1 1 _ rfl
  have e2 := (S1.out.ce 0 rfl).2.1 2 _ rfl
  have e3 := (S1.out.ce 0 rfl).2.1 3 _ rfl
  have e4 := (S1.out.ce 0 rfl).2.1 4 _ rfl
  have e5 := (S1.out.ce 0 rfl).2.1 5 _ rfl
  have e6 := (S1.out.ce 0 rfl).2.1 6 _ rfl
  refine wpN_seq_k (fun K hK => wpN_of ?_)
  go_wp2
  obtain ⟨s, r, hC⟩ := hH1.2.1
  refine wpN_seq_k (fun K hK => ?_)
  refine wpN_send1 (c := c) (cap := 200) (u := enV e) (z := (.agg #[.int .i64 0, .int .i64 0, .int .i64 0, .int .i64 0, .int .i64 0, .int .u64 0, .int .u64 0])) rfl (by unfold enV; simp [go_sem, execOp, Go.Conc.scase, Act.eval]) hC (by simpa using hq) ?_
  have H2 := hid (hH1.chan (h.q ++ [e]) (s + 1) r)
  have C2 := hid (S1.out.ch.trans (ch_chan w1 c 200 ((h.q ++ [e]).map enV).toArray false (s + 1) r false (by simp)))
  rw [show h.q.map enV ++ [enV e] = (h.q ++ [e]).map enV by simp]
  generalize (h.q ++ [e]).map enV = L2 at *
  go_wp2
  refine wpN_of ?_
  go_wp2
  go_end0
  exact ⟨rfl, H2.out, C2.out⟩
attribute [local irreducible] FA FL
set_option maxRecDepth 100000 in
set_option maxHeartbeats 8000000 in
theorem publish_any (hH : HeadAt w b c m n h) (hp : PB h.pl) : Calls Tryz.prog 115 #[.pointer (some ⟨b, 0, none⟩)] w fun x w' => x = .returned (.tuple #[]) ∧ HeadAt w' b c m n (pubH h) ∧ Ch [b, c, m] w w' := by
  obtain ⟨pl, ah, q, la, un, wd⟩ := h
  simp only at hp
  refine calls_of_wpN Tryz.func115 rfl ?_
  simp only [Tryz.ntmps115, List.size_toArray, List.length_cons, List.length_nil, Nat.reduceAdd, Nat.reduceSub, Array.replicate_succ, Array.replicate_zero, List.push_toArray, List.append_toArray, List.nil_append, List.cons_append]
  have c0 := hH.c660
  refine wpN_seq_k (fun K hK => wpN_of ?_)
  go_wp2
  clear c0
  obtain ⟨s, r, hC⟩ := hH.2.1
  cases q with
  | nil =>
    refine wpN_seq_k (fun K hK => ?_)
    refine wpN_none (c := c) (cap := 200) (s := s) (r := r) (tm := false) (z := (.agg #[.int .i64 0, .int .i64 0, .int .i64 0, .int .i64 0, .int .i64 0, .int .u64 0, .int .u64 0])) rfl (by simp [go_sem, execOp, Go.Conc.rcase, Act.eval]) hC ?_
    go_wp2
    refine wpN_of ?_
    go_wp2
    go_end0
    exact ⟨rfl, hH, Ch.refl _ _⟩
  | cons e q =>
    refine wpN_seq_k (fun K hK => ?_)
    refine wpN_recv1 (c := c) (cap := 200) (s := s) (r := r) (tm := false) (z := (.agg #[.int .i64 0, .int .i64 0, .int .i64 0, .int .i64 0, .int .i64 0, .int .u64 0, .int .u64 0])) rfl (by simp [go_sem, execOp, Go.Conc.rcase, Act.eval]) hC ?_
    have H1 := hH.chan q s (r + 1)
    have S1 := hid (HS.upd (A := []) (B := []) hH.hs (thH b c m n ⟨pl, ah, q, la, un, wd⟩) rfl (ch_chan w c 200 (q.map enV).toArray false s (r + 1) false (by simp [thH])) H1)
    simp only [List.nil_append] at S1
    generalize w.setChan c 200 (q.map enV).toArray false s (r + 1) false = w1 at *
    clear H1 hC
    unfold enV
    go_wp2
    refine wpN_of ?_
    have HP := hid (show pubH ⟨pl, ah, e :: q, la, un, wd⟩ = if (apR pl e).2 = 0 then ⟨(apR pl e).1, ah, q, e, un, wd⟩ else ⟨pl, ah, q, la, un, wd⟩ from rfl)
    have RP0 := fun w => apply_fa pl e hp w
    generalize apR pl e = ar at *
    obtain ⟨q2, er⟩ := ar
    simp only at HP RP0
    have RP := hid RP0
    clear RP0 hp
    go_upto_region 3 with (fail)
    have S2 := hid (S1.out.cells (T := 79) (enL e))
    unfold enL at S2
    generalize w1.alloc (.cells #[.int .i64 e.k, .int .i64 e.s, .int .i64 e.a, .int .i64 e.p, .int .i64 e.w, .int .u64 e.y.a, .int .u64 e.y.b] 79) = w2 at *
    generalize w1.heap.size = E at *
    clear S1
    go_cut [3, 4] from 13 to 22 (fun u x wx => ∃ U : Nat, u = .pointer (some ⟨U, 0, none⟩) ∧ x = .int .i64 er ∧ HS [b, c, m] w wx (thB U 330 (pc q2) :: [thC E [.int .i64 e.k, .int .i64 e.s, .int .i64 e.a, .int .i64 e.p, .int .i64 e.w, .int .u64 e.y.a, .int .u64 e.y.b], thH b c m n ⟨pl, ah, q, la, un, wd⟩]))
    case first =>
      refine wp_region_held_drew (S := fun w' => HS [b, c, m] w w' [thC E [.int .i64 e.k, .int .i64 e.s, .int .i64 e.a, .int .i64 e.p, .int .i64 e.w, .int .u64 e.y.a, .int .u64 e.y.b], thH b c m n ⟨pl, ah, q, la, un, wd⟩]) (by kernel_rfl) ?_ (fun hHeld => ?_)
      · exact S2.out.drew
      refine tkq 0 hHeld ?_
      refine tkq 1 hHeld ?_
      refine tkq 2 hHeld ?_
      refine tk 3 (v := .agg (FA 330 (pc pl))) rfl (by kernel_rfl) (by kernel_rfl) (by kernel_rfl) (fun _ _ _ h => h) rfl (fun w hSw => ex_load rfl rfl (HeadAt.loadF (hSw.nth 1 rfl))) hHeld ?_; (try simp only [Act.put, List.setIfInBounds_toArray, List.set_cons_zero, List.set_cons_succ])
      refine tkq 4 hHeld ?_ (hy := by intro w hSw; (try dsimp only at hSw); have x0 := (hSw.ce 0 rfl).2.1 0 _ rfl; have x1 := (hSw.ce 0 rfl).2.1 1 _ rfl; have x2 := (hSw.ce 0 rfl).2.1 2 _ rfl; have x3 := (hSw.ce 0 rfl).2.1 3 _ rfl; have x4 := (hSw.ce 0 rfl).2.1 4 _ rfl; have x5 := (hSw.ce 0 rfl).2.1 5 _ rfl; have x6 := (hSw.ce 0 rfl).2.1 6 _ rfl; go_simp; (try with_reducible rfl))
      refine twoUp 5 9 rfl rfl (by kernel_rfl) rfl rfl (fun K hK => ?_) (fun K hK => ?_)
      · go_simp
        refine (RP.out _).mono ?_
        rintro e' w' ⟨rfl, hb⟩
        try go_wp2_with fail
        refine hK.out _ _ (hHeld.below hb) (fun hz0 => ?_)
        clear hK
        try simp only [Act.put, List.setIfInBounds_toArray, List.set_cons_zero, List.set_cons_succ]
        refine tkq 6 hz0 ?_
        refine tkq 7 hz0 ?_
        refine tkq 8 hz0 ?_
        refine only 9 rfl (by kernel_rfl) rfl (fun K hK => ?_)
        refine ow_alloc rfl (zpl_fa _) (by omega) hz0 (fun U w' hN hU => ?_)
        refine hK.out _ _ (hN.tail) (fun hz1 => ?_)
        clear hK
        try simp only [Act.put, List.setIfInBounds_toArray, List.set_cons_zero, List.set_cons_succ]
        refine only 10 rfl (by kernel_rfl) rfl (fun K hK => ?_)
        refine ow_store (A := []) 0 330 (pc q2) (pc q2) rfl rfl rfl hN (by omega) (fun j hj => patch_all _ _ _ j hj) info_pl (pc_one q2) (fun w' hN2 => ?_)
        refine hK.out _ _ (hN2.tail) (fun hE => ?_)
        clear hK
        try simp only [Act.put, List.setIfInBounds_toArray, List.set_cons_zero, List.set_cons_succ]
        refine tkq 11 hE ?_
        refine wpAnyH_done (by kernel_rfl) ?_ _
        go_wp2_with fail
        go_meet
        exact ⟨U, rfl, rfl, hN2⟩
      · refine ow_alloc rfl (zpl_fa _) (by omega) hHeld (fun U w' hN hU => ?_)
        refine hK.out _ _ (hN.tail) (fun hz0 => ?_)
        clear hK
        try simp only [Act.put, List.setIfInBounds_toArray, List.set_cons_zero, List.set_cons_succ]
        refine only 5 rfl (by kernel_rfl) rfl (fun K hK => ?_)
        go_simp
        refine (RP.out _).mono ?_
        rintro e' w' ⟨rfl, hb⟩
        try go_wp2_with fail
        have hN := hN.below hb
        refine hK.out _ _ (hz0.below hb) (fun hz1 => ?_)
        clear hK
        try simp only [Act.put, List.setIfInBounds_toArray, List.set_cons_zero, List.set_cons_succ]
        refine tkq 6 hz1 ?_
        refine tkq 7 hz1 ?_
        refine tkq 8 hz1 ?_
        refine only 10 rfl (by kernel_rfl) rfl (fun K hK => ?_)
        refine ow_store (A := []) 0 330 (pc q2) (pc q2) rfl rfl rfl hN (by omega) (fun j hj => patch_all _ _ _ j hj) info_pl (pc_one q2) (fun w' hN2 => ?_)
        refine hK.out _ _ (hN2.tail) (fun hE => ?_)
        clear hK
        try simp only [Act.put, List.setIfInBounds_toArray, List.set_cons_zero, List.set_cons_succ]
        refine tkq 11 hE ?_
        refine wpAnyH_done (by kernel_rfl) ?_ _
        go_wp2_with fail
        go_meet
        exact ⟨U, rfl, rfl, hN2⟩
    case rest =>
      obtain ⟨U, rfl, rfl, hS3⟩ := hcut
      have S3 := hid hS3
      clear hS3 S2 RP
      cases be : (er == 0)
      · have hne : ¬ er = 0 := by simpa using be
        replace HP := hid (HP.out.trans (if_neg hne))
        clear hne
        go_wp2_with fail
        go_end0
        refine ⟨rfl, ?_, S3.out.ch⟩
        rw [HP.out]
        exact S3.out.nth 2 rfl
      · have he0 : er = 0 := by simpa using be
        subst he0
        replace HP := hid (HP.out.trans (if_pos rfl))
        clear be
        go_upto_region 5 with (fail)
        have S4 := hid (S3.out.drop2).drew
        have S5 := hid S3.out.drew
        refine wp_region_held_drew (S := fun w' => HS [b, c, m] w w' [thB U 330 (pc q2), thC E [.int .i64 e.k, .int .i64 e.s, .int .i64 e.a, .int .i64 e.p, .int .i64 e.w, .int .u64 e.y.a, .int .u64 e.y.b]]) (by kernel_rfl) ?_ (fun hHeld => ?_)
        · exact S4.out
        refine tkq 0 hHeld ?_
        refine tkq 1 hHeld ?_
        refine tk 2 (v := .agg (FA 330 (pc q2))) rfl (by kernel_rfl) (by kernel_rfl) (by kernel_rfl) (fun _ _ _ h => h) rfl (fun w hSw => ex_load rfl rfl ((hSw.fb 0 rfl).load 0 330 (pc q2) (by omega) (fun j hj => by rw [Nat.zero_add]) Tryz.underlying33 rfl info_pl)) hHeld ?_; (try simp only [Act.put, List.setIfInBounds_toArray, List.set_cons_zero, List.set_cons_succ])
        refine tkq 3 hHeld ?_ (hy := by intro w hSw; (try dsimp only at hSw); have x0 := (hSw.ce 1 rfl).2.1 0 _ rfl; have x1 := (hSw.ce 1 rfl).2.1 1 _ rfl; have x2 := (hSw.ce 1 rfl).2.1 2 _ rfl; have x3 := (hSw.ce 1 rfl).2.1 3 _ rfl; have x4 := (hSw.ce 1 rfl).2.1 4 _ rfl; have x5 := (hSw.ce 1 rfl).2.1 5 _ rfl; have x6 := (hSw.ce 1 rfl).2.1 6 _ rfl; go_simp; (try with_reducible rfl))
        refine tkq 4 hHeld ?_
        refine tkq 5 hHeld ?_
        refine only 6 rfl (by kernel_rfl) rfl (fun K hK => ?_)
        have hH5 : HeadAt _ b c m n ⟨pl, ah, q, la, un, wd⟩ := S5.out.nth 2 rfl
        refine ov_store rfl rfl rfl (hH5.fb.store 0 330 (pc q2) (by omega) info_pl (pc_one q2)) ?_
        have S6 : HS [b, c, m] w _ [thB U 330 (pc q2), thC E [.int .i64 e.k, .int .i64 e.s, .int .i64 e.a, .int .i64 e.p, .int .i64 e.w, .int .u64 e.y.a, .int .u64 e.y.b], thH b c m n ⟨q2, ah, q, la, un, wd⟩] := HS.upd (A := [thB U 330 (pc q2), thC E [.int .i64 e.k, .int .i64 e.s, .int .i64 e.a, .int .i64 e.p, .int .i64 e.w, .int .u64 e.y.a, .int .u64 e.y.b]]) (B := []) S5.out (thH b c m n ⟨q2, ah, q, la, un, wd⟩) rfl ((Ch.refl _ _).sets (.inl (by simp [thH]))) (hH5.setPool q2)
        refine hK.out _ _ (S6.drop2) (fun hE => ?_)
        clear hK
        try simp only [Act.put, List.setIfInBounds_toArray, List.set_cons_zero, List.set_cons_succ]
        refine tkq 7 hE ?_
        refine tkq 8 hE ?_
        refine only 9 rfl (by kernel_rfl) rfl (fun K hK => ?_)
        have hH6 : HeadAt _ b c m n ⟨q2, ah, q, la, un, wd⟩ := S6.nth 2 rfl
        refine ov_store rfl rfl rfl (hH6.storeL e) ?_
        have S7 : HS [b, c, m] w _ [thB U 330 (pc q2), thC E [.int .i64 e.k, .int .i64 e.s, .int .i64 e.a, .int .i64 e.p, .int .i64 e.w, .int .u64 e.y.a, .int .u64 e.y.b], thH b c m n ⟨q2, ah, q, e, un, wd⟩] := HS.upd (A := [thB U 330 (pc q2), thC E [.int .i64 e.k, .int .i64 e.s, .int .i64 e.a, .int .i64 e.p, .int .i64 e.w, .int .u64 e.y.a, .int .u64 e.y.b]]) (B := []) S6 (thH b c m n ⟨q2, ah, q, e, un, wd⟩) rfl ((Ch.refl _ _).sets (.inl (by simp [thH]))) (hH6.setLast e)
        refine hK.out _ _ (S7.drop2) (fun hZ => ?_)
        clear hK
        try simp only [Act.put, List.setIfInBounds_toArray, List.set_cons_zero, List.set_cons_succ]
        refine wpAnyH_done (by kernel_rfl) ?_ _
        go_wp2_with fail
        go_end0
        refine ⟨rfl, ?_, S7.ch⟩
        rw [HP.out]
        exact S7.nth 2 rfl
end
end Go.Proofs.YtomlpkojnipkhaaGreat

