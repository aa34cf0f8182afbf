/- What a head tells of itself; what waits. A head's channel: what waits, and is published. Channels and maps that are made; a word is laid. A new head. -/
import Derived.Test.YteefhiniamajkaaGreatGh
import Derived.BigQuiet
import Derived.Deep.RegionHeld3
import Derived.Deep.Cut
namespace Go.Proofs.YteefhiniamajkaaGreat
set_option linter.unusedVariables false
set_option linter.unusedSimpArgs false
open Go.RowKit Go.ChangeShapes Go.WideShapes Go.ChangeAt

section
variable {w : World} {b c m n : Nat} {h : Hd}
theorem version_any (hH : HeadAt w b c m n h) : Calls Tryz.prog 64 #[.pointer (some ⟨b, 0, none⟩)] w fun x w' => x = .returned (.int .i64 h.pl.v) ∧ w = w' := by
  have c0 := hH.c0
  clear hH
  go_enter Tryz.func64, Tryz.ntmps64
  go_wp2
  go_ret
  exact ⟨rfl, rfl⟩
theorem waiting_any (hH : HeadAt w b c m n h) : Calls Tryz.prog 55 #[.pointer (some ⟨b, 0, none⟩)] w fun x w' => x = .returned (.int .i64 h.q.length) ∧ w = w' := by
  have c0 := hH.c660
  obtain ⟨s, r, hC⟩ := hH.2.1
  have lc := fun ty => Go.Conc.run_len_chan (P := Tryz.prog) 107 ty Tryz.underlying107 hC
  clear hH hC
  go_enter Tryz.func55, Tryz.ntmps55
  go_wp2
  go_ret
  refine ⟨?_, rfl⟩
  simp [goInt]
attribute [local irreducible] PA
set_option maxRecDepth 100000 in
theorem pool_any (hH : HeadAt w b c m n h) : Calls Tryz.prog 37 #[.pointer (some ⟨b, 0, none⟩)] w fun x w' => x = .returned (plV h.pl) ∧ Below w.heap.size w w' := by
  have hz : ∀ w : World, (zeroValue 33).run Tryz.prog w = .ok (.agg (PA zPl)) w := fun w => zero_pl w
  have hz1 := pa_size zPl
  have hz2 := pa_ne zPl
  have LP := hid ((hH.alloc (.cells (PA zPl) 33)).loadP)
  have PN := PoolAt.made (w := w) (p := zPl) (T := 33) rfl
  have ST := hid (PN.storeA h.pl)
  have NW := PN.whole h.pl
  have B := hid (below_put (w := w) (T := 33) zPl h.pl)
  clear PN hH
  have NWH := hid NW
  clear NW
  unfold plV
  go_enter Tryz.func37, Tryz.ntmps37
  go_wp2_with (first | ((with_reducible refine wl_id ?_); refine wl_load rfl rfl rfl LP.out ?_) | ((with_reducible refine wl_id ?_); refine wl_store rfl rfl rfl rfl ST.out ?_; refine end_then ?_; apply_assumption; refine wp_ret ?_; (repeat refine ret_then ?_); (show bodyPost _ _ _ _ _ _); refine bodyPost_ret (v := .agg (PA h.pl)) (results_c1 Tryz.results37 _ rfl NWH.out) rfl ⟨rfl, B.out⟩))
end
end Go.Proofs.YteefhiniamajkaaGreat
namespace Go.Proofs.YteefhiniamajkaaGreat
set_option linter.unusedVariables false
set_option linter.unusedSimpArgs false
open Go.RowKit Go.ChangeShapes Go.WideShapes Go.ChangeAt

section
variable {w : World} {b c m n : Nat} {h : Hd}
set_option maxRecDepth 100000 in
theorem wait_any (hH : HeadAt w b c m n h) (e : En) (hq : h.q.length < 200) : Calls Tryz.prog 57 #[.pointer (some ⟨b, 0, none⟩), enV e] w fun x w' => x = .returned (.tuple #[]) ∧ HeadAt w' b c m n { h with q := h.q ++ [e] } ∧ Ch [b, c, m] w w' := by
  refine calls_of_wpN Tryz.func57 rfl ?_
  simp only [Tryz.ntmps57, List.size_toArray, List.length_cons, List.length_nil, Nat.reduceAdd, Nat.reduceSub, Array.replicate_succ, Array.replicate_zero, List.push_toArray, List.append_toArray, List.nil_append, List.cons_append]
  unfold enV at *
  refine wpN_seq_k (fun K hK => wpN_of ?_)
  go_wp2
  have S1 := hid (hH.hs.cells (T := 44) (enL e))
  unfold enL at S1
  generalize w.alloc (.cells #[.int .i64 e.k, .int .i64 e.s, .int .i64 e.a, .int .i64 e.p, .int .i64 e.w, .int .u64 e.y.a, .int .u64 e.y.b] 44) = w1 at *
  have hH1 : HeadAt w1 b c m n h := S1.out.nth 1 rfl
  have c0 := hH1.c660
  have e0 := (S1.out.ce 0 rfl).2.1 0 _ rfl
  have e1 := (S1.out.ce 0 rfl).2.1 1 _ rfl
  have e2 := (S1.out.ce 0 rfl).2.1 2 _ rfl
  have e3 := (S1.out.ce 0 rfl).2.1 3 _ rfl
  have e4 := (S1.out.ce 0 rfl).2.1 4 _ rfl
  have e5 := (S1.out.ce 0 rfl).2.1 5 _ rfl
  have e6 := (S1.out.ce 0 rfl).2.1 6 _ rfl
  refine wpN_seq_k (fun K hK => wpN_of ?_)
  go_wp2
  obtain ⟨s, r, hC⟩ := hH1.2.1
  refine wpN_seq_k (fun K hK => ?_)
  refine wpN_send1 (c := c) (cap := 200) (u := enV e) (z := (.agg #[.int .i64 0, .int .i64 0, .int .i64 0, .int .i64 0, .int .i64 0, .int .u64 0, .int .u64 0])) rfl (by unfold enV; simp [go_sem, execOp, Go.Conc.scase, Act.eval]) hC (by simpa using hq) ?_
  have H2 := hid (hH1.chan (h.q ++ [e]) (s + 1) r)
  have C2 := hid (S1.out.ch.trans (ch_chan w1 c 200 ((h.q ++ [e]).map enV).toArray false (s + 1) r false (by simp)))
  rw [show h.q.map enV ++ [enV e] = (h.q ++ [e]).map enV by simp]
  generalize (h.q ++ [e]).map enV = L2 at *
  go_wp2
  refine wpN_of ?_
  go_wp2
  go_end0
  exact ⟨rfl, H2.out, C2.out⟩
attribute [local irreducible] FA FL
set_option maxRecDepth 100000 in
set_option maxHeartbeats 8000000 in
theorem publish_any (hH : HeadAt w b c m n h) (hp : PB h.pl) : Calls Tryz.prog 63 #[.pointer (some ⟨b, 0, none⟩)] w fun x w' => x = .returned (.tuple #[]) ∧ HeadAt w' b c m n (pubH h) ∧ Ch [b, c, m] w w' := by
  obtain ⟨pl, ah, q, la, un, wd⟩ := h
  simp only at hp
  refine calls_of_wpN Tryz.func63 rfl ?_
  simp only [Tryz.ntmps63, List.size_toArray, List.length_cons, List.length_nil, Nat.reduceAdd, Nat.reduceSub, Array.replicate_succ, Array.replicate_zero, List.push_toArray, List.append_toArray, List.nil_append, List.cons_append]
  have c0 := hH.c660
  refine wpN_seq_k (fun K hK => wpN_of ?_)
  go_wp2
  clear c0
  obtain ⟨s, r, hC⟩ := hH.2.1
  cases q with
  | nil =>
    refine wpN_seq_k (fun K hK => ?_)
    refine wpN_none (c := c) (cap := 200) (s := s) (r := r) (tm := false) (z := (.agg #[.int .i64 0, .int .i64 0, .int .i64 0, .int .i64 0, .int .i64 0, .int .u64 0, .int .u64 0])) rfl (by simp [go_sem, execOp, Go.Conc.rcase, Act.eval]) hC ?_
    go_wp2
    refine wpN_of ?_
    go_wp2
    go_end0
    exact ⟨rfl, hH, Ch.refl _ _⟩
  | cons e q =>
    refine wpN_seq_k (fun K hK => ?_)
    refine wpN_recv1 (c := c) (cap := 200) (s := s) (r := r) (tm := false) (z := (.agg #[.int .i64 0, .int .i64 0, .int .i64 0, .int .i64 0, .int .i64 0, .int .u64 0, .int .u64 0])) rfl (by simp [go_sem, execOp, Go.Conc.rcase, Act.eval]) hC ?_
    have H1 := hH.chan q s (r + 1)
    have S1 := hid (HS.upd (A := []) (B := []) hH.hs (thH b c m n ⟨pl, ah, q, la, un, wd⟩) rfl (ch_chan w c 200 (q.map enV).toArray false s (r + 1) false (by simp [thH])) H1)
    simp only [List.nil_append] at S1
    generalize w.setChan c 200 (q.map enV).toArray false s (r + 1) false = w1 at *
    clear H1 hC
    unfold enV
    go_wp2
    refine wpN_of ?_
    have HP := hid (show pubH ⟨pl, ah, e :: q, la, un, wd⟩ = if (apR pl e).2 = 0 then ⟨(apR pl e).1, ah, q, e, un, wd⟩ else ⟨pl, ah, q, la, un, wd⟩ from rfl)
    have RP0 := fun w => apply_fa pl e hp w
    generalize apR pl e = ar at *
    obtain ⟨q2, er⟩ := ar
    simp only at HP RP0
    have RP := hid RP0
    clear RP0 hp
    go_upto_region 3 with (fail)
    have S2 := hid (S1.out.cells (T := 44) (enL e))
    unfold enL at S2
    generalize w1.alloc (.cells #[.int .i64 e.k, .int .i64 e.s, .int .i64 e.a, .int .i64 e.p, .int .i64 e.w, .int .u64 e.y.a, .int .u64 e.y.b] 44) = w2 at *
    generalize w1.heap.size = E at *
    clear S1
    go_cut [3, 4] from 13 to 22 (fun u x wx => ∃ U : Nat, u = .pointer (some ⟨U, 0, none⟩) ∧ x = .int .i64 er ∧ HS [b, c, m] w wx (thB U 330 (pc q2) :: [thC E [.int .i64 e.k, .int .i64 e.s, .int .i64 e.a, .int .i64 e.p, .int .i64 e.w, .int .u64 e.y.a, .int .u64 e.y.b], thH b c m n ⟨pl, ah, q, la, un, wd⟩]))
    case first =>
      refine wp_region_held_drew (S := fun w' => HS [b, c, m] w w' [thC E [.int .i64 e.k, .int .i64 e.s, .int .i64 e.a, .int .i64 e.p, .int .i64 e.w, .int .u64 e.y.a, .int .u64 e.y.b], thH b c m n ⟨pl, ah, q, la, un, wd⟩]) (by kernel_rfl) ?_ (fun hHeld => ?_)
      · exact S2.out.drew
      refine tkq 0 hHeld ?_
      refine tkq 1 hHeld ?_
      refine tkq 2 hHeld ?_
      refine tk 3 (v := .agg (FA 330 (pc pl))) rfl (by kernel_rfl) (by kernel_rfl) (by kernel_rfl) (fun _ _ _ h => h) rfl (fun w hSw => ex_load rfl rfl (HeadAt.loadF (hSw.nth 1 rfl))) hHeld ?_; (try simp only [Act.put, List.setIfInBounds_toArray, List.set_cons_zero, List.set_cons_succ])
      refine tkq 4 hHeld ?_ (hy := by intro w hSw; (try dsimp only at hSw); have x0 := (hSw.ce 0 rfl).2.1 0 _ rfl; have x1 := (hSw.ce 0 rfl).2.1 1 _ rfl; have x2 := (hSw.ce 0 rfl).2.1 2 _ rfl; have x3 := (hSw.ce 0 rfl).2.1 3 _ rfl; have x4 := (hSw.ce 0 rfl).2.1 4 _ rfl; have x5 := (hSw.ce 0 rfl).2.1 5 _ rfl; have x6 := (hSw.ce 0 rfl).2.1 6 _ rfl; go_simp; (try with_reducible rfl))
      refine twoUp 5 9 rfl rfl (by kernel_rfl) rfl rfl (fun K hK => ?_) (fun K hK => ?_)
      · go_simp
        refine (RP.out _).mono ?_
        rintro e' w' ⟨rfl, hb⟩
        try go_wp2_with fail
        refine hK.out _ _ (hHeld.below hb) (fun hz0 => ?_)
        clear hK
        try simp only [Act.put, List.setIfInBounds_toArray, List.set_cons_zero, List.set_cons_succ]
        refine tkq 6 hz0 ?_
        refine tkq 7 hz0 ?_
        refine tkq 8 hz0 ?_
        refine only 9 rfl (by kernel_rfl) rfl (fun K hK => ?_)
        refine ow_alloc rfl (zpl_fa _) (by omega) hz0 (fun U w' hN hU => ?_)
        refine hK.out _ _ (hN.tail) (fun hz1 => ?_)
        clear hK
        try simp only [Act.put, List.setIfInBounds_toArray, List.set_cons_zero, List.set_cons_succ]
        refine only 10 rfl (by kernel_rfl) rfl (fun K hK => ?_)
        refine ow_store (A := []) 0 330 (pc q2) (pc q2) rfl rfl rfl hN (by omega) (fun j hj => patch_all _ _ _ j hj) info_pl (pc_one q2) (fun w' hN2 => ?_)
        refine hK.out _ _ (hN2.tail) (fun hE => ?_)
        clear hK
        try simp only [Act.put, List.setIfInBounds_toArray, List.set_cons_zero, List.set_cons_succ]
        refine tkq 11 hE ?_
        refine wpAnyH_done (by kernel_rfl) ?_ _
        go_wp2_with fail
        go_meet
        exact ⟨U, rfl, rfl, hN2⟩
      · refine ow_alloc rfl (zpl_fa _) (by omega) hHeld (fun U w' hN hU => ?_)
        refine hK.out _ _ (hN.tail) (fun hz0 => ?_)
        clear hK
        try simp only [Act.put, List.setIfInBounds_toArray, List.set_cons_zero, List.set_cons_succ]
        refine only 5 rfl (by kernel_rfl) rfl (fun K hK => ?_)
        go_simp
        refine (RP.out _).mono ?_
        rintro e' w' ⟨rfl, hb⟩
        try go_wp2_with fail
        have hN := hN.below hb
        refine hK.out _ _ (hz0.below hb) (fun hz1 => ?_)
        clear hK
        try simp only [Act.put, List.setIfInBounds_toArray, List.set_cons_zero, List.set_cons_succ]
        refine tkq 6 hz1 ?_
        refine tkq 7 hz1 ?_
        refine tkq 8 hz1 ?_
        refine only 10 rfl (by kernel_rfl) rfl (fun K hK => ?_)
        refine ow_store (A := []) 0 330 (pc q2) (pc q2) rfl rfl rfl hN (by omega) (fun j hj => patch_all _ _ _ j hj) info_pl (pc_one q2) (fun w' hN2 => ?_)
        refine hK.out _ _ (hN2.tail) (fun hE => ?_)
        clear hK
        try simp only [Act.put, List.setIfInBounds_toArray, List.set_cons_zero, List.set_cons_succ]
        refine tkq 11 hE ?_
        refine wpAnyH_done (by kernel_rfl) ?_ _
        go_wp2_with fail
        go_meet
        exact ⟨U, rfl, rfl, hN2⟩
    case rest =>
      obtain ⟨U, rfl, rfl, hS3⟩ := hcut
      have S3 := hid hS3
      clear hS3 S2 RP
      cases be : (er == 0)
      · have hne : ¬ er = 0 := by simpa using be
        replace HP := hid (HP.out.trans (if_neg hne))
        clear hne
        go_wp2_with fail
        go_end0
        refine ⟨rfl, ?_, S3.out.ch⟩
        rw [HP.out]
        exact S3.out.nth 2 rfl
      · have he0 : er = 0 := by simpa using be
        subst he0
        replace HP := hid (HP.out.trans (if_pos rfl))
        clear be
        go_upto_region 5 with (fail)
        have S4 := hid (S3.out.drop2).drew
        have S5 := hid S3.out.drew
        refine wp_region_held_drew (S := fun w' => HS [b, c, m] w w' [thB U 330 (pc q2), thC E [.int .i64 e.k, .int .i64 e.s, .int .i64 e.a, .int .i64 e.p, .int .i64 e.w, .int .u64 e.y.a, .int .u64 e.y.b]]) (by kernel_rfl) ?_ (fun hHeld => ?_)
        · exact S4.out
        refine tkq 0 hHeld ?_
        refine tkq 1 hHeld ?_
        refine tk 2 (v := .agg (FA 330 (pc q2))) rfl (by kernel_rfl) (by kernel_rfl) (by kernel_rfl) (fun _ _ _ h => h) rfl (fun w hSw => ex_load rfl rfl ((hSw.fb 0 rfl).load 0 330 (pc q2) (by omega) (fun j hj => by rw [Nat.zero_add]) Tryz.underlying33 rfl info_pl)) hHeld ?_; (try simp only [Act.put, List.setIfInBounds_toArray, List.set_cons_zero, List.set_cons_succ])
        refine tkq 3 hHeld ?_ (hy := by intro w hSw; (try dsimp only at hSw); have x0 := (hSw.ce 1 rfl).2.1 0 _ rfl; have x1 := (hSw.ce 1 rfl).2.1 1 _ rfl; have x2 := (hSw.ce 1 rfl).2.1 2 _ rfl; have x3 := (hSw.ce 1 rfl).2.1 3 _ rfl; have x4 := (hSw.ce 1 rfl).2.1 4 _ rfl; have x5 := (hSw.ce 1 rfl).2.1 5 _ rfl; have x6 := (hSw.ce 1 rfl).2.1 6 _ rfl; go_simp; (try with_reducible rfl))
        refine tkq 4 hHeld ?_
        refine tkq 5 hHeld ?_
        refine only 6 rfl (by kernel_rfl) rfl (fun K hK => ?_)
        have hH5 : HeadAt _ b c m n ⟨pl, ah, q, la, un, wd⟩ := S5.out.nth 2 rfl
        refine ov_store rfl rfl rfl (hH5.fb.store 0 330 (pc q2) (by omega) info_pl (pc_one q2)) ?_
        have S6 : HS [b, c, m] w _ [thB U 330 (pc q2), thC E [.int .i64 e.k, .int .i64 e.s, .int .i64 e.a, .int .i64 e.p, .int .i64 e.w, .int .u64 e.y.a, .int .u64 e.y.b], thH b c m n ⟨q2, ah, q, la, un, wd⟩] := HS.upd (A := [thB U 330 (pc q2), thC E [.int .i64 e.k, .int .i64 e.s, .int .i64 e.a, .int .i64 e.p, .int .i64 e.w, .int .u64 e.y.a, .int .u64 e.y.b]]) (B := []) S5.out (thH b c m n ⟨q2, ah, q, la, un, wd⟩) rfl ((Ch.refl _ _).sets (.inl (by simp [thH]))) (hH5.setPool q2)
        refine hK.out _ _ (S6.drop2) (fun hE => ?_)
        clear hK
        try simp only [Act.put, List.setIfInBounds_toArray, List.set_cons_zero, List.set_cons_succ]
        refine tkq 7 hE ?_
        refine tkq 8 hE ?_
        refine only 9 rfl (by kernel_rfl) rfl (fun K hK => ?_)
        have hH6 : HeadAt _ b c m n ⟨q2, ah, q, la, un, wd⟩ := S6.nth 2 rfl
        refine ov_store rfl rfl rfl (hH6.storeL e) ?_
        have S7 : HS [b, c, m] w _ [thB U 330 (pc q2), thC E [.int .i64 e.k, .int .i64 e.s, .int .i64 e.a, .int .i64 e.p, .int .i64 e.w, .int .u64 e.y.a, .int .u64 e.y.b], thH b c m n ⟨q2, ah, q, e, un, wd⟩] := HS.upd (A := [thB U 330 (pc q2), thC E [.int .i64 e.k, .int .i64 e.s, .int .i64 e.a, .int .i64 e.p, .int .i64 e.w, .int .u64 e.y.a, .int .u64 e.y.b]]) (B := []) S6 (thH b c m n ⟨q2, ah, q, e, un, wd⟩) rfl ((Ch.refl _ _).sets (.inl (by simp [thH]))) (hH6.setLast e)
        refine hK.out _ _ (S7.drop2) (fun hZ => ?_)
        clear hK
        try simp only [Act.put, List.setIfInBounds_toArray, List.set_cons_zero, List.set_cons_succ]
        refine wpAnyH_done (by kernel_rfl) ?_ _
        go_wp2_with fail
        go_end0
        refine ⟨rfl, ?_, S7.ch⟩
        rw [HP.out]
        exact S7.nth 2 rfl
end
end Go.Proofs.YteefhiniamajkaaGreat
namespace Go.Proofs.YteefhiniamajkaaGreat
set_option linter.unusedVariables false
set_option linter.unusedSimpArgs false
open Go.RowKit Go.ChangeShapes Go.WideShapes Go.ChangeAt

def thCh (c : Nat) (q : List En) : Th := ⟨fun w => ∃ s r, w.heap[c]? = some (.chan 200 (q.map enV).toArray false s r false), [c], fun _ _ ⟨s, r, h⟩ e => ⟨s, r, (e c (by simp)).trans h⟩, fun _ ⟨_, _, h⟩ x hx => by simp at hx; subst hx; exact chan_lt h⟩
def thM (m n : Nat) (M : Int → Option Wd) : Th := ⟨fun w => HMap w m n M, [m], fun _ _ h e => h.same (e m (by simp)), fun _ h x hx => by simp at hx; subst hx; exact h.lt⟩
theorem HMap.update {w : World} {m n : Nat} {M : Int → Option Wd} (h : HMap w m n M) (hn : n ≤ 1000000) (s : Int) (hs : IHd s) (l : Wd) :
    ∃ w', (Instr.mapUpdate 108 (.map (some m)) (.int .i64 s) (wdV l)).run Tryz.prog w = .ok () w' ∧ HMap w' m (n + 1) (hupd M s (some l)) ∧ Ch [m] w w' := by
  obtain ⟨D, h1, h2, h3⟩ := h
  obtain ⟨w', hrun, hown, hg⟩ := h1.update keyedW Tryz.underlying108 (by unfold maxLen; omega) (hkey_of hs) (wdR_at l)
  refine ⟨w', hrun, HMap.put_ h2 h3 s l hown, ⟨hg.os, hg.tape, hg.output⟩, hg.size, fun k hk hs => hg.block k hk (fun e => hs (by injection e with e; simp [e]))⟩
theorem mk_chan (w : World) : (Instr.makeChan 107 (.int .i64 200)).run Tryz.prog w = .ok (.chan (some w.heap.size)) (w.alloc (.chan 200 #[] false 0 0 false)) := by
  have h : (Tryz.prog.info? 44).map (·.bytes) = some 56 := by kernel_rfl
  obtain ⟨i, hi, hb⟩ := Option.map_eq_some_iff.1 h
  exact Go.Conc.run_makeChan (P := Tryz.prog) (w := w) Tryz.underlying107 hi .i64 200 (by omega) (by rw [hb]; omega)
section
variable {S : List Nat} {W w : World} {L A B : List Th} {Q : Exit → Act → World → Prop} {o : Oper} {a : Act} {K : Act → World → Prop}
theorem ow_mkchan {x : Operand} (ho : o.op = .makeChan 107 x) (hx : a.eval x = .int .i64 200) (hS : HS S W w L)
    (h : ∀ c w', HS S W w' (thCh c [] :: L) → W.heap.size ≤ c → K (a.put o.dst (.chan (some c))) w') : o.wp Tryz.prog a w K Q := by
  refine ow_val (v := .chan (some w.heap.size)) (w' := w.alloc (.chan 200 #[] false 0 0 false)) ?_ (h _ _ (hS.new (thCh w.heap.size []) ((Below.refl _ _).alloc (Nat.le_refl _) _) ⟨0, 0, heap_alloc_new w _⟩ (by simp [thCh]) (fun b hb => by simp [thCh] at hb; omega)) hS.wsize)
  unfold execOp
  simp only [ho, hx, Sem.run_bind, mk_chan, Result.andThen_ok, Sem.run_pure]
theorem ow_mkmap (ho : o.op = .makeMap 108 none) (hS : HS S W w L)
    (h : ∀ m w', HS S W w' (thM m 0 (fun _ => none) :: L) → W.heap.size ≤ m → K (a.put o.dst (.map (some m))) w') : o.wp Tryz.prog a w K Q := by
  have hmm := @run_makeMap Tryz.prog
  refine ow_val (v := .map (some w.heap.size)) (w' := w.alloc (.map #[] 0)) ?_ (h _ _ (hS.new (thM w.heap.size 0 (fun _ => none)) ((Below.refl _ _).alloc (Nat.le_refl _) _) (HMap.made w) (by simp [thM]) (fun b hb => by simp [thM] at hb; omega)) hS.wsize)
  unfold execOp
  simp only [ho]
  go_simp
end
section
variable {P : Program} {w : World} {v : Value} {f : Operand → Value} {o : Oper} {T : TypeId} {i1 i2 i3 i4 i5 : Nat} {x1 x2 x3 x4 x5 : Operand} {v1 v2 v3 v4 v5 : Value}
theorem ex_build2 (ho : o.op = .build T #[(i1, x1), (i2, x2)]) (h1 : f x1 = v1) (h2 : f x2 = v2) (hl : (Instr.build T #[(i1, v1), (i2, v2)]).run P w = .ok v w) : (execOp f o).run P w = .ok (.value v) w := by
  unfold execOp; simp only [ho, List.map_toArray, List.map_cons, List.map_nil, h1, h2, Sem.run_bind, hl, Result.andThen_ok, Sem.run_pure]
theorem ex_build3 (ho : o.op = .build T #[(i1, x1), (i2, x2), (i3, x3)]) (h1 : f x1 = v1) (h2 : f x2 = v2) (h3 : f x3 = v3) (hl : (Instr.build T #[(i1, v1), (i2, v2), (i3, v3)]).run P w = .ok v w) : (execOp f o).run P w = .ok (.value v) w := by
  unfold execOp; simp only [ho, List.map_toArray, List.map_cons, List.map_nil, h1, h2, h3, Sem.run_bind, hl, Result.andThen_ok, Sem.run_pure]
theorem ex_build4 (ho : o.op = .build T #[(i1, x1), (i2, x2), (i3, x3), (i4, x4)]) (h1 : f x1 = v1) (h2 : f x2 = v2) (h3 : f x3 = v3) (h4 : f x4 = v4) (hl : (Instr.build T #[(i1, v1), (i2, v2), (i3, v3), (i4, v4)]).run P w = .ok v w) : (execOp f o).run P w = .ok (.value v) w := by
  unfold execOp; simp only [ho, List.map_toArray, List.map_cons, List.map_nil, h1, h2, h3, h4, Sem.run_bind, hl, Result.andThen_ok, Sem.run_pure]
theorem ex_build5 (ho : o.op = .build T #[(i1, x1), (i2, x2), (i3, x3), (i4, x4), (i5, x5)]) (h1 : f x1 = v1) (h2 : f x2 = v2) (h3 : f x3 = v3) (h4 : f x4 = v4) (h5 : f x5 = v5) (hl : (Instr.build T #[(i1, v1), (i2, v2), (i3, v3), (i4, v4), (i5, v5)]).run P w = .ok v w) : (execOp f o).run P w = .ok (.value v) w := by
  unfold execOp; simp only [ho, List.map_toArray, List.map_cons, List.map_nil, h1, h2, h3, h4, h5, Sem.run_bind, hl, Result.andThen_ok, Sem.run_pure]
end
theorem build_hdF (p a : Pl) (c : Nat) (u : Int) (m : Nat) (w : World) : (Instr.build 110 #[(0, .agg (FA 330 (pc p))), (1, .agg (FA 330 (pc a))), (2, .chan (some c)), (4, .int .i64 u), (5, .map (some m))]).run Tryz.prog w = .ok (.agg (FA 670 (hdc p a c zEn u m))) w := build_hd p a c u m w
theorem HS.boxed {S : List Nat} {W w : World} {L : List Th} (h : HS S W w L) {n : Nat} (f : Nat → Value) {T : TypeId} : HS S W (w.alloc (.cells (FA n f) T)) (thB w.heap.size n f :: L) :=
  h.new (thB w.heap.size n f) ((Below.refl _ _).alloc (Nat.le_refl _) _) (Fb.made rfl) (by simp [thB]) (fun b hb => by simp [thB] at hb; omega)
theorem HS.head {S : List Nat} {W w : World} {L : List Th} {b c m n : Nat} {p a : Pl} {q : List En} {la : En} {un : Nat} {M : Int → Option Wd} {wd : Nat → Wd}
    (h : HS S W w (thB b 670 (hdc p a c la un m) :: thM m n M :: thCh c q :: L)) (hw : ∀ i : Nat, i < un → M i = some (wd i)) : HS S W w (thH b c m n ⟨p, a, q, la, un, wd⟩ :: L) := by
  have hF : Fb w b 670 (hdc p a c la un m) := h.nth 0 rfl
  have hM : HMap w m n M := h.nth 1 rfl
  have hC : ∃ s r, w.heap[c]? = some (.chan 200 (q.map enV).toArray false s r false) := h.nth 2 rfl
  obtain ⟨h1, h2, h3, h4⟩ := h
  have h3' := h3
  simp only [List.flatMap_cons, thB, thM, thCh, List.nodup_append, List.cons_append, List.nil_append, List.nodup_cons, List.mem_cons, not_or] at h3'
  obtain ⟨⟨n1, n2, n3⟩, ⟨n4, n5⟩, n6, n7⟩ := h3'
  refine ⟨fun t ht => ?_, h2, ?_, fun x hx => ?_⟩
  · rcases List.mem_cons.1 ht with rfl | ht
    · exact ⟨hF, hC, ⟨M, hM, hw⟩, n2, n1, fun e => n4 e.symm⟩
    · exact h1 t (by simp [ht])
  · simp only [List.flatMap_cons, thH, List.cons_append, List.nil_append, List.nodup_cons, List.mem_cons, not_or]
    exact ⟨⟨n2, n1, n3⟩, ⟨fun e => n4 e.symm, n6⟩, n5, n7⟩
  · refine h4 x ?_
    simp only [List.flatMap_cons, thH, thB, thM, thCh, List.cons_append, List.nil_append, List.mem_cons] at hx ⊢
    rcases hx with h | h | h | h
    · exact .inl h
    · exact .inr (.inr (.inl h))
    · exact .inr (.inl h)
    · exact .inr (.inr (.inr h))
end Go.Proofs.YteefhiniamajkaaGreat
namespace Go.Proofs.YteefhiniamajkaaGreat
set_option linter.unusedVariables false
set_option linter.unusedSimpArgs false
open Go.RowKit Go.ChangeShapes Go.WideShapes Go.ChangeAt

theorem upd_next {M : Int → Option Wd} {k : Nat} {x : Wd} (h : ∀ j : Nat, j < k → M j = some x) (j : Nat) (hj : j < k + 1) : hupd M k (some x) j = some x := by
  unfold hupd
  by_cases e : (j : Int) = k
  · rw [if_pos e]
  · rw [if_neg e]; exact h j (by omega)
theorem HS.swap12 {S : List Nat} {W w : World} {L : List Th} {a b c : Th} (h : HS S W w (a :: b :: c :: L)) : HS S W w (a :: c :: b :: L) := by
  obtain ⟨h1, h2, h3, h4⟩ := h
  have hp : (a :: b :: c :: L).Perm (a :: c :: b :: L) := List.Perm.cons a (List.Perm.swap c b L)
  exact ⟨fun t ht => h1 t (hp.mem_iff.2 ht), h2, (hp.flatMap_right _).nodup_iff.1 h3, fun x hx => h4 x ((hp.flatMap_right _).mem_iff.2 hx)⟩
theorem HS.drop3 {S : List Nat} {W w : World} {L : List Th} {a b c t : Th} (h : HS S W w (a :: b :: c :: t :: L)) : HS S W w (a :: b :: c :: L) := HS.drop (A := [a, b, c]) h
theorem HS.own {W w : World} {L : List Th} (h : HS [] W w L) (b : Nat) (hb : b ∈ L.flatMap Th.bs) : W.heap.size ≤ b := by
  rcases h.2.2.2 b hb with h1 | h1
  · cases h1
  · exact h1
theorem hnew_no (p : Pl) (u : Int) (hu : u < 1 ∨ 16 < u) (w : World) : Calls Tryz.prog 26 #[plV p, .int .i64 u] w fun x w' => x = .returned (.tuple #[.pointer none, .int .i64 14]) ∧ Below w.heap.size w w' := by
  unfold plV
  rw [pa_fa]
  rcases hu with hu | hu
  · go_enter Tryz.func26, Tryz.ntmps26
    go_wp2
    go_ret2
    exact ⟨rfl, (Below.refl _ _).alloc (Nat.le_refl _) _⟩
  · have h2 : ¬ u < 1 := by omega
    go_enter Tryz.func26, Tryz.ntmps26
    go_wp2
    go_ret2
    exact ⟨rfl, (Below.refl _ _).alloc (Nat.le_refl _) _⟩
/-- A new head lies in blocks of its own. -/
def NewOk (w : World) (p : Pl) (u : Nat) (x : Ending) (w' : World) : Prop := ∃ b c m : Nat, x = .returned (.tuple #[.pointer (some ⟨b, 0, none⟩), .int .i64 0]) ∧ HeadAt w' b c m u (newH p u) ∧ w.heap.size ≤ b ∧ w.heap.size ≤ c ∧ w.heap.size ≤ m ∧ Below w.heap.size w w'
attribute [local irreducible] FA FL
set_option maxRecDepth 100000 in
set_option maxHeartbeats 8000000 in
theorem hnew_ok (p : Pl) (u : Nat) (hu : 1 ≤ u ∧ u ≤ 16) (w : World) : Calls Tryz.prog 26 #[plV p, .int .i64 (u : Int)] w (NewOk w p u) := by
  obtain ⟨hu1, hu2⟩ := hu
  unfold plV
  rw [pa_fa]
  go_enter Tryz.func26, Tryz.ntmps26
  go_upto_region 3 with (fail)
  have S1 := hid ((HS.start (S := []) (W := w)).boxed (n := 330) (T := 33) (pc p))
  generalize w.alloc (.cells (FA 330 (pc p)) 33) = w1 at *
  obtain ⟨A, hA⟩ : ∃ A, A = w.heap.size := ⟨_, rfl⟩
  rw [← hA] at S1 ⊢
  replace hA := hid hA
  go_cut [6] from 14 to 21 (fun x wx => ∃ b c m : Nat, x = .pointer (some ⟨b, 0, none⟩) ∧ HS [] w wx [thB b 670 (hdc p p c zEn (u : Int) m), thM m 0 (fun _ => none), thCh c [], thB A 330 (pc p)])
  case first =>
    refine wp_region_held_drew (S := fun w' => HS [] w w' [thB A 330 (pc p)]) (by kernel_rfl) ?_ (fun hHeld => ?_)
    · exact S1.out.drew
    refine tk 0 (v := .agg (FA 330 (pc p))) rfl (by kernel_rfl) (by kernel_rfl) (by kernel_rfl) (fun _ _ _ h => h) rfl (fun w hSw => ex_load rfl rfl ((hSw.fb 0 rfl).load 0 330 (pc p) (by omega) (fun j hj => by rw [Nat.zero_add]) Tryz.underlying33 rfl info_pl)) hHeld ?_; (try simp only [Act.put, List.setIfInBounds_toArray, List.set_cons_zero, List.set_cons_succ])
    refine tk 1 (v := .agg (FA 330 (pc p))) rfl (by kernel_rfl) (by kernel_rfl) (by kernel_rfl) (fun _ _ _ h => h) rfl (fun w hSw => ex_load rfl rfl ((hSw.fb 0 rfl).load 0 330 (pc p) (by omega) (fun j hj => by rw [Nat.zero_add]) Tryz.underlying33 rfl info_pl)) hHeld ?_; (try simp only [Act.put, List.setIfInBounds_toArray, List.set_cons_zero, List.set_cons_succ])
    refine tkq 3 hHeld ?_
    refine twoUp 2 4 rfl rfl (by kernel_rfl) rfl rfl (fun K hK => ?_) (fun K hK => ?_)
    · refine ow_mkchan rfl rfl hHeld (fun c w' hN _ => ?_)
      refine hK.out _ _ (hN.tail) (fun h1 => ?_)
      clear hK
      try simp only [Act.put, List.setIfInBounds_toArray, List.set_cons_zero, List.set_cons_succ]
      refine only 4 rfl (by kernel_rfl) rfl (fun K hK => ?_)
      refine ow_mkmap rfl hN (fun m w' hN2 _ => ?_)
      refine hK.out _ _ (hN2.tail.tail) (fun h2 => ?_)
      clear hK
      try simp only [Act.put, List.setIfInBounds_toArray, List.set_cons_zero, List.set_cons_succ]
      refine tk 5 (v := .agg (FA 670 (hdc p p c zEn (u : Int) m))) rfl (by kernel_rfl) (by kernel_rfl) (by kernel_rfl) (fun _ _ _ h => h) rfl (fun w hSw => ex_build5 rfl rfl rfl rfl rfl rfl (build_hdF p p c u m w)) h2 ?_; (try simp only [Act.put, List.setIfInBounds_toArray, List.set_cons_zero, List.set_cons_succ])
      refine only 6 rfl (by kernel_rfl) rfl (fun K hK => ?_)
      refine ow_box rfl rfl (by omega) hN2 (fun b w' hB _ => ?_)
      refine hK.out _ _ (hB.tail.tail.tail) (fun hE => ?_)
      clear hK
      try simp only [Act.put, List.setIfInBounds_toArray, List.set_cons_zero, List.set_cons_succ]
      refine tkq 7 hE ?_
      refine wpAnyH_done (by kernel_rfl) ?_ _
      go_wp2_with fail
      go_meet
      exact ⟨b, c, m, rfl, hB⟩
    · refine ow_mkmap rfl hHeld (fun m w' hN _ => ?_)
      refine hK.out _ _ (hN.tail) (fun h1 => ?_)
      clear hK
      try simp only [Act.put, List.setIfInBounds_toArray, List.set_cons_zero, List.set_cons_succ]
      refine only 2 rfl (by kernel_rfl) rfl (fun K hK => ?_)
      refine ow_mkchan rfl rfl hN (fun c w' hN2 _ => ?_)
      refine hK.out _ _ (hN2.tail.tail) (fun h2 => ?_)
      clear hK
      try simp only [Act.put, List.setIfInBounds_toArray, List.set_cons_zero, List.set_cons_succ]
      refine tk 5 (v := .agg (FA 670 (hdc p p c zEn (u : Int) m))) rfl (by kernel_rfl) (by kernel_rfl) (by kernel_rfl) (fun _ _ _ h => h) rfl (fun w hSw => ex_build5 rfl rfl rfl rfl rfl rfl (build_hdF p p c u m w)) h2 ?_; (try simp only [Act.put, List.setIfInBounds_toArray, List.set_cons_zero, List.set_cons_succ])
      refine only 6 rfl (by kernel_rfl) rfl (fun K hK => ?_)
      refine ow_box rfl rfl (by omega) hN2 (fun b w' hB _ => ?_)
      refine hK.out _ _ (hB.tail.tail.tail) (fun hE => ?_)
      clear hK
      try simp only [Act.put, List.setIfInBounds_toArray, List.set_cons_zero, List.set_cons_succ]
      refine tkq 7 hE ?_
      refine wpAnyH_done (by kernel_rfl) ?_ _
      go_wp2_with fail
      go_meet
      exact ⟨b, c, m, rfl, hB.swap12⟩
  case rest =>
    obtain ⟨b, c, m, rfl, hS2⟩ := hcut
    have S2 := hid hS2.drop3
    clear hS2 S1
    go_wp2_with fail
    go_loopw [22] (fun i wx => ∃ (k : Nat) (M : Int → Option Wd), k ≤ u ∧ i = .int .i64 (k : Int) ∧ (∀ j : Nat, j < k → M j = some ⟨0, -1⟩) ∧ HS [] w wx [thB b 670 (hdc p p c zEn (u : Int) m), thM m k M, thCh c []]) (fun i _ => u - (intOf i).toNat)
    case atStart =>
      exact ⟨0, _, Nat.zero_le _, rfl, fun j hj => absurd hj (Nat.not_lt_zero _), S2.out⟩
    case round =>
      clear S2
      obtain ⟨k, M, hk, rfl, hM, hS⟩ := hrel
      have HM := hid hM
      have S3 := hid hS
      clear hM hS
      have c669 : wr.cell? ⟨b, 669, none⟩ = some (.map (some m)) := (S3.out.fb 0 rfl).2.1 669 (by omega)
      by_cases hlt : (k : Int) < u
      · obtain ⟨w6, hrun, hM6, hC6⟩ := HMap.update (S3.out.nth 1 rfl : HMap wr m k M) (by omega) k ⟨by omega, by omega⟩ ⟨0, -1⟩
        unfold wdV at hrun
        have S6 : Hid (HS [] w w6 [thB b 670 (hdc p p c zEn (u : Int) m), thM m (k + 1) (hupd M k (some ⟨0, -1⟩)), thCh c []]) := hid (HS.upd (A := [thB b 670 (hdc p p c zEn (u : Int) m)]) (B := [thCh c []]) S3.out (thM m (k + 1) (hupd M k (some ⟨0, -1⟩))) rfl hC6 hM6)
        clear S3 hM6 hC6
        go_wp2_with fail
        go_roundw
        case rel =>
          exact ⟨k + 1, _, by omega, by go_num, fun j hj => upd_next HM.out j hj, S6.out⟩
        case measure => simp [intOf]; omega
      · have hku : k = u := by omega
        have HF := hid (HS.head S3.out (wd := fun _ => ⟨0, -1⟩) (fun i hi => HM.out i (by omega)))
        go_wp2_with fail
        go_ret2
        have hB := HF.out.bl
        refine (⟨b, c, m, rfl, ?_, ?_, ?_, ?_, hB⟩ : NewOk w p u _ _)
        · have h0 : HeadAt _ b c m k (newH p u) := HF.out.nth 0 rfl
          rw [hku] at h0
          exact h0
        · exact HF.out.own b (by simp [thH])
        · exact HF.out.own c (by simp [thH])
        · exact HF.out.own m (by simp [thH])
end Go.Proofs.YteefhiniamajkaaGreat
