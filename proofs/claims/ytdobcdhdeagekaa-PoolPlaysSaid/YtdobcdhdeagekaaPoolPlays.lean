/- roundhouselaw6.PoolPlays answers true for every row, any two numbers; no condition. -/
import Derived.Test.YtdobcdhdeagekaaPolLoop
import Derived.BigQuiet
import Derived.Deep.RegionHeld3
import Derived.Deep.Cut
namespace Go.Proofs.Ytdobcdhdeagekaa.poolPlays
set_option linter.unusedVariables false
set_option linter.unusedSimpArgs false
open Go.RowKit Go.ChangeShapes Go.WideShapes Go.ChangeAt

theorem pool_newD {W w : World} {L : List (Nat × Pl)} {A : Option Addr} {n : Nat} {g : Nat → Int} {T : TypeId} (h : SS W (w.alloc (.cells (PA zPl) T)).drew L A n g) : PoolAt (w.alloc (.cells (PA zPl) T)).drew w.heap.size zPl := (PoolAt.made rfl).drew
theorem pool_new {W w : World} {L : List (Nat × Pl)} {A : Option Addr} {n : Nat} {g : Nat → Int} {T : TypeId} (h : SS W (w.alloc (.cells (PA zPl) T)) L A n g) : PoolAt (w.alloc (.cells (PA zPl) T)) w.heap.size zPl := PoolAt.made rfl
attribute [local irreducible] PA
set_option maxRecDepth 100000 in
set_option maxHeartbeats 8000000 in
theorem walk (W : World) (A1 : Option Addr) (n1 c1 : Nat) (g1 : Nat → Int) (hn1 : n1 ≤ c1) (hc1 : c1 ≤ maxLen) (hr1 : Is W A1 n1 g1) (hg1 : IsI g1) (hl1 : ∀ ad, A1 = some ad → 0 < n1 → ad.block < W.heap.size) (re1 : c1 * 8 ≤ 140737488351232) (a0 : Int) (r_a0 : -9223372036854775808 ≤ a0 ∧ a0 ≤ 9223372036854775807) (b0 : Int) (r_b0 : -9223372036854775808 ≤ b0 ∧ b0 ≤ 9223372036854775807) :
    Calls Try.prog 3 #[.slice A1 n1 c1, .int .i64 a0, .int .i64 b0] W fun e w' => e = .returned (.bool true) ∧ Below W.heap.size W w' := by
  have hz : ∀ w : World, (zeroValue 34).run Try.prog w = .ok (.agg (PA zPl)) w := fun w => zero_pl w
  have hz1 := pa_size zPl
  have hz2 := pa_ne zPl
  obtain ⟨a, ha⟩ : ∃ x, x = wi a0 6 := ⟨_, rfl⟩
  have ba := wi_bd a0 6 (by omega)
  rw [← ha] at ba
  have Wa := hid (fun w => re_i64 (within_any a0 6 w (by omega) (by omega)) ha.symm)
  clear ha
  obtain ⟨ba1, ba2⟩ := ba
  obtain ⟨b, hb⟩ : ∃ x, x = wi b0 4 := ⟨_, rfl⟩
  have bb := wi_bd b0 4 (by omega)
  rw [← hb] at bb
  have Wb := hid (fun w => re_i64 (within_any b0 4 w (by omega) (by omega)) hb.symm)
  clear hb
  obtain ⟨bb1, bb2⟩ := bb
  obtain ⟨ka, hka⟩ : ∃ ka, ka = kyN a0 := ⟨_, rfl⟩
  obtain ⟨kb, hkb⟩ : ∃ kb, kb = kyN b0 := ⟨_, rfl⟩
  have LA := fun w => lkey_any a0 w
  have LB := fun w => lkey_any b0 w
  rw [← hka] at LA
  rw [← hkb] at LB
  clear hka hkb
  unfold kyV at LA LB
  replace LA := hid LA
  replace LB := hid LB
  obtain ⟨q0, hq0⟩ : ∃ q0 : Pl, q0 = ⟨0, a, b, fun _ => zSp, ⟨1, zKy, ka, kb⟩⟩ := ⟨_, rfl⟩
  have NW := hid (show ∀ w, Calls Try.prog 16 #[.int .i64 a, .int .i64 b, .agg #[.int .u64 ka.a, .int .u64 ka.b], .agg #[.int .u64 kb.a, .int .u64 kb.b]] w fun x w' => x = .returned (.tuple #[.agg (PA q0), .int .i64 0]) ∧ Below w.heap.size w w' from fun w => re_v (new_any a b ka kb w) (by rw [nwR_in ⟨by omega, by omega⟩ ⟨by omega, by omega⟩, hq0]; rfl))
  have RW := hid (show ∀ w, Calls Try.prog 18 #[.int .i64 a, .int .i64 b, .agg #[.int .u64 ka.a, .int .u64 ka.b], .agg #[.int .u64 kb.a, .int .u64 kb.b]] w fun x w' => x = .returned (.tuple #[.agg (PA q0), .int .i64 0]) ∧ Below w.heap.size w w' from fun w => re_v (rnew_any a b ka kb w) (by rw [nwR_in ⟨by omega, by omega⟩ ⟨by omega, by omega⟩, hq0]; rfl))
  have PI := hid (show Pinv q0 0 from by rw [hq0]; exact nwR_inv a b ka kb)
  clear hq0
  have HL := hid hl1
  unfold maxLen at hc1
  have hnm : (n1 : Int) ≤ 9223372036854775807 := by have := hn1; omega
  clear hl1 re1
  go_enter Try.func3, Try.ntmps3
  go_wp2_with fail
  refine (known_any _).mono ?_
  rintro x w1 ⟨rfl, hB⟩
  go_wp2_with fail
  refine (Wa.out _).mono ?_
  rintro x w' ⟨rfl, rfl⟩
  go_wp2_with fail
  refine (Wb.out _).mono ?_
  rintro x w' ⟨rfl, rfl⟩
  have S1 := hid (show SS W w1 [] A1 n1 g1 from ⟨fun x hx => absurd hx (by simp), hr1.below hB (Nat.le_refl _), hB⟩)
  clear hB hr1
  go_wp2_with fail
  refine (LA.out _).mono ?_
  rintro x w2 ⟨rfl, hb⟩
  have S2 := hid (S1.out.below hb)
  clear hb
  go_wp2_with fail
  refine (LB.out _).mono ?_
  rintro x w3 ⟨rfl, hb⟩
  have S3 := hid (S2.out.below hb)
  clear hb S2 S1
  go_wp2_with fail
  refine (NW.out _).mono ?_
  rintro x w4 ⟨rfl, hb⟩
  have S4 := hid (S3.out.below hb)
  clear hb S3
  have ST := hid ((PoolAt.made (w := w4) (p := zPl) (T := 34) rfl).storeA q0)
  have NW2 := (PoolAt.made (w := w4) (p := zPl) (T := 34) rfl).whole q0
  have S5 := hid ((SS.sets (S4.out.alloc (.cells (PA zPl) 34)) (c := w4.heap.size) (o := 0) (vs := (PA q0).toList) (SS.ne S4.out) HL.out S4.out.bl.size).cons NW2)
  have lA := S4.out.bl.size
  clear NW2
  go_upto_region 5 with ((with_reducible refine wl_id ?_); refine wl_store rfl rfl rfl rfl ST.out ?_)
  clear ST
  generalize (w4.alloc (.cells (PA zPl) 34)).setCells w4.heap.size 0 (PA q0).toList = w5 at *
  have nA := SS.ne S5.out
  have lA2 := (SS.get S5.out (b := w4.heap.size) (p := q0) (by simp)).1
  clear S4
  generalize w4.heap.size = A at *
  go_wp2_with fail
  have S6 := S5
  clear S5 nA
  refine (LA.out _).mono ?_
  rintro x w2 ⟨rfl, hb⟩
  have S2 := hid (S6.out.below hb)
  clear hb
  go_wp2_with fail
  refine (LB.out _).mono ?_
  rintro x w3 ⟨rfl, hb⟩
  have S3 := hid (S2.out.below hb)
  clear hb S2 S6
  go_wp2_with fail
  refine (RW.out _).mono ?_
  rintro x w4 ⟨rfl, hb⟩
  have S4 := hid (S3.out.below hb)
  clear hb S3
  have hAB : A < w4.heap.size := (SS.get S4.out (b := A) (p := q0) (by simp)).1
  have ST := hid ((PoolAt.made (w := w4) (p := zPl) (T := 34) rfl).storeA q0)
  have NW2 := (PoolAt.made (w := w4) (p := zPl) (T := 34) rfl).whole q0
  have S5 := hid ((SS.sets (S4.out.alloc (.cells (PA zPl) 34)) (c := w4.heap.size) (o := 0) (vs := (PA q0).toList) (SS.ne S4.out) HL.out S4.out.bl.size).cons NW2)
  have lB := S4.out.bl.size
  clear NW2
  go_upto_region 6 with ((with_reducible refine wl_id ?_); refine wl_store rfl rfl rfl rfl ST.out ?_)
  clear ST
  generalize (w4.alloc (.cells (PA zPl) 34)).setCells w4.heap.size 0 (PA q0).toList = w6 at *
  clear S4
  generalize w4.heap.size = B at *
  have LA2 := (SS.get S5.out (b := A) (p := q0) (by simp)).loadA
  have LB2 := (SS.get S5.out (b := B) (p := q0) (by simp)).loadA
  go_wp2_with (first | ((with_reducible refine wl_id ?_); refine wl_load rfl rfl rfl LA2 ?_) | ((with_reducible refine wl_id ?_); refine wl_load rfl rfl rfl LB2 ?_) | ((with_reducible refine wl_id ?_); refine wl_val rfl (ex_neql _ _ rfl q0 rfl rfl _) ?_))
  clear LA2 LB2 LA LB NW RW
  have dAB : A ≠ B := Nat.ne_of_lt hAB
  have dBA := Ne.symm dAB
  go_loopw [13] (fun i wr => ∃ (k : Nat) (q : Pl), k ≤ n1 ∧ k ≤ 80 ∧ i = .int .i64 (k : Int) ∧ Pinv q k ∧ SS W wr [(B, q), (A, q)] A1 n1 g1) (fun i _ => 80 - (intOf i).toNat)
  case atStart => exact ⟨0, q0, by omega, by omega, rfl, PI.out, S5.out⟩
  case round =>
    clear S5 PI
    obtain ⟨k, q, hk, hk80, rfl, hq, hS⟩ := hrel
    have HQ := hid hq
    have S := hid hS
    clear hq hS
    by_cases hlt : k < n1 ∧ k < 80
    · obtain ⟨hlt1, hlt2⟩ := hlt
      have i0 : (0 : Int) ≤ k := by omega
      have i1 : (k : Int) < n1 := by omega
      have i2 : (k : Int) < 80 := by omega
      obtain ⟨bb, off, rfl⟩ := Sl.addr S.out.row (by omega)
      have gk := hg1 k
      have EN0 := fun w => entry_any (g1 k) w
      obtain ⟨en, hen⟩ : ∃ en, en = enN (g1 k) := ⟨_, rfl⟩
      rw [← hen] at EN0
      clear hen
      obtain ⟨e1, e2, e3, e4, e5, e6, e7⟩ := en
      unfold enV at EN0
      simp only at EN0
      have EN := hid EN0
      clear EN0
      obtain ⟨ar, har⟩ : ∃ ar, ar = apR q ⟨e1, e2, e3, e4, e5, ⟨e6, e7⟩⟩ := ⟨_, rfl⟩
      have AP := hid (show ∀ w, Calls Try.prog 19 #[.agg (PA q), .agg #[.int .i64 e1, .int .i64 e2, .int .i64 e3, .int .i64 e4, .int .i64 e5, .int .u64 e6, .int .u64 e7]] w fun x w' => x = .returned (.tuple #[.agg (PA ar.1), .int .i64 ar.2]) ∧ Below w.heap.size w w' from by rw [har]; exact fun w => apply_any q ⟨e1, e2, e3, e4, e5, ⟨e6, e7⟩⟩ (HQ.out.pb (by omega)) w)
      have RP := hid (show ∀ w, Calls Try.prog 21 #[.agg (PA q), .agg #[.int .i64 e1, .int .i64 e2, .int .i64 e3, .int .i64 e4, .int .i64 e5, .int .u64 e6, .int .u64 e7]] w fun x w' => x = .returned (.tuple #[.agg (PA ar.1), .int .i64 ar.2]) ∧ Below w.heap.size w w' from by rw [har]; exact fun w => rapply_any q ⟨e1, e2, e3, e4, e5, ⟨e6, e7⟩⟩ (HQ.out.pb (by omega)) w)
      have HI := hid (fun h0 : ar.2 = 0 => (show Pinv ar.1 ((k + 1 : Nat) : Int) from by have h := apR_inv HQ.out (e := ⟨e1, e2, e3, e4, e5, ⟨e6, e7⟩⟩) (by rw [← har]; exact h0); rw [← har] at h; exact h.mono (by omega)))
      clear har
      obtain ⟨q2, er⟩ := ar
      simp only at AP RP HI
      go_upto_region 11 with (fail)
      go_cut [14, 15] from 62 (fun p x wx => ∃ U : Nat, p = .pointer (some ⟨U, 0, none⟩) ∧ x = .int .i64 er ∧ PoolAt wx U q2 ∧ SS W wx [(B, q), (A, q)] (some ⟨bb, off, none⟩) n1 g1 ∧ W.heap.size ≤ U ∧ ∀ x, x ∈ ([(B, q), (A, q)] : List (Nat × Pl)) → U ≠ x.1)
      case first =>
        refine wp_region_held_drew (S := fun w' => SS W w' [(B, q), (A, q)] (some ⟨bb, off, none⟩) n1 g1) (by kernel_rfl) ?_ (fun hHeld => ?_)
        · exact S.out.drew
        refine tk 0 (v := .agg (PA q)) rfl (by kernel_rfl) (by kernel_rfl) (by kernel_rfl) (fun _ _ _ h => h) rfl (fun w hSw => ex_load rfl rfl (SS.get hSw (b := A) (p := q) (by simp)).loadA) hHeld ?_
        try simp only [Act.put, List.setIfInBounds_toArray, List.set_cons_zero, List.set_cons_succ]
        refine tk 1 (v := ?_) rfl (by kernel_rfl) (by kernel_rfl) (by kernel_rfl) (fun _ _ _ h => h) rfl ?_ hHeld ?_; rotate_left; (focus (intro w hSw; (try dsimp only at hSw);  go_simp; (try with_reducible rfl))); (try simp only [Act.put, List.setIfInBounds_toArray, List.set_cons_zero, List.set_cons_succ])
        refine tk 2 (v := ?_) rfl (by kernel_rfl) (by kernel_rfl) (by kernel_rfl) (fun _ _ _ h => h) rfl ?_ hHeld ?_; rotate_left; (focus (intro w hSw; (try dsimp only at hSw);  go_simp; (try with_reducible rfl))); (try simp only [Act.put, List.setIfInBounds_toArray, List.set_cons_zero, List.set_cons_succ])
        refine tk 3 (v := ?_) rfl (by kernel_rfl) (by kernel_rfl) (by kernel_rfl) (fun _ _ _ h => h) rfl ?_ hHeld ?_; rotate_left; (focus (intro w hSw; (try dsimp only at hSw);  go_simp; (try with_reducible rfl))); (try simp only [Act.put, List.setIfInBounds_toArray, List.set_cons_zero, List.set_cons_succ])
        refine tk 4 (v := ?_) rfl (by kernel_rfl) (by kernel_rfl) (by kernel_rfl) (fun _ _ _ h => h) rfl ?_ hHeld ?_; rotate_left; (focus (intro w hSw; (try dsimp only at hSw); have xc := Sl.at_ hSw.row (j := k) hlt1; go_simp; (try with_reducible rfl))); (try simp only [Act.put, List.setIfInBounds_toArray, List.set_cons_zero, List.set_cons_succ])
        refine twoUp 5 10 rfl rfl (by kernel_rfl) rfl rfl (fun K hK => ?_) (fun K hK => ?_)
        · go_simp
          refine (EN.out _).mono ?_
          rintro e' w' ⟨rfl, hb⟩
          try go_wp2_with fail
          refine hK.out _ _ (SS.below hHeld hb) (fun h2 => ?_)
          clear hK
          try simp only [Act.put, List.setIfInBounds_toArray, List.set_cons_zero, List.set_cons_succ]
          refine twoUp 6 10 rfl rfl (by kernel_rfl) rfl rfl (fun K hK => ?_) (fun K hK => ?_)
          · go_simp
            refine (AP.out _).mono ?_
            rintro e' w' ⟨rfl, hb'⟩
            try go_wp2_with fail
            refine hK.out _ _ (SS.below h2 hb') (fun h3 => ?_)
            clear hK
            try simp only [Act.put, List.setIfInBounds_toArray, List.set_cons_zero, List.set_cons_succ]
            refine tk 7 (v := ?_) rfl (by kernel_rfl) (by kernel_rfl) (by kernel_rfl) (fun _ _ _ h => h) rfl ?_ h3 ?_; rotate_left; (focus (intro w hSw; (try dsimp only at hSw);  go_simp; (try with_reducible rfl))); (try simp only [Act.put, List.setIfInBounds_toArray, List.set_cons_zero, List.set_cons_succ])
            refine tk 8 (v := ?_) rfl (by kernel_rfl) (by kernel_rfl) (by kernel_rfl) (fun _ _ _ h => h) rfl ?_ h3 ?_; rotate_left; (focus (intro w hSw; (try dsimp only at hSw);  go_simp; (try with_reducible rfl))); (try simp only [Act.put, List.setIfInBounds_toArray, List.set_cons_zero, List.set_cons_succ])
            refine tk 9 (v := ?_) rfl (by kernel_rfl) (by kernel_rfl) (by kernel_rfl) (fun _ _ _ h => h) rfl ?_ h3 ?_; rotate_left; (focus (intro w hSw; (try dsimp only at hSw);  go_simp; (try with_reducible rfl))); (try simp only [Act.put, List.setIfInBounds_toArray, List.set_cons_zero, List.set_cons_succ])
            refine only 10 rfl (by kernel_rfl) rfl (fun K hK => ?_)
            have nL := SS.ne h3
            have lN := h3.bl.size
            go_simp
            skip
            refine hK.out _ _ (SS.alloc h3 _) (fun h4 => ?_)
            clear hK
            try simp only [Act.put, List.setIfInBounds_toArray, List.set_cons_zero, List.set_cons_succ]
            have NN := pool_new h4
            have ST := NN.storeA q2
            have NW := NN.whole q2
            refine only 11 rfl (by kernel_rfl) rfl (fun K hK => ?_)
            refine ov_store rfl rfl rfl ST ?_
            refine hK.out _ _ (SS.sets h4 nL HL.out lN) (fun hE => ?_)
            clear hK
            try simp only [Act.put, List.setIfInBounds_toArray, List.set_cons_zero, List.set_cons_succ]
            refine tk 12 (v := ?_) rfl (by kernel_rfl) (by kernel_rfl) (by kernel_rfl) (fun _ _ _ h => h) rfl ?_ hE ?_; rotate_left; (focus (intro w hSw; (try dsimp only at hSw);  go_simp; (try with_reducible rfl))); (try simp only [Act.put, List.setIfInBounds_toArray, List.set_cons_zero, List.set_cons_succ])
            refine wpAnyH_done (by kernel_rfl) ?_ _
            go_wp2_with fail
            go_meet
            exact ⟨_, rfl, rfl, NW, hE, lN, nL⟩
          · have nL := SS.ne h2
            have lN := h2.bl.size
            go_simp
            skip
            refine hK.out _ _ (SS.alloc h2 _) (fun h3 => ?_)
            clear hK
            try simp only [Act.put, List.setIfInBounds_toArray, List.set_cons_zero, List.set_cons_succ]
            have NN0 := pool_new h3
            refine only 6 rfl (by kernel_rfl) rfl (fun K hK => ?_)
            go_simp
            refine (AP.out _).mono ?_
            rintro e' w' ⟨rfl, hb'⟩
            try go_wp2_with fail
            refine hK.out _ _ (SS.below h3 hb') (fun h4 => ?_)
            clear hK
            try simp only [Act.put, List.setIfInBounds_toArray, List.set_cons_zero, List.set_cons_succ]
            have NN := NN0.below hb'
            have ST := NN.storeA q2
            have NW := NN.whole q2
            refine tk 7 (v := ?_) rfl (by kernel_rfl) (by kernel_rfl) (by kernel_rfl) (fun _ _ _ h => h) rfl ?_ h4 ?_; rotate_left; (focus (intro w hSw; (try dsimp only at hSw);  go_simp; (try with_reducible rfl))); (try simp only [Act.put, List.setIfInBounds_toArray, List.set_cons_zero, List.set_cons_succ])
            refine tk 8 (v := ?_) rfl (by kernel_rfl) (by kernel_rfl) (by kernel_rfl) (fun _ _ _ h => h) rfl ?_ h4 ?_; rotate_left; (focus (intro w hSw; (try dsimp only at hSw);  go_simp; (try with_reducible rfl))); (try simp only [Act.put, List.setIfInBounds_toArray, List.set_cons_zero, List.set_cons_succ])
            refine tk 9 (v := ?_) rfl (by kernel_rfl) (by kernel_rfl) (by kernel_rfl) (fun _ _ _ h => h) rfl ?_ h4 ?_; rotate_left; (focus (intro w hSw; (try dsimp only at hSw);  go_simp; (try with_reducible rfl))); (try simp only [Act.put, List.setIfInBounds_toArray, List.set_cons_zero, List.set_cons_succ])
            refine only 11 rfl (by kernel_rfl) rfl (fun K hK => ?_)
            refine ov_store rfl rfl rfl ST ?_
            refine hK.out _ _ (SS.sets h4 nL HL.out lN) (fun hE => ?_)
            clear hK
            try simp only [Act.put, List.setIfInBounds_toArray, List.set_cons_zero, List.set_cons_succ]
            refine tk 12 (v := ?_) rfl (by kernel_rfl) (by kernel_rfl) (by kernel_rfl) (fun _ _ _ h => h) rfl ?_ hE ?_; rotate_left; (focus (intro w hSw; (try dsimp only at hSw);  go_simp; (try with_reducible rfl))); (try simp only [Act.put, List.setIfInBounds_toArray, List.set_cons_zero, List.set_cons_succ])
            refine wpAnyH_done (by kernel_rfl) ?_ _
            go_wp2_with fail
            go_meet
            exact ⟨_, rfl, rfl, NW, hE, lN, nL⟩
        · have nL := SS.ne hHeld
          have lN := hHeld.bl.size
          go_simp
          skip
          refine hK.out _ _ (SS.alloc hHeld _) (fun h2 => ?_)
          clear hK
          try simp only [Act.put, List.setIfInBounds_toArray, List.set_cons_zero, List.set_cons_succ]
          have NN0 := pool_newD h2
          refine only 5 rfl (by kernel_rfl) rfl (fun K hK => ?_)
          go_simp
          refine (EN.out _).mono ?_
          rintro e' w' ⟨rfl, hb⟩
          try go_wp2_with fail
          refine hK.out _ _ (SS.below h2 hb) (fun h3 => ?_)
          clear hK
          try simp only [Act.put, List.setIfInBounds_toArray, List.set_cons_zero, List.set_cons_succ]
          have NN1 := NN0.below hb
          refine only 6 rfl (by kernel_rfl) rfl (fun K hK => ?_)
          go_simp
          refine (AP.out _).mono ?_
          rintro e' w' ⟨rfl, hb'⟩
          try go_wp2_with fail
          refine hK.out _ _ (SS.below h3 hb') (fun h4 => ?_)
          clear hK
          try simp only [Act.put, List.setIfInBounds_toArray, List.set_cons_zero, List.set_cons_succ]
          have NN := NN1.below hb'
          have ST := NN.storeA q2
          have NW := NN.whole q2
          refine tk 7 (v := ?_) rfl (by kernel_rfl) (by kernel_rfl) (by kernel_rfl) (fun _ _ _ h => h) rfl ?_ h4 ?_; rotate_left; (focus (intro w hSw; (try dsimp only at hSw);  go_simp; (try with_reducible rfl))); (try simp only [Act.put, List.setIfInBounds_toArray, List.set_cons_zero, List.set_cons_succ])
          refine tk 8 (v := ?_) rfl (by kernel_rfl) (by kernel_rfl) (by kernel_rfl) (fun _ _ _ h => h) rfl ?_ h4 ?_; rotate_left; (focus (intro w hSw; (try dsimp only at hSw);  go_simp; (try with_reducible rfl))); (try simp only [Act.put, List.setIfInBounds_toArray, List.set_cons_zero, List.set_cons_succ])
          refine tk 9 (v := ?_) rfl (by kernel_rfl) (by kernel_rfl) (by kernel_rfl) (fun _ _ _ h => h) rfl ?_ h4 ?_; rotate_left; (focus (intro w hSw; (try dsimp only at hSw);  go_simp; (try with_reducible rfl))); (try simp only [Act.put, List.setIfInBounds_toArray, List.set_cons_zero, List.set_cons_succ])
          refine only 11 rfl (by kernel_rfl) rfl (fun K hK => ?_)
          refine ov_store rfl rfl rfl ST ?_
          refine hK.out _ _ (SS.sets h4 nL HL.out lN) (fun hE => ?_)
          clear hK
          try simp only [Act.put, List.setIfInBounds_toArray, List.set_cons_zero, List.set_cons_succ]
          refine tk 12 (v := ?_) rfl (by kernel_rfl) (by kernel_rfl) (by kernel_rfl) (fun _ _ _ h => h) rfl ?_ hE ?_; rotate_left; (focus (intro w hSw; (try dsimp only at hSw);  go_simp; (try with_reducible rfl))); (try simp only [Act.put, List.setIfInBounds_toArray, List.set_cons_zero, List.set_cons_succ])
          refine wpAnyH_done (by kernel_rfl) ?_ _
          go_wp2_with fail
          go_meet
          exact ⟨_, rfl, rfl, NW, hE, lN, nL⟩
      case rest =>
        obtain ⟨N, rfl, rfl, hN, hS2, lN, nN⟩ := hcut
        have dNB : N ≠ B := nN (B, q) (by simp)
        have dNA : N ≠ A := nN (A, q) (by simp)
        clear nN
        have S2 := hid (hS2.cons hN)
        clear hN hS2 S
        go_upto_region 12 with (fail)
        go_cut [16, 17] from 72 (fun p x wx => ∃ U : Nat, p = .pointer (some ⟨U, 0, none⟩) ∧ x = .int .i64 er ∧ PoolAt wx U q2 ∧ SS W wx [(N, q2), (B, q), (A, q)] (some ⟨bb, off, none⟩) n1 g1 ∧ W.heap.size ≤ U ∧ ∀ x, x ∈ ([(N, q2), (B, q), (A, q)] : List (Nat × Pl)) → U ≠ x.1)
        case first =>
          refine wp_region_held_drew (S := fun w' => SS W w' [(N, q2), (B, q), (A, q)] (some ⟨bb, off, none⟩) n1 g1) (by kernel_rfl) ?_ (fun hHeld => ?_)
          · exact S2.out.drew
          refine tk 0 (v := .agg (PA q)) rfl (by kernel_rfl) (by kernel_rfl) (by kernel_rfl) (fun _ _ _ h => h) rfl (fun w hSw => ex_load rfl rfl (SS.get hSw (b := B) (p := q) (by simp)).loadA) hHeld ?_
          try simp only [Act.put, List.setIfInBounds_toArray, List.set_cons_zero, List.set_cons_succ]
          refine tk 1 (v := ?_) rfl (by kernel_rfl) (by kernel_rfl) (by kernel_rfl) (fun _ _ _ h => h) rfl ?_ hHeld ?_; rotate_left; (focus (intro w hSw; (try dsimp only at hSw);  go_simp; (try with_reducible rfl))); (try simp only [Act.put, List.setIfInBounds_toArray, List.set_cons_zero, List.set_cons_succ])
          refine tk 2 (v := ?_) rfl (by kernel_rfl) (by kernel_rfl) (by kernel_rfl) (fun _ _ _ h => h) rfl ?_ hHeld ?_; rotate_left; (focus (intro w hSw; (try dsimp only at hSw);  go_simp; (try with_reducible rfl))); (try simp only [Act.put, List.setIfInBounds_toArray, List.set_cons_zero, List.set_cons_succ])
          refine tk 3 (v := ?_) rfl (by kernel_rfl) (by kernel_rfl) (by kernel_rfl) (fun _ _ _ h => h) rfl ?_ hHeld ?_; rotate_left; (focus (intro w hSw; (try dsimp only at hSw);  go_simp; (try with_reducible rfl))); (try simp only [Act.put, List.setIfInBounds_toArray, List.set_cons_zero, List.set_cons_succ])
          refine tk 4 (v := ?_) rfl (by kernel_rfl) (by kernel_rfl) (by kernel_rfl) (fun _ _ _ h => h) rfl ?_ hHeld ?_; rotate_left; (focus (intro w hSw; (try dsimp only at hSw); have xc := Sl.at_ hSw.row (j := k) hlt1; go_simp; (try with_reducible rfl))); (try simp only [Act.put, List.setIfInBounds_toArray, List.set_cons_zero, List.set_cons_succ])
          refine twoUp 5 10 rfl rfl (by kernel_rfl) rfl rfl (fun K hK => ?_) (fun K hK => ?_)
          · go_simp
            refine (EN.out _).mono ?_
            rintro e' w' ⟨rfl, hb⟩
            try go_wp2_with fail
            refine hK.out _ _ (SS.below hHeld hb) (fun h2 => ?_)
            clear hK
            try simp only [Act.put, List.setIfInBounds_toArray, List.set_cons_zero, List.set_cons_succ]
            refine twoUp 6 10 rfl rfl (by kernel_rfl) rfl rfl (fun K hK => ?_) (fun K hK => ?_)
            · go_simp
              refine (RP.out _).mono ?_
              rintro e' w' ⟨rfl, hb'⟩
              try go_wp2_with fail
              refine hK.out _ _ (SS.below h2 hb') (fun h3 => ?_)
              clear hK
              try simp only [Act.put, List.setIfInBounds_toArray, List.set_cons_zero, List.set_cons_succ]
              refine tk 7 (v := ?_) rfl (by kernel_rfl) (by kernel_rfl) (by kernel_rfl) (fun _ _ _ h => h) rfl ?_ h3 ?_; rotate_left; (focus (intro w hSw; (try dsimp only at hSw);  go_simp; (try with_reducible rfl))); (try simp only [Act.put, List.setIfInBounds_toArray, List.set_cons_zero, List.set_cons_succ])
              refine tk 8 (v := ?_) rfl (by kernel_rfl) (by kernel_rfl) (by kernel_rfl) (fun _ _ _ h => h) rfl ?_ h3 ?_; rotate_left; (focus (intro w hSw; (try dsimp only at hSw);  go_simp; (try with_reducible rfl))); (try simp only [Act.put, List.setIfInBounds_toArray, List.set_cons_zero, List.set_cons_succ])
              refine tk 9 (v := ?_) rfl (by kernel_rfl) (by kernel_rfl) (by kernel_rfl) (fun _ _ _ h => h) rfl ?_ h3 ?_; rotate_left; (focus (intro w hSw; (try dsimp only at hSw);  go_simp; (try with_reducible rfl))); (try simp only [Act.put, List.setIfInBounds_toArray, List.set_cons_zero, List.set_cons_succ])
              refine only 10 rfl (by kernel_rfl) rfl (fun K hK => ?_)
              have nL := SS.ne h3
              have lN := h3.bl.size
              go_simp
              skip
              refine hK.out _ _ (SS.alloc h3 _) (fun h4 => ?_)
              clear hK
              try simp only [Act.put, List.setIfInBounds_toArray, List.set_cons_zero, List.set_cons_succ]
              have NN := pool_new h4
              have ST := NN.storeA q2
              have NW := NN.whole q2
              refine only 11 rfl (by kernel_rfl) rfl (fun K hK => ?_)
              refine ov_store rfl rfl rfl ST ?_
              refine hK.out _ _ (SS.sets h4 nL HL.out lN) (fun hE => ?_)
              clear hK
              try simp only [Act.put, List.setIfInBounds_toArray, List.set_cons_zero, List.set_cons_succ]
              refine tk 12 (v := ?_) rfl (by kernel_rfl) (by kernel_rfl) (by kernel_rfl) (fun _ _ _ h => h) rfl ?_ hE ?_; rotate_left; (focus (intro w hSw; (try dsimp only at hSw);  go_simp; (try with_reducible rfl))); (try simp only [Act.put, List.setIfInBounds_toArray, List.set_cons_zero, List.set_cons_succ])
              refine wpAnyH_done (by kernel_rfl) ?_ _
              go_wp2_with fail
              go_meet
              exact ⟨_, rfl, rfl, NW, hE, lN, nL⟩
            · have nL := SS.ne h2
              have lN := h2.bl.size
              go_simp
              skip
              refine hK.out _ _ (SS.alloc h2 _) (fun h3 => ?_)
              clear hK
              try simp only [Act.put, List.setIfInBounds_toArray, List.set_cons_zero, List.set_cons_succ]
              have NN0 := pool_new h3
              refine only 6 rfl (by kernel_rfl) rfl (fun K hK => ?_)
              go_simp
              refine (RP.out _).mono ?_
              rintro e' w' ⟨rfl, hb'⟩
              try go_wp2_with fail
              refine hK.out _ _ (SS.below h3 hb') (fun h4 => ?_)
              clear hK
              try simp only [Act.put, List.setIfInBounds_toArray, List.set_cons_zero, List.set_cons_succ]
              have NN := NN0.below hb'
              have ST := NN.storeA q2
              have NW := NN.whole q2
              refine tk 7 (v := ?_) rfl (by kernel_rfl) (by kernel_rfl) (by kernel_rfl) (fun _ _ _ h => h) rfl ?_ h4 ?_; rotate_left; (focus (intro w hSw; (try dsimp only at hSw);  go_simp; (try with_reducible rfl))); (try simp only [Act.put, List.setIfInBounds_toArray, List.set_cons_zero, List.set_cons_succ])
              refine tk 8 (v := ?_) rfl (by kernel_rfl) (by kernel_rfl) (by kernel_rfl) (fun _ _ _ h => h) rfl ?_ h4 ?_; rotate_left; (focus (intro w hSw; (try dsimp only at hSw);  go_simp; (try with_reducible rfl))); (try simp only [Act.put, List.setIfInBounds_toArray, List.set_cons_zero, List.set_cons_succ])
              refine tk 9 (v := ?_) rfl (by kernel_rfl) (by kernel_rfl) (by kernel_rfl) (fun _ _ _ h => h) rfl ?_ h4 ?_; rotate_left; (focus (intro w hSw; (try dsimp only at hSw);  go_simp; (try with_reducible rfl))); (try simp only [Act.put, List.setIfInBounds_toArray, List.set_cons_zero, List.set_cons_succ])
              refine only 11 rfl (by kernel_rfl) rfl (fun K hK => ?_)
              refine ov_store rfl rfl rfl ST ?_
              refine hK.out _ _ (SS.sets h4 nL HL.out lN) (fun hE => ?_)
              clear hK
              try simp only [Act.put, List.setIfInBounds_toArray, List.set_cons_zero, List.set_cons_succ]
              refine tk 12 (v := ?_) rfl (by kernel_rfl) (by kernel_rfl) (by kernel_rfl) (fun _ _ _ h => h) rfl ?_ hE ?_; rotate_left; (focus (intro w hSw; (try dsimp only at hSw);  go_simp; (try with_reducible rfl))); (try simp only [Act.put, List.setIfInBounds_toArray, List.set_cons_zero, List.set_cons_succ])
              refine wpAnyH_done (by kernel_rfl) ?_ _
              go_wp2_with fail
              go_meet
              exact ⟨_, rfl, rfl, NW, hE, lN, nL⟩
          · have nL := SS.ne hHeld
            have lN := hHeld.bl.size
            go_simp
            skip
            refine hK.out _ _ (SS.alloc hHeld _) (fun h2 => ?_)
            clear hK
            try simp only [Act.put, List.setIfInBounds_toArray, List.set_cons_zero, List.set_cons_succ]
            have NN0 := pool_newD h2
            refine only 5 rfl (by kernel_rfl) rfl (fun K hK => ?_)
            go_simp
            refine (EN.out _).mono ?_
            rintro e' w' ⟨rfl, hb⟩
            try go_wp2_with fail
            refine hK.out _ _ (SS.below h2 hb) (fun h3 => ?_)
            clear hK
            try simp only [Act.put, List.setIfInBounds_toArray, List.set_cons_zero, List.set_cons_succ]
            have NN1 := NN0.below hb
            refine only 6 rfl (by kernel_rfl) rfl (fun K hK => ?_)
            go_simp
            refine (RP.out _).mono ?_
            rintro e' w' ⟨rfl, hb'⟩
            try go_wp2_with fail
            refine hK.out _ _ (SS.below h3 hb') (fun h4 => ?_)
            clear hK
            try simp only [Act.put, List.setIfInBounds_toArray, List.set_cons_zero, List.set_cons_succ]
            have NN := NN1.below hb'
            have ST := NN.storeA q2
            have NW := NN.whole q2
            refine tk 7 (v := ?_) rfl (by kernel_rfl) (by kernel_rfl) (by kernel_rfl) (fun _ _ _ h => h) rfl ?_ h4 ?_; rotate_left; (focus (intro w hSw; (try dsimp only at hSw);  go_simp; (try with_reducible rfl))); (try simp only [Act.put, List.setIfInBounds_toArray, List.set_cons_zero, List.set_cons_succ])
            refine tk 8 (v := ?_) rfl (by kernel_rfl) (by kernel_rfl) (by kernel_rfl) (fun _ _ _ h => h) rfl ?_ h4 ?_; rotate_left; (focus (intro w hSw; (try dsimp only at hSw);  go_simp; (try with_reducible rfl))); (try simp only [Act.put, List.setIfInBounds_toArray, List.set_cons_zero, List.set_cons_succ])
            refine tk 9 (v := ?_) rfl (by kernel_rfl) (by kernel_rfl) (by kernel_rfl) (fun _ _ _ h => h) rfl ?_ h4 ?_; rotate_left; (focus (intro w hSw; (try dsimp only at hSw);  go_simp; (try with_reducible rfl))); (try simp only [Act.put, List.setIfInBounds_toArray, List.set_cons_zero, List.set_cons_succ])
            refine only 11 rfl (by kernel_rfl) rfl (fun K hK => ?_)
            refine ov_store rfl rfl rfl ST ?_
            refine hK.out _ _ (SS.sets h4 nL HL.out lN) (fun hE => ?_)
            clear hK
            try simp only [Act.put, List.setIfInBounds_toArray, List.set_cons_zero, List.set_cons_succ]
            refine tk 12 (v := ?_) rfl (by kernel_rfl) (by kernel_rfl) (by kernel_rfl) (fun _ _ _ h => h) rfl ?_ hE ?_; rotate_left; (focus (intro w hSw; (try dsimp only at hSw);  go_simp; (try with_reducible rfl))); (try simp only [Act.put, List.setIfInBounds_toArray, List.set_cons_zero, List.set_cons_succ])
            refine wpAnyH_done (by kernel_rfl) ?_ _
            go_wp2_with fail
            go_meet
            exact ⟨_, rfl, rfl, NW, hE, lN, nL⟩
        case rest =>
          obtain ⟨M, rfl, rfl, hM, hS3, lM, nM⟩ := hcut
          have dMB : M ≠ B := nM (B, q) (by simp)
          have dMA : M ≠ A := nM (A, q) (by simp)
          clear nM
          have S3 := hid (hS3.cons hM)
          clear hM hS3 S2
          have LN := (SS.get S3.out (b := N) (p := q2) (by simp)).loadA
          have LM := (SS.get S3.out (b := M) (p := q2) (by simp)).loadA
          go_upto_region 15 with (first | ((with_reducible refine wl_id ?_); refine wl_load rfl rfl rfl LN ?_) | ((with_reducible refine wl_id ?_); refine wl_load rfl rfl rfl LM ?_) | ((with_reducible refine wl_id ?_); refine wl_val rfl (ex_neql _ _ rfl q2 rfl rfl _) ?_))
          clear LN LM
          cases be : (er == 0)
          · go_wp2_with fail
            go_roundw
            case rel => exact ⟨k + 1, q, by omega, by omega, by go_num, HQ.out.mono (by omega), S3.out.less (fun x hx => List.mem_cons_of_mem _ (List.mem_cons_of_mem _ hx))⟩
            case measure => simp [intOf]; omega
          · have he0 : er = 0 := by simpa using be
            subst he0
            go_upto_region 16 with (fail)
            have PA0 := SS.get S3.out (b := A) (p := q) (by simp)
            have PB0 := SS.get S3.out (b := B) (p := q) (by simp)
            refine wp_region_held_drew (S := fun w' => SS W w' [(M, q2), (N, q2)] (some ⟨bb, off, none⟩) n1 g1) (by kernel_rfl) ?_ (fun hHeld => ?_)
            · exact (S3.out.less (fun x hx => by simp at hx ⊢; rcases hx with rfl | rfl <;> simp)).drew
            refine tk 0 (v := .agg (PA q2)) rfl (by kernel_rfl) (by kernel_rfl) (by kernel_rfl) (fun _ _ _ h => h) rfl (fun w hSw => ex_load rfl rfl (SS.get hSw (b := N) (p := q2) (by simp)).loadA) hHeld ?_
            try simp only [Act.put, List.setIfInBounds_toArray, List.set_cons_zero, List.set_cons_succ]
            refine tk 1 (v := .agg (PA q2)) rfl (by kernel_rfl) (by kernel_rfl) (by kernel_rfl) (fun _ _ _ h => h) rfl (fun w hSw => ex_load rfl rfl (SS.get hSw (b := M) (p := q2) (by simp)).loadA) hHeld ?_
            try simp only [Act.put, List.setIfInBounds_toArray, List.set_cons_zero, List.set_cons_succ]
            refine only 2 rfl (by kernel_rfl) rfl (fun K hK => ?_)
            refine ov_store rfl rfl rfl (PA0.drew.storeA q2) ?_
            refine hK.out _ _ (SS.sets hHeld (fun x hx => by simp at hx; rcases hx with rfl | rfl; exact Ne.symm dMA; exact Ne.symm dNA) HL.out lA) (fun h2 => ?_)
            clear hK
            try simp only [Act.put, List.setIfInBounds_toArray, List.set_cons_zero, List.set_cons_succ]
            have PB1 := PB0.drew.others (c := A) (o := 0) (vs := (PA q2).toList) dAB
            have PA1 := PA0.drew.whole q2
            refine only 3 rfl (by kernel_rfl) rfl (fun K hK => ?_)
            refine ov_store rfl rfl rfl (PB1.storeA q2) ?_
            refine hK.out _ _ (SS.sets h2 (fun x hx => by simp at hx; rcases hx with rfl | rfl; exact Ne.symm dMB; exact Ne.symm dNB) HL.out lB) (fun h3 => ?_)
            clear hK
            try simp only [Act.put, List.setIfInBounds_toArray, List.set_cons_zero, List.set_cons_succ]
            have PB2 := PB1.whole q2
            have PA2 := PA1.others (c := B) (o := 0) (vs := (PA q2).toList) dBA
            refine wpAnyH_done (by kernel_rfl) ?_ _
            have SF := hid (((h3.less (L' := []) (by simp)).cons PA2).cons PB2)
            clear PB2 PA2 PB1 PA1 PB0 PA0 h2 h3 hHeld S3 EN AP RP
            generalize (wc.drew.setCells A 0 (PA q2).toList).setCells B 0 (PA q2).toList = wz at *
            go_wp2_with fail
            go_roundw
            case rel => exact ⟨k + 1, q2, by omega, by omega, by go_num, HI.out rfl, SF.out⟩
            case measure => simp [intOf]; omega
    · have hdec : ¬ (k : Int) < n1 ∨ ¬ (k : Int) < 80 := by omega
      by_cases hkn : (k : Int) < n1
      · have hk8 : ¬ (k : Int) < 80 := by omega
        clear hdec hlt
        go_wp2_with fail
        go_ret
        exact ⟨rfl, S.out.bl⟩
      · clear hdec hlt
        go_wp2_with fail
        go_ret
        exact ⟨rfl, S.out.bl⟩

set_option maxRecDepth 100000 in
theorem lifted (os : Os) (started : os.Started) (H : Type) (enc : TypeId × Value → H) :
    ReturnsInHanded {} Try.checked os 3 .any (Rows.poolPlaysSpec.pre6 enc Try.prog Try.f3 [] false) (Rows.poolPlaysSpec.post enc Try.prog Try.f3 false true false false) :=
  law_step (s := Rows.poolPlaysSpec) started (by kernel_rfl) Try.func3
    (ChangeSpec.witness6 (s := Rows.poolPlaysSpec) (enc := enc) (C := Try.checked) false ⟨#[], #[.slice none 0 0, .int .i64 0, .int .i64 0], []⟩ 8 (by kernel_rfl) (by kernel_rfl) (by kernel_rfl) (by kernel_rfl))
    rfl (by rw [Try.params3]; decide +kernel) rfl Try.underlying4
    (fun ds h => by
      rw [Try.params3] at h
      match ds, h with
      | [_, _, _], _ => rfl)
    (fun W base args ds ps hval hA hsz => by
      rw [Try.params3] at hA hval hsz
      obtain ⟨v0, vs0, d0, ds0, p0, q0, hargs, rfl, rfl, h0, r0⟩ := trodAll_cons hA
      obtain ⟨v1, vs1, d1, ds1, p1, q1, rfl, rfl, rfl, h1, r1⟩ := trodAll_cons r0
      obtain ⟨v2, vs2, d2, ds2, p2, q2, rfl, rfl, rfl, h2, r2⟩ := trodAll_cons r1
      obtain ⟨rfl, rfl, rfl⟩ := trodAll_nil r2
      obtain rfl : args = #[v0, v1, v2] := by cases args; simp_all
      obtain ⟨A0, n0, c0, g0, rfl, hn0, hc0, hs0, hw0, hl0, hd0⟩ := open_row Try.underlying22 Try.underlying3 (by kernel_rfl) (hval 0 22 v0 rfl rfl) h0
      have re0 : c0 * 8 ≤ 140737488351232 := by
        rcases hd0 with ⟨_, h0⟩ | ⟨xs, ys, h1, h2⟩
        · omega
        · have := sized_slice hsz (j := 0) (t := 22) (e := 3) rfl (by rw [h1]; rfl) Try.underlying22
          rw [h2, show Try.prog.bytesOf 3 = 8 from by kernel_rfl] at this
          simpa [reachBytes] using this
      obtain ⟨a1, rfl, rfl, rfl, w1⟩ := open_int Try.underlying3 (hval 1 3 v1 rfl rfl) h1
      obtain ⟨a2, rfl, rfl, rfl, w2⟩ := open_int Try.underlying3 (hval 2 3 v2 rfl rfl) h2
      exact walk W A0 n0 c0 g0 hn0 hc0 hs0 (fun j => bounds_i64 (hw0 j)) hl0 re0 a1 (bounds_i64 w1) a2 (bounds_i64 w2))

theorem proved : Rows.PoolPlaysSaid :=
  OpenClaim.holds_of_wide 3 Try.f3 rfl rfl rfl rfl rfl rfl rfl ⟨rfl, rfl, rfl, rfl, rfl⟩ rfl rfl rfl rfl rfl (by kernel_rfl) Try.func3 (by kernel_rfl)
    (of_decide_eq_true (by kernel_rfl)) (by unfold Func.isWrapper; first | (rw [if_pos (by decide +kernel)]; kernel_rfl) | (rw [if_neg (by decide +kernel)]; exact ⟨rfl, rfl⟩))
    (fun os started H enc _ => lifted os started H enc)
end Go.Proofs.Ytdobcdhdeagekaa.poolPlays
