/- The laws' helper Make. -/
import Derived.Test.YteefhiniamajkaaGreatPolLoop
import Derived.Deep.CutRange
import Derived.BigQuiet
import Derived.Deep.RegionHeld3
import Derived.Deep.Cut
namespace Go.Proofs.YteefhiniamajkaaGreat
set_option linter.unusedVariables false
set_option linter.unusedSimpArgs false
open Go.RowKit Go.ChangeShapes Go.WideShapes Go.ChangeAt

theorem pool_newD {W w : World} {L : List (Nat × Pl)} {A : Option Addr} {n : Nat} {g : Nat → Int} {T : TypeId} (h : SS W (w.alloc (.cells (PA zPl) T)).drew L A n g) : PoolAt (w.alloc (.cells (PA zPl) T)).drew w.heap.size zPl := (PoolAt.made rfl).drew
theorem pool_new {W w : World} {L : List (Nat × Pl)} {A : Option Addr} {n : Nat} {g : Nat → Int} {T : TypeId} (h : SS W (w.alloc (.cells (PA zPl) T)) L A n g) : PoolAt (w.alloc (.cells (PA zPl) T)) w.heap.size zPl := PoolAt.made rfl
def mkB : Pl := ⟨0, 10, 80, fun _ => zSp, ⟨1, zKy, kyN 1, kyN 2⟩⟩
/-- The pool of numbers. -/
def mkP (g : Nat → Int) : Nat → Pl
  | 0 => mkB
  | k + 1 => if (apR (mkP g k) (enN (g k))).2 = 0 then (apR (mkP g k) (enN (g k))).1 else mkP g k
theorem mkP_inv (g : Nat → Int) : ∀ k : Nat, Pinv (mkP g k) k
  | 0 => nwR_inv 10 80 _ _
  | k + 1 => by
    have ih := mkP_inv g k
    unfold mkP
    split
    · rename_i h; exact (apR_inv ih h).mono (by omega)
    · exact ih.mono (by omega)
attribute [local irreducible] PA
set_option maxRecDepth 100000 in
set_option maxHeartbeats 8000000 in
theorem make_any (W : World) (A1 : Option Addr) (n1 c1 : Nat) (g1 : Nat → Int) (hr1 : Is W A1 n1 g1) (hl1 : ∀ ad, A1 = some ad → 0 < n1 → ad.block < W.heap.size) (hnm : (n1 : Int) ≤ 9223372036854775807) (m : Nat) (hm : m ≤ 1000) :
    Calls Tryz.prog 5 #[.slice A1 n1 c1, .int .i64 (m : Int)] W fun x w' => x = .returned (plV (mkP g1 (min n1 m))) ∧ Below W.heap.size W w' := by
  have hz : ∀ w : World, (zeroValue 33).run Tryz.prog w = .ok (.agg (PA zPl)) w := fun w => zero_pl w
  have hz1 := pa_size zPl
  have hz2 := pa_ne zPl
  obtain ⟨k1, hk1⟩ : ∃ k1, k1 = kyN 1 := ⟨_, rfl⟩
  obtain ⟨k2, hk2⟩ : ∃ k2, k2 = kyN 2 := ⟨_, rfl⟩
  have LA := fun w => lkey_any 1 w
  have LB := fun w => lkey_any 2 w
  rw [← hk1] at LA
  rw [← hk2] at LB
  unfold kyV at LA LB
  replace LA := hid LA
  replace LB := hid LB
  obtain ⟨q0, hq0⟩ : ∃ q0 : Pl, q0 = mkB := ⟨_, rfl⟩
  have RW := hid (show ∀ w, Calls Tryz.prog 18 #[.int .i64 10, .int .i64 80, .agg #[.int .u64 k1.a, .int .u64 k1.b], .agg #[.int .u64 k2.a, .int .u64 k2.b]] w fun x w' => x = .returned (.tuple #[.agg (PA q0), .int .i64 0]) ∧ Below w.heap.size w w' from fun w => re_v (rnew_any 10 80 k1 k2 w) (by rw [nwR_in ⟨by omega, by omega⟩ ⟨by omega, by omega⟩, hq0, hk1, hk2]; rfl))
  have HQ0 := hid hq0
  clear hq0 hk1 hk2
  have HL := hid hl1
  clear hl1
  unfold plV
  go_enter Tryz.func5, Tryz.ntmps5
  go_upto_region 1 with (fail)
  have S0 := hid (SS.cons (show SS W (W.alloc (.cells (PA zPl) 33)) [] A1 n1 g1 from ⟨fun x hx => absurd hx (by simp), hr1.alloc _, (Below.refl _ _).alloc (Nat.le_refl _) _⟩) (PoolAt.made (w := W) (p := zPl) (T := 33) rfl))
  have lR : W.heap.size ≤ W.heap.size := Nat.le_refl _
  generalize W.alloc (.cells (PA zPl) 33) = w1 at *
  obtain ⟨R, hR⟩ : ∃ R, R = W.heap.size := ⟨_, rfl⟩
  skip
  clear hr1
  go_wp2_with fail
  refine (LA.out _).mono ?_
  rintro x w2 ⟨rfl, hb⟩
  have S2 := hid (S0.out.below hb)
  clear hb S0
  go_wp2_with fail
  refine (LB.out _).mono ?_
  rintro x w3 ⟨rfl, hb⟩
  have S3 := hid (S2.out.below hb)
  clear hb S2
  go_wp2_with fail
  refine (RW.out _).mono ?_
  rintro x w4 ⟨rfl, hb⟩
  have S4 := hid (S3.out.below hb)
  clear hb S3
  have ST := hid ((PoolAt.made (w := w4) (p := zPl) (T := 33) rfl).storeA q0)
  have NW2 := (PoolAt.made (w := w4) (p := zPl) (T := 33) rfl).whole q0
  have S5 := hid ((SS.sets (S4.out.alloc (.cells (PA zPl) 33)) (c := w4.heap.size) (o := 0) (vs := (PA q0).toList) (SS.ne S4.out) HL.out S4.out.bl.size).cons NW2)
  have lA := S4.out.bl.size
  have dAR := SS.ne S4.out (W.heap.size, zPl) (by simp)
  simp only at dAR
  have dRA := Ne.symm dAR
  clear NW2
  go_upto_region 2 with ((with_reducible refine wl_id ?_); refine wl_store rfl rfl rfl rfl ST.out ?_)
  clear ST S4
  generalize (w4.alloc (.cells (PA zPl) 33)).setCells w4.heap.size 0 (PA q0).toList = w5 at *
  generalize w4.heap.size = A at *
  clear LA LB RW
  go_wp2_with fail
  go_loopw [7] (fun i wr => ∃ (k : Nat), k ≤ n1 ∧ k ≤ m ∧ i = .int .i64 (k : Int) ∧ SS W wr [(A, mkP g1 k), (W.heap.size, zPl)] A1 n1 g1) (fun i _ => m - (intOf i).toNat)
  case atStart => exact ⟨0, by omega, by omega, rfl, by have h := S5.out; rw [HQ0.out] at h; exact h⟩
  case round =>
    clear S5
    obtain ⟨k, hk, hkm, rfl, hS⟩ := hrel
    have S := hid hS
    clear hS
    by_cases hlt : k < n1 ∧ k < m
    · obtain ⟨hlt1, hlt2⟩ := hlt
      have i0 : (0 : Int) ≤ k := by omega
      have i1 : (k : Int) < n1 := by omega
      have i2 : (k : Int) < m := by omega
      obtain ⟨bb, off, rfl⟩ := Sl.addr S.out.row (by omega)
      have HQ := hid (mkP_inv g1 k)
      have HM := hid (show mkP g1 (k + 1) = if (apR (mkP g1 k) (enN (g1 k))).2 = 0 then (apR (mkP g1 k) (enN (g1 k))).1 else mkP g1 k from rfl)
      obtain ⟨q, hq⟩ : ∃ q, q = mkP g1 k := ⟨_, rfl⟩
      have HQQ := hid hq
      rw [← hq] at HQ HM S
      clear hq
      have EN0 := fun w => entry_any (g1 k) w
      obtain ⟨en, hen⟩ : ∃ en, en = enN (g1 k) := ⟨_, rfl⟩
      rw [← hen] at EN0 HM
      clear hen
      obtain ⟨e1, e2, e3, e4, e5, e6, e7⟩ := en
      unfold enV at EN0
      simp only at EN0
      have EN := hid EN0
      clear EN0
      obtain ⟨ar, har⟩ : ∃ ar, ar = apR q ⟨e1, e2, e3, e4, e5, ⟨e6, e7⟩⟩ := ⟨_, rfl⟩
      rw [← har] at HM
      have RP := hid (show ∀ w, Calls Tryz.prog 25 #[.agg (PA q), .agg #[.int .i64 e1, .int .i64 e2, .int .i64 e3, .int .i64 e4, .int .i64 e5, .int .u64 e6, .int .u64 e7]] w fun x w' => x = .returned (.tuple #[.agg (PA ar.1), .int .i64 ar.2]) ∧ Below w.heap.size w w' from by rw [har]; exact fun w => rapply_any q ⟨e1, e2, e3, e4, e5, ⟨e6, e7⟩⟩ (HQ.out.pb (by omega)) w)
      clear har
      obtain ⟨q2, er⟩ := ar
      simp only at RP HM
      go_upto_region 5 with (fail)
      go_cut [8, 9] from 27 to 36 (fun p x wx => ∃ U : Nat, p = .pointer (some ⟨U, 0, none⟩) ∧ x = .int .i64 er ∧ PoolAt wx U q2 ∧ SS W wx [(A, q), (W.heap.size, zPl)] (some ⟨bb, off, none⟩) n1 g1 ∧ W.heap.size ≤ U ∧ ∀ x, x ∈ ([(A, q), (W.heap.size, zPl)] : List (Nat × Pl)) → U ≠ x.1)
      case first =>
        refine wp_region_held_drew (S := fun w' => SS W w' [(A, q), (W.heap.size, zPl)] (some ⟨bb, off, none⟩) n1 g1) (by kernel_rfl) ?_ (fun hHeld => ?_)
        · exact S.out.drew
        refine tk 0 (v := .agg (PA q)) rfl (by kernel_rfl) (by kernel_rfl) (by kernel_rfl) (fun _ _ _ h => h) rfl (fun w hSw => ex_load rfl rfl (SS.get hSw (b := A) (p := q) (by simp)).loadA) hHeld ?_
        try simp only [Act.put, List.setIfInBounds_toArray, List.set_cons_zero, List.set_cons_succ]
        refine tkq 1 hHeld ?_
        refine tkq 2 hHeld ?_
        refine tkq 3 hHeld ?_
        refine tkq 4 hHeld ?_ (hy := by intro w hSw; (try dsimp only at hSw); have xc := Sl.at_ hSw.row (j := k) hlt1; go_simp; (try with_reducible rfl))
        refine twoUp 5 10 rfl rfl (by kernel_rfl) rfl rfl (fun K hK => ?_) (fun K hK => ?_)
        · go_simp
          refine (EN.out _).mono ?_
          rintro e' w' ⟨rfl, hb⟩
          try go_wp2_with fail
          refine hK.out _ _ (SS.below hHeld hb) (fun h2 => ?_)
          clear hK
          try simp only [Act.put, List.setIfInBounds_toArray, List.set_cons_zero, List.set_cons_succ]
          refine twoUp 6 10 rfl rfl (by kernel_rfl) rfl rfl (fun K hK => ?_) (fun K hK => ?_)
          · go_simp
            refine (RP.out _).mono ?_
            rintro e' w' ⟨rfl, hb'⟩
            try go_wp2_with fail
            refine hK.out _ _ (SS.below h2 hb') (fun h3 => ?_)
            clear hK
            try simp only [Act.put, List.setIfInBounds_toArray, List.set_cons_zero, List.set_cons_succ]
            refine tkq 7 h3 ?_
            refine tkq 8 h3 ?_
            refine tkq 9 h3 ?_
            refine only 10 rfl (by kernel_rfl) rfl (fun K hK => ?_)
            have nL := SS.ne h3
            have lN := h3.bl.size
            go_simp
            skip
            refine hK.out _ _ (SS.alloc h3 _) (fun h4 => ?_)
            clear hK
            try simp only [Act.put, List.setIfInBounds_toArray, List.set_cons_zero, List.set_cons_succ]
            have NN := pool_new h4
            have ST := NN.storeA q2
            have NW := NN.whole q2
            refine only 11 rfl (by kernel_rfl) rfl (fun K hK => ?_)
            refine ov_store rfl rfl rfl ST ?_
            refine hK.out _ _ (SS.sets h4 nL HL.out lN) (fun hE => ?_)
            clear hK
            try simp only [Act.put, List.setIfInBounds_toArray, List.set_cons_zero, List.set_cons_succ]
            refine tkq 12 hE ?_
            refine wpAnyH_done (by kernel_rfl) ?_ _
            go_wp2_with fail
            go_meet
            exact ⟨_, rfl, rfl, NW, hE, lN, nL⟩
          · have nL := SS.ne h2
            have lN := h2.bl.size
            go_simp
            skip
            refine hK.out _ _ (SS.alloc h2 _) (fun h3 => ?_)
            clear hK
            try simp only [Act.put, List.setIfInBounds_toArray, List.set_cons_zero, List.set_cons_succ]
            have NN0 := pool_new h3
            refine only 6 rfl (by kernel_rfl) rfl (fun K hK => ?_)
            go_simp
            refine (RP.out _).mono ?_
            rintro e' w' ⟨rfl, hb'⟩
            try go_wp2_with fail
            refine hK.out _ _ (SS.below h3 hb') (fun h4 => ?_)
            clear hK
            try simp only [Act.put, List.setIfInBounds_toArray, List.set_cons_zero, List.set_cons_succ]
            have NN := NN0.below hb'
            have ST := NN.storeA q2
            have NW := NN.whole q2
            refine tkq 7 h4 ?_
            refine tkq 8 h4 ?_
            refine tkq 9 h4 ?_
            refine only 11 rfl (by kernel_rfl) rfl (fun K hK => ?_)
            refine ov_store rfl rfl rfl ST ?_
            refine hK.out _ _ (SS.sets h4 nL HL.out lN) (fun hE => ?_)
            clear hK
            try simp only [Act.put, List.setIfInBounds_toArray, List.set_cons_zero, List.set_cons_succ]
            refine tkq 12 hE ?_
            refine wpAnyH_done (by kernel_rfl) ?_ _
            go_wp2_with fail
            go_meet
            exact ⟨_, rfl, rfl, NW, hE, lN, nL⟩
        · have nL := SS.ne hHeld
          have lN := hHeld.bl.size
          go_simp
          skip
          refine hK.out _ _ (SS.alloc hHeld _) (fun h2 => ?_)
          clear hK
          try simp only [Act.put, List.setIfInBounds_toArray, List.set_cons_zero, List.set_cons_succ]
          have NN0 := pool_newD h2
          refine only 5 rfl (by kernel_rfl) rfl (fun K hK => ?_)
          go_simp
          refine (EN.out _).mono ?_
          rintro e' w' ⟨rfl, hb⟩
          try go_wp2_with fail
          refine hK.out _ _ (SS.below h2 hb) (fun h3 => ?_)
          clear hK
          try simp only [Act.put, List.setIfInBounds_toArray, List.set_cons_zero, List.set_cons_succ]
          have NN1 := NN0.below hb
          refine only 6 rfl (by kernel_rfl) rfl (fun K hK => ?_)
          go_simp
          refine (RP.out _).mono ?_
          rintro e' w' ⟨rfl, hb'⟩
          try go_wp2_with fail
          refine hK.out _ _ (SS.below h3 hb') (fun h4 => ?_)
          clear hK
          try simp only [Act.put, List.setIfInBounds_toArray, List.set_cons_zero, List.set_cons_succ]
          have NN := NN1.below hb'
          have ST := NN.storeA q2
          have NW := NN.whole q2
          refine tkq 7 h4 ?_
          refine tkq 8 h4 ?_
          refine tkq 9 h4 ?_
          refine only 11 rfl (by kernel_rfl) rfl (fun K hK => ?_)
          refine ov_store rfl rfl rfl ST ?_
          refine hK.out _ _ (SS.sets h4 nL HL.out lN) (fun hE => ?_)
          clear hK
          try simp only [Act.put, List.setIfInBounds_toArray, List.set_cons_zero, List.set_cons_succ]
          refine tkq 12 hE ?_
          refine wpAnyH_done (by kernel_rfl) ?_ _
          go_wp2_with fail
          go_meet
          exact ⟨_, rfl, rfl, NW, hE, lN, nL⟩
      case rest =>
        obtain ⟨N, rfl, rfl, hN, hS2, lN, nN⟩ := hcut
        have dNA : N ≠ A := nN (A, q) (by simp)
        have S2 := hid (hS2.cons hN)
        clear nN hN hS2 S
        cases be : (er == 0)
        · have hne : ¬ er = 0 := by simpa using be
          replace HM := hid (HM.out.trans (if_neg hne))
          clear hne
          go_wp2_with fail
          go_roundw
          case rel => exact ⟨k + 1, by omega, by omega, by go_num, by rw [HM.out]; exact S2.out.less (fun x hx => List.mem_cons_of_mem _ hx)⟩
          case measure => simp [intOf]; omega
        · have he0 : er = 0 := by simpa using be
          subst he0
          replace HM := hid (HM.out.trans (if_pos rfl))
          have LN := (SS.get S2.out (b := N) (p := q2) (by simp)).loadA
          have PA0 := SS.get S2.out (b := A) (p := q) (by simp)
          have SR := hid (PA0.storeA q2)
          have PA1 := PA0.whole q2
          have SF := hid ((SS.sets (S2.out.less (L' := [(W.heap.size, zPl)]) (fun x hx => by simp at hx; subst hx; simp)) (c := A) (o := 0) (vs := (PA q2).toList) (fun x hx => by simp at hx; subst hx; exact dAR) HL.out lA).cons PA1)
          clear PA0 PA1
          go_upto_region 4 with (first | ((with_reducible refine wl_id ?_); refine wl_load rfl rfl rfl LN ?_) | ((with_reducible refine wl_id ?_); refine wl_store rfl rfl rfl rfl SR.out ?_))
          clear LN SR S2
          generalize wc.setCells A 0 (PA q2).toList = wz at *
          go_wp2_with fail
          go_roundw
          case rel => exact ⟨k + 1, by omega, by omega, by go_num, by rw [HM.out]; exact SF.out⟩
          case measure => simp [intOf]; omega
    · have hmn : k = min n1 m := by omega
      have HMN : Hid (mkP g1 (min n1 m) = mkP g1 k) := hid (by rw [← hmn])
      clear hmn
      have LP := (SS.get S.out (b := A) (p := mkP g1 k) (by simp)).loadA
      have PR := SS.get S.out (b := W.heap.size) (p := zPl) (by simp)
      have SR := hid (PR.storeA (mkP g1 k))
      by_cases hkn : (k : Int) < n1
      · have hk8 : ¬ (k : Int) < m := by omega
        clear hlt
        go_wp2_with (first | ((with_reducible refine wl_id ?_); refine wl_load rfl rfl rfl LP ?_) | ((with_reducible refine wl_id ?_); refine wl_store rfl rfl rfl rfl SR.out ?_; refine end_then ?_; apply_assumption; refine wp_ret ?_; (repeat first | refine ret_then ?_ | refine ret_block ?_); (show bodyPost _ _ _ _ _ _); refine bodyPost_ret (v := .agg (PA (mkP g1 k))) (results_c1 Tryz.results5 _ rfl (PR.whole (mkP g1 k))) rfl ⟨by rw [HMN.out], S.out.bl.trans (keeps_setCells W.heap.size (PA (mkP g1 k)).toList 0 wr W.heap.size (Nat.le_refl _))⟩))
      · clear hlt
        go_wp2_with (first | ((with_reducible refine wl_id ?_); refine wl_load rfl rfl rfl LP ?_) | ((with_reducible refine wl_id ?_); refine wl_store rfl rfl rfl rfl SR.out ?_; refine end_then ?_; apply_assumption; refine wp_ret ?_; (repeat first | refine ret_then ?_ | refine ret_block ?_); (show bodyPost _ _ _ _ _ _); refine bodyPost_ret (v := .agg (PA (mkP g1 k))) (results_c1 Tryz.results5 _ rfl (PR.whole (mkP g1 k))) rfl ⟨by rw [HMN.out], S.out.bl.trans (keeps_setCells W.heap.size (PA (mkP g1 k)).toList 0 wr W.heap.size (Nat.le_refl _))⟩))
end Go.Proofs.YteefhiniamajkaaGreat
