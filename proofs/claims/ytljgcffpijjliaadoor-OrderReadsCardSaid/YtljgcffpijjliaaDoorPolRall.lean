/- The reference's All. -/
import Derived.Test.YtljgcffpijjliaaDoorPolMake
import Derived.Deep.CutRange
import Derived.BigQuiet
import Derived.Deep.RegionHeld3
import Derived.Deep.Cut
namespace Go.Proofs.YtljgcffpijjliaaDoor
set_option linter.unusedVariables false
set_option linter.unusedSimpArgs false
open Go.RowKit Go.ChangeShapes Go.WideShapes Go.ChangeAt

/-- As SS, over a row of entries. -/
def TS (W w : World) (L : List (Nat × Pl)) (A : Option Addr) (n : Nat) (g : Nat → En) : Prop := (∀ x, x ∈ L → PoolAt w x.1 x.2) ∧ Se w A n g ∧ Below W.heap.size W w
section
variable {W w w' : World} {L : List (Nat × Pl)} {A : Option Addr} {n : Nat} {g : Nat → En}
theorem TS.get (h : TS W w L A n g) {b : Nat} {p : Pl} (hx : (b, p) ∈ L) : PoolAt w b p := h.1 (b, p) hx
theorem TS.below (h : TS W w L A n g) (hb : Below w.heap.size w w') : TS W w' L A n g := ⟨fun x hx => (h.1 x hx).below hb, Se.below h.2.1 hb (Nat.le_refl _), h.2.2.trans (hb.mono h.2.2.size)⟩
theorem TS.alloc (h : TS W w L A n g) (o : Obj) : TS W (w.alloc o) L A n g := h.below ((Below.refl _ _).alloc (Nat.le_refl _) o)
theorem TS.drew (h : TS W w L A n g) : TS W w.drew L A n g := ⟨fun x hx => (h.1 x hx).drew, Sl.drew h.2.1, h.2.2.drew⟩
theorem TS.cons (h : TS W w L A n g) {b : Nat} {p : Pl} (hp : PoolAt w b p) : TS W w ((b, p) :: L) A n g :=
  ⟨fun x hx => by rcases List.mem_cons.1 hx with e | hx; (rw [e]; exact hp); exact h.1 x hx, h.2.1, h.2.2⟩
theorem TS.less (h : TS W w L A n g) {L' : List (Nat × Pl)} (hl : ∀ x, x ∈ L' → x ∈ L) : TS W w L' A n g := ⟨fun x hx => h.1 x (hl x hx), h.2.1, h.2.2⟩
theorem TS.sets {b off : Nat} (h : TS W w L (some ⟨b, off, none⟩) n g) {c o : Nat} {vs : List Value} (hL : ∀ x, x ∈ L → c ≠ x.1) (hb : b ≠ c) (hc : W.heap.size ≤ c) : TS W (w.setCells c o vs) L (some ⟨b, off, none⟩) n g :=
  ⟨fun x hx => (h.1 x hx).others (hL x hx), Sl.sets h.2.1 (fun ad e _ => by injection e with e; subst e; exact hb), h.2.2.trans (keeps_setCells c vs o w _ hc)⟩
theorem TS.ne (h : TS W w L A n g) : ∀ x, x ∈ L → w.heap.size ≠ x.1 := fun x hx => Nat.ne_of_gt (h.1 x hx).1
theorem ts_newD {T : TypeId} (h : TS W (w.alloc (.cells (PA zPl) T)).drew L A n g) : PoolAt (w.alloc (.cells (PA zPl) T)).drew w.heap.size zPl := (PoolAt.made rfl).drew
theorem ts_new {T : TypeId} (h : TS W (w.alloc (.cells (PA zPl) T)) L A n g) : PoolAt (w.alloc (.cells (PA zPl) T)) w.heap.size zPl := PoolAt.made rfl
end
attribute [local irreducible] PA
set_option maxRecDepth 100000 in
set_option maxHeartbeats 8000000 in
theorem rall_any (p : Pl) (g : Nat → En) (A : Option Addr) (n c : Nat) (W : World) (hA : Se W A n g) (hn : n ≤ 1000) (K : Int) (hp : Pinv p K) (hK : K ≤ 100000) : Calls Tryd.prog 27 #[plV p, .slice A n c] W fun x w' => ∃ (q : Pl) (k : Nat) (er : Int), x = .returned (.tuple #[plV q, .int .i64 (k : Int), .int .i64 er]) ∧ AllOut p g n q k er ∧ Below W.heap.size W w' := by
  have hz : ∀ w : World, (zeroValue 33).run Tryd.prog w = .ok (.agg (PA zPl)) w := fun w => zero_pl w
  have hz1 := pa_size zPl
  have hz2 := pa_ne zPl
  skip
  unfold plV
  go_enter Tryd.func27, Tryd.ntmps27
  go_upto_region 1 with (fail)
  have S0 := hid (TS.cons (TS.cons (show TS W ((W.alloc (.cells (PA p) 33)).alloc (.cells (PA zPl) 33)) [] A n g from ⟨fun x hx => absurd hx (by simp), (Sl.alloc (Sl.alloc hA _) _), ((Below.refl _ _).alloc (Nat.le_refl _) _).alloc (by simp) _⟩) (PoolAt.made (w := W.alloc (.cells (PA p) 33)) (p := zPl) (T := 33) (g := W.heap.size + 1) (by simp))) ((PoolAt.made (w := W) (p := p) (T := 33) rfl).alloc (.cells (PA zPl) 33)))
  have HA := hid hA
  clear hA
  generalize (W.alloc (.cells (PA p) 33)).alloc (.cells (PA zPl) 33) = w1 at *
  have hPi := hid hp
  clear hp
  go_wp2_with fail
  go_loopw [7] (fun i wr => ∃ (k : Nat) (q : Pl), k ≤ n ∧ i = .int .i64 (k : Int) ∧ runP p g k = some q ∧ Pinv q (K + k) ∧ TS W wr [(W.heap.size, q), (W.heap.size + 1, zPl)] A n g) (fun i _ => n - (intOf i).toNat)
  case atStart => exact ⟨0, p, by omega, rfl, rfl, hPi.out.mono (by omega), S0.out⟩
  case round =>
    clear S0 hPi
    obtain ⟨k, q, hk, rfl, hrun, hq, hS⟩ := hrel
    have S := hid hS
    have HRU := hid hrun
    have HQ := hid hq
    clear hS hrun hq
    by_cases hlt : k < n
    · obtain ⟨b, off, rfl⟩ := Sl.addr S.out.2.1 (by omega)
      have hbP : b < W.heap.size := Sl.lt HA.out (by omega)
      have i0 : (0 : Int) ≤ k := by omega
      have i1 : (k : Int) < n := by omega
      obtain ⟨e, he⟩ : ∃ e, e = g k := ⟨_, rfl⟩
      have HE := hid he
      clear he
      obtain ⟨e1, e2, e3, e4, e5, e6, e7⟩ := e
      obtain ⟨ar, har⟩ : ∃ ar, ar = apR q ⟨e1, e2, e3, e4, e5, ⟨e6, e7⟩⟩ := ⟨_, rfl⟩
      have AP := hid (show ∀ w, Calls Tryd.prog 35 #[.agg (PA q), .agg #[.int .i64 e1, .int .i64 e2, .int .i64 e3, .int .i64 e4, .int .i64 e5, .int .u64 e6, .int .u64 e7]] w fun x w' => x = .returned (.tuple #[.agg (PA ar.1), .int .i64 ar.2]) ∧ Below w.heap.size w w' from by rw [har]; exact fun w => rapply_any q ⟨e1, e2, e3, e4, e5, ⟨e6, e7⟩⟩ (HQ.out.pb (by omega)) w)
      have HAR := hid har
      clear har
      obtain ⟨q2, er⟩ := ar
      simp only at AP
      go_upto_region 4 with (fail)
      go_cut [8, 9] from 16 to 24 (fun x y wx => ∃ U : Nat, x = .pointer (some ⟨U, 0, none⟩) ∧ y = .int .i64 er ∧ PoolAt wx U q2 ∧ TS W wx [(W.heap.size, q), (W.heap.size + 1, zPl)] (some ⟨b, off, none⟩) n g ∧ W.heap.size ≤ U ∧ ∀ x, x ∈ ([(W.heap.size, q), (W.heap.size + 1, zPl)] : List (Nat × Pl)) → U ≠ x.1)
      case first =>
        refine wp_region_held_drew (S := fun w' => TS W w' [(W.heap.size, q), (W.heap.size + 1, zPl)] (some ⟨b, off, none⟩) n g) (by kernel_rfl) ?_ (fun hHeld => ?_)
        · exact S.out.drew
        refine tk 0 (v := .agg (PA q)) rfl (by kernel_rfl) (by kernel_rfl) (by kernel_rfl) (fun _ _ _ h => h) rfl (fun w hSw => ex_load rfl rfl (TS.get hSw (b := W.heap.size) (p := q) (by simp)).loadA) hHeld ?_
        try simp only [Act.put, List.setIfInBounds_toArray, List.set_cons_zero, List.set_cons_succ]
        refine tk 1 (v := ?_) rfl (by kernel_rfl) (by kernel_rfl) (by kernel_rfl) (fun _ _ _ h => h) rfl ?_ hHeld ?_; rotate_left; (focus (intro w hSw; (try dsimp only at hSw); go_simp; (try with_reducible rfl))); (try simp only [Act.put, List.setIfInBounds_toArray, List.set_cons_zero, List.set_cons_succ])
        refine tk 2 (v := ?_) rfl (by kernel_rfl) (by kernel_rfl) (by kernel_rfl) (fun _ _ _ h => h) rfl ?_ hHeld ?_; rotate_left; (focus (intro w hSw; (try dsimp only at hSw); go_simp; (try with_reducible rfl))); (try simp only [Act.put, List.setIfInBounds_toArray, List.set_cons_zero, List.set_cons_succ])
        refine tk 3 (v := ?_) rfl (by kernel_rfl) (by kernel_rfl) (by kernel_rfl) (fun _ _ _ h => h) rfl ?_ hHeld ?_; rotate_left; (focus (intro w hSw; (try dsimp only at hSw); go_simp; (try with_reducible rfl))); (try simp only [Act.put, List.setIfInBounds_toArray, List.set_cons_zero, List.set_cons_succ])
        refine tk 4 (v := .agg #[.int .i64 e1, .int .i64 e2, .int .i64 e3, .int .i64 e4, .int .i64 e5, .int .u64 e6, .int .u64 e7]) rfl (by kernel_rfl) (by kernel_rfl) (by kernel_rfl) (fun _ _ _ h => h) rfl (fun w hSw => by have h := Se.load hSw.2.1 k hlt; rw [← HE.out] at h; exact ex_load rfl rfl h) hHeld ?_
        try simp only [Act.put, List.setIfInBounds_toArray, List.set_cons_zero, List.set_cons_succ]
        refine twoUp 5 9 rfl rfl (by kernel_rfl) rfl rfl (fun K hK => ?_) (fun K hK => ?_)
        · go_simp
          refine (AP.out _).mono ?_
          rintro e' w' ⟨rfl, hb'⟩
          try go_wp2_with fail
          refine hK.out _ _ (TS.below hHeld hb') (fun h3 => ?_)
          clear hK
          try simp only [Act.put, List.setIfInBounds_toArray, List.set_cons_zero, List.set_cons_succ]
          refine tk 6 (v := ?_) rfl (by kernel_rfl) (by kernel_rfl) (by kernel_rfl) (fun _ _ _ h => h) rfl ?_ h3 ?_; rotate_left; (focus (intro w hSw; (try dsimp only at hSw); go_simp; (try with_reducible rfl))); (try simp only [Act.put, List.setIfInBounds_toArray, List.set_cons_zero, List.set_cons_succ])
          refine tk 7 (v := ?_) rfl (by kernel_rfl) (by kernel_rfl) (by kernel_rfl) (fun _ _ _ h => h) rfl ?_ h3 ?_; rotate_left; (focus (intro w hSw; (try dsimp only at hSw); go_simp; (try with_reducible rfl))); (try simp only [Act.put, List.setIfInBounds_toArray, List.set_cons_zero, List.set_cons_succ])
          refine tk 8 (v := ?_) rfl (by kernel_rfl) (by kernel_rfl) (by kernel_rfl) (fun _ _ _ h => h) rfl ?_ h3 ?_; rotate_left; (focus (intro w hSw; (try dsimp only at hSw); go_simp; (try with_reducible rfl))); (try simp only [Act.put, List.setIfInBounds_toArray, List.set_cons_zero, List.set_cons_succ])
          refine only 9 rfl (by kernel_rfl) rfl (fun K hK => ?_)
          have nL := TS.ne h3
          have lN := h3.2.2.size
          go_simp
          refine hK.out _ _ (TS.alloc h3 _) (fun h4 => ?_)
          clear hK
          try simp only [Act.put, List.setIfInBounds_toArray, List.set_cons_zero, List.set_cons_succ]
          have NN := ts_new h4
          have ST := NN.storeA q2
          have NW := NN.whole q2
          refine only 10 rfl (by kernel_rfl) rfl (fun K hK => ?_)
          refine ov_store rfl rfl rfl ST ?_
          refine hK.out _ _ (TS.sets h4 nL (Nat.ne_of_lt (Nat.lt_of_lt_of_le hbP lN)) lN) (fun hE => ?_)
          clear hK
          try simp only [Act.put, List.setIfInBounds_toArray, List.set_cons_zero, List.set_cons_succ]
          refine tk 11 (v := ?_) rfl (by kernel_rfl) (by kernel_rfl) (by kernel_rfl) (fun _ _ _ h => h) rfl ?_ hE ?_; rotate_left; (focus (intro w hSw; (try dsimp only at hSw); go_simp; (try with_reducible rfl))); (try simp only [Act.put, List.setIfInBounds_toArray, List.set_cons_zero, List.set_cons_succ])
          refine wpAnyH_done (by kernel_rfl) ?_ _
          go_wp2_with fail
          go_meet
          exact ⟨_, rfl, rfl, NW, hE, lN, nL⟩
        · have nL := TS.ne hHeld
          have lN := hHeld.2.2.size
          go_simp
          refine hK.out _ _ (TS.alloc hHeld _) (fun h2 => ?_)
          clear hK
          try simp only [Act.put, List.setIfInBounds_toArray, List.set_cons_zero, List.set_cons_succ]
          have NN0 := ts_newD h2
          refine only 5 rfl (by kernel_rfl) rfl (fun K hK => ?_)
          go_simp
          refine (AP.out _).mono ?_
          rintro e' w' ⟨rfl, hb'⟩
          try go_wp2_with fail
          refine hK.out _ _ (TS.below h2 hb') (fun h4 => ?_)
          clear hK
          try simp only [Act.put, List.setIfInBounds_toArray, List.set_cons_zero, List.set_cons_succ]
          have NN := NN0.below hb'
          refine tk 6 (v := ?_) rfl (by kernel_rfl) (by kernel_rfl) (by kernel_rfl) (fun _ _ _ h => h) rfl ?_ h4 ?_; rotate_left; (focus (intro w hSw; (try dsimp only at hSw); go_simp; (try with_reducible rfl))); (try simp only [Act.put, List.setIfInBounds_toArray, List.set_cons_zero, List.set_cons_succ])
          refine tk 7 (v := ?_) rfl (by kernel_rfl) (by kernel_rfl) (by kernel_rfl) (fun _ _ _ h => h) rfl ?_ h4 ?_; rotate_left; (focus (intro w hSw; (try dsimp only at hSw); go_simp; (try with_reducible rfl))); (try simp only [Act.put, List.setIfInBounds_toArray, List.set_cons_zero, List.set_cons_succ])
          refine tk 8 (v := ?_) rfl (by kernel_rfl) (by kernel_rfl) (by kernel_rfl) (fun _ _ _ h => h) rfl ?_ h4 ?_; rotate_left; (focus (intro w hSw; (try dsimp only at hSw); go_simp; (try with_reducible rfl))); (try simp only [Act.put, List.setIfInBounds_toArray, List.set_cons_zero, List.set_cons_succ])
          have ST := NN.storeA q2
          have NW := NN.whole q2
          refine only 10 rfl (by kernel_rfl) rfl (fun K hK => ?_)
          refine ov_store rfl rfl rfl ST ?_
          refine hK.out _ _ (TS.sets h4 nL (Nat.ne_of_lt (Nat.lt_of_lt_of_le hbP lN)) lN) (fun hE => ?_)
          clear hK
          try simp only [Act.put, List.setIfInBounds_toArray, List.set_cons_zero, List.set_cons_succ]
          refine tk 11 (v := ?_) rfl (by kernel_rfl) (by kernel_rfl) (by kernel_rfl) (fun _ _ _ h => h) rfl ?_ hE ?_; rotate_left; (focus (intro w hSw; (try dsimp only at hSw); go_simp; (try with_reducible rfl))); (try simp only [Act.put, List.setIfInBounds_toArray, List.set_cons_zero, List.set_cons_succ])
          refine wpAnyH_done (by kernel_rfl) ?_ _
          go_wp2_with fail
          go_meet
          exact ⟨_, rfl, rfl, NW, hE, lN, nL⟩
      case rest =>
        obtain ⟨N, rfl, rfl, hN, hS2, lN, nN⟩ := hcut
        have N2 := hid hN
        have S2 := hid hS2
        clear hN hS2 S nN AP
        cases be : (er != 0)
        · have he0 : er = 0 := by simpa using be
          subst he0
          have LN := N2.out.loadA
          have PP := TS.get S2.out (b := W.heap.size) (p := q) (by simp)
          have SR := hid (PP.storeA q2)
          have SF := hid (TS.cons (TS.sets (S2.out.less (L' := [(W.heap.size + 1, zPl)]) (fun x hx => by simp at hx; subst hx; simp)) (c := W.heap.size) (o := 0) (vs := (PA q2).toList) (fun x hx => by simp at hx; subst hx; simp) (Nat.ne_of_lt hbP) (Nat.le_refl _)) (PP.whole q2))
          have HN2 : Hid (runP p g (k + 1) = some q2) := hid (by unfold runP; rw [HRU.out]; simp only; rw [← HE.out, ← HAR.out]; rfl)
          have HQ2 : Hid (Pinv q2 (K + ((k + 1 : Nat) : Int))) := hid (by have h := apR_inv HQ.out (e := ⟨e1, e2, e3, e4, e5, ⟨e6, e7⟩⟩) (by rw [← HAR.out]); rw [← HAR.out] at h; exact h.mono (by omega))
          go_upto_region 3 with (first | ((with_reducible refine wl_id ?_); refine wl_load rfl rfl rfl LN ?_) | ((with_reducible refine wl_id ?_); refine wl_store rfl rfl rfl rfl SR.out ?_))
          clear LN SR S2 N2 PP
          generalize wc.setCells W.heap.size 0 (PA q2).toList = wz at *
          go_wp2_with fail
          go_roundw
          case rel => exact ⟨k + 1, q2, by omega, by go_num, HN2.out, HQ2.out, SF.out⟩
          case measure => simp [intOf]; omega
        · have hne : er ≠ 0 := by simpa using be
          have HNE := hid hne
          clear hne
          have LP := (TS.get S2.out (b := W.heap.size) (p := q) (by simp)).loadA
          have PR := hid (TS.get S2.out (b := W.heap.size + 1) (p := zPl) (by simp))
          have BR := hid S2.out.2.2
          have SR := hid (PR.out.storeA q)
          go_wp2_with (first | ((with_reducible refine wl_id ?_); refine wl_load rfl rfl rfl LP ?_) | ((with_reducible refine wl_id ?_); refine wl_store rfl rfl rfl rfl SR.out ?_; refine wl_val rfl rfl ?_; refine wl_val rfl rfl ?_; refine end_then ?_; apply_assumption; refine wp_ret ?_; (repeat first | refine ret_then ?_ | refine ret_block ?_); (show bodyPost _ _ _ _ _ _); refine bodyPost_ret (v := .tuple #[.agg (PA q), .int .i64 (k : Int), .int .i64 er]) (results_c3 Tryd.results27 _ rfl rfl rfl (PR.out.whole q)) rfl ⟨q, _, er, rfl, ⟨HRU.out, .inr ⟨hlt, by rw [← HE.out, ← HAR.out], HNE.out⟩⟩, BR.out.trans (keeps_setCells (W.heap.size + 1) (PA q).toList 0 _ W.heap.size (Nat.le_succ _))⟩))
    · have e : k = n := by omega
      subst e
      have LP := (TS.get S.out (b := W.heap.size) (p := q) (by simp)).loadA
      have PR := hid (TS.get S.out (b := W.heap.size + 1) (p := zPl) (by simp))
      have BR := hid S.out.2.2
      have SR := hid (PR.out.storeA q)
      go_wp2_with (first | ((with_reducible refine wl_id ?_); refine wl_load rfl rfl rfl LP ?_) | ((with_reducible refine wl_id ?_); refine wl_store rfl rfl rfl rfl SR.out ?_; refine wl_val rfl rfl ?_; refine wl_val rfl rfl ?_; refine end_then ?_; apply_assumption; refine wp_ret ?_; (repeat first | refine ret_then ?_ | refine ret_block ?_); (show bodyPost _ _ _ _ _ _); refine bodyPost_ret (v := .tuple #[.agg (PA q), .int .i64 (k : Int), .int .i64 0]) (results_c3 Tryd.results27 _ rfl rfl rfl (PR.out.whole q)) rfl ⟨q, _, 0, rfl, ⟨HRU.out, .inl ⟨rfl, rfl⟩⟩, BR.out.trans (keeps_setCells (W.heap.size + 1) (PA q).toList 0 _ W.heap.size (Nat.le_succ _))⟩))
end Go.Proofs.YtljgcffpijjliaaDoor
