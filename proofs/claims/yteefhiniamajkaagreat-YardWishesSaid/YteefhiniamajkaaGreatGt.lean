/- The reference's All. Pools and rows of entries that are held while an order is open. Pools and blocks of cells that are held; an entry that is an argument. Rows of entries of the call's own. -/
import Derived.Test.YteefhiniamajkaaGreatPolMake
import Derived.Deep.CutRange
import Derived.BigQuiet
import Derived.Deep.RegionHeld3
import Derived.Deep.Cut
namespace Go.Proofs.YteefhiniamajkaaGreat
set_option linter.unusedVariables false
set_option linter.unusedSimpArgs false
open Go.RowKit Go.ChangeShapes Go.WideShapes Go.ChangeAt

/-- As SS, over a row of entries. -/
def TS (W w : World) (L : List (Nat × Pl)) (A : Option Addr) (n : Nat) (g : Nat → En) : Prop := (∀ x, x ∈ L → PoolAt w x.1 x.2) ∧ Se w A n g ∧ Below W.heap.size W w
section
variable {W w w' : World} {L : List (Nat × Pl)} {A : Option Addr} {n : Nat} {g : Nat → En}
theorem TS.get (h : TS W w L A n g) {b : Nat} {p : Pl} (hx : (b, p) ∈ L) : PoolAt w b p := h.1 (b, p) hx
theorem TS.below (h : TS W w L A n g) (hb : Below w.heap.size w w') : TS W w' L A n g := ⟨fun x hx => (h.1 x hx).below hb, Se.below h.2.1 hb (Nat.le_refl _), h.2.2.trans (hb.mono h.2.2.size)⟩
theorem TS.alloc (h : TS W w L A n g) (o : Obj) : TS W (w.alloc o) L A n g := h.below ((Below.refl _ _).alloc (Nat.le_refl _) o)
theorem TS.drew (h : TS W w L A n g) : TS W w.drew L A n g := ⟨fun x hx => (h.1 x hx).drew, Sl.drew h.2.1, h.2.2.drew⟩
theorem TS.cons (h : TS W w L A n g) {b : Nat} {p : Pl} (hp : PoolAt w b p) : TS W w ((b, p) :: L) A n g :=
  ⟨fun x hx => by rcases List.mem_cons.1 hx with e | hx; (rw [e]; exact hp); exact h.1 x hx, h.2.1, h.2.2⟩
theorem TS.less (h : TS W w L A n g) {L' : List (Nat × Pl)} (hl : ∀ x, x ∈ L' → x ∈ L) : TS W w L' A n g := ⟨fun x hx => h.1 x (hl x hx), h.2.1, h.2.2⟩
theorem TS.sets {b off : Nat} (h : TS W w L (some ⟨b, off, none⟩) n g) {c o : Nat} {vs : List Value} (hL : ∀ x, x ∈ L → c ≠ x.1) (hb : b ≠ c) (hc : W.heap.size ≤ c) : TS W (w.setCells c o vs) L (some ⟨b, off, none⟩) n g :=
  ⟨fun x hx => (h.1 x hx).others (hL x hx), Sl.sets h.2.1 (fun ad e _ => by injection e with e; subst e; exact hb), h.2.2.trans (keeps_setCells c vs o w _ hc)⟩
theorem TS.ne (h : TS W w L A n g) : ∀ x, x ∈ L → w.heap.size ≠ x.1 := fun x hx => Nat.ne_of_gt (h.1 x hx).1
theorem ts_newD {T : TypeId} (h : TS W (w.alloc (.cells (PA zPl) T)).drew L A n g) : PoolAt (w.alloc (.cells (PA zPl) T)).drew w.heap.size zPl := (PoolAt.made rfl).drew
theorem ts_new {T : TypeId} (h : TS W (w.alloc (.cells (PA zPl) T)) L A n g) : PoolAt (w.alloc (.cells (PA zPl) T)) w.heap.size zPl := PoolAt.made rfl
end
attribute [local irreducible] PA
set_option maxRecDepth 100000 in
set_option maxHeartbeats 8000000 in
theorem rall_any (p : Pl) (g : Nat → En) (A : Option Addr) (n c : Nat) (W : World) (hA : Se W A n g) (hn : n ≤ 1000) (K : Int) (hp : Pinv p K) (hK : K ≤ 100000) : Calls Tryz.prog 58 #[plV p, .slice A n c] W fun x w' => ∃ (q : Pl) (k : Nat) (er : Int), x = .returned (.tuple #[plV q, .int .i64 (k : Int), .int .i64 er]) ∧ AllOut p g n q k er ∧ Below W.heap.size W w' := by
  have hz : ∀ w : World, (zeroValue 33).run Tryz.prog w = .ok (.agg (PA zPl)) w := fun w => zero_pl w
  have hz1 := pa_size zPl
  have hz2 := pa_ne zPl
  skip
  unfold plV
  go_enter Tryz.func58, Tryz.ntmps58
  go_upto_region 1 with (fail)
  have S0 := hid (TS.cons (TS.cons (show TS W ((W.alloc (.cells (PA p) 33)).alloc (.cells (PA zPl) 33)) [] A n g from ⟨fun x hx => absurd hx (by simp), (Sl.alloc (Sl.alloc hA _) _), ((Below.refl _ _).alloc (Nat.le_refl _) _).alloc (by simp) _⟩) (PoolAt.made (w := W.alloc (.cells (PA p) 33)) (p := zPl) (T := 33) (g := W.heap.size + 1) (by simp))) ((PoolAt.made (w := W) (p := p) (T := 33) rfl).alloc (.cells (PA zPl) 33)))
  have HA := hid hA
  clear hA
  generalize (W.alloc (.cells (PA p) 33)).alloc (.cells (PA zPl) 33) = w1 at *
  have hPi := hid hp
  clear hp
  go_wp2_with fail
  go_loopw [7] (fun i wr => ∃ (k : Nat) (q : Pl), k ≤ n ∧ i = .int .i64 (k : Int) ∧ runP p g k = some q ∧ Pinv q (K + k) ∧ TS W wr [(W.heap.size, q), (W.heap.size + 1, zPl)] A n g) (fun i _ => n - (intOf i).toNat)
  case atStart => exact ⟨0, p, by omega, rfl, rfl, hPi.out.mono (by omega), S0.out⟩
  case round =>
    clear S0 hPi
    obtain ⟨k, q, hk, rfl, hrun, hq, hS⟩ := hrel
    have S := hid hS
    have HRU := hid hrun
    have HQ := hid hq
    clear hS hrun hq
    by_cases hlt : k < n
    · obtain ⟨b, off, rfl⟩ := Sl.addr S.out.2.1 (by omega)
      have hbP : b < W.heap.size := Sl.lt HA.out (by omega)
      have i0 : (0 : Int) ≤ k := by omega
      have i1 : (k : Int) < n := by omega
      obtain ⟨e, he⟩ : ∃ e, e = g k := ⟨_, rfl⟩
      have HE := hid he
      clear he
      obtain ⟨e1, e2, e3, e4, e5, e6, e7⟩ := e
      obtain ⟨ar, har⟩ : ∃ ar, ar = apR q ⟨e1, e2, e3, e4, e5, ⟨e6, e7⟩⟩ := ⟨_, rfl⟩
      have AP := hid (show ∀ w, Calls Tryz.prog 25 #[.agg (PA q), .agg #[.int .i64 e1, .int .i64 e2, .int .i64 e3, .int .i64 e4, .int .i64 e5, .int .u64 e6, .int .u64 e7]] w fun x w' => x = .returned (.tuple #[.agg (PA ar.1), .int .i64 ar.2]) ∧ Below w.heap.size w w' from by rw [har]; exact fun w => rapply_any q ⟨e1, e2, e3, e4, e5, ⟨e6, e7⟩⟩ (HQ.out.pb (by omega)) w)
      have HAR := hid har
      clear har
      obtain ⟨q2, er⟩ := ar
      simp only at AP
      go_upto_region 4 with (fail)
      go_cut [8, 9] from 16 to 24 (fun x y wx => ∃ U : Nat, x = .pointer (some ⟨U, 0, none⟩) ∧ y = .int .i64 er ∧ PoolAt wx U q2 ∧ TS W wx [(W.heap.size, q), (W.heap.size + 1, zPl)] (some ⟨b, off, none⟩) n g ∧ W.heap.size ≤ U ∧ ∀ x, x ∈ ([(W.heap.size, q), (W.heap.size + 1, zPl)] : List (Nat × Pl)) → U ≠ x.1)
      case first =>
        refine wp_region_held_drew (S := fun w' => TS W w' [(W.heap.size, q), (W.heap.size + 1, zPl)] (some ⟨b, off, none⟩) n g) (by kernel_rfl) ?_ (fun hHeld => ?_)
        · exact S.out.drew
        refine tk 0 (v := .agg (PA q)) rfl (by kernel_rfl) (by kernel_rfl) (by kernel_rfl) (fun _ _ _ h => h) rfl (fun w hSw => ex_load rfl rfl (TS.get hSw (b := W.heap.size) (p := q) (by simp)).loadA) hHeld ?_
        try simp only [Act.put, List.setIfInBounds_toArray, List.set_cons_zero, List.set_cons_succ]
        refine tkq 1 hHeld ?_
        refine tkq 2 hHeld ?_
        refine tkq 3 hHeld ?_
        refine tk 4 (v := .agg #[.int .i64 e1, .int .i64 e2, .int .i64 e3, .int .i64 e4, .int .i64 e5, .int .u64 e6, .int .u64 e7]) rfl (by kernel_rfl) (by kernel_rfl) (by kernel_rfl) (fun _ _ _ h => h) rfl (fun w hSw => by have h := Se.load hSw.2.1 k hlt; rw [← HE.out] at h; exact ex_load rfl rfl h) hHeld ?_
        try simp only [Act.put, List.setIfInBounds_toArray, List.set_cons_zero, List.set_cons_succ]
        refine twoUp 5 9 rfl rfl (by kernel_rfl) rfl rfl (fun K hK => ?_) (fun K hK => ?_)
        · go_simp
          refine (AP.out _).mono ?_
          rintro e' w' ⟨rfl, hb'⟩
          try go_wp2_with fail
          refine hK.out _ _ (TS.below hHeld hb') (fun h3 => ?_)
          clear hK
          try simp only [Act.put, List.setIfInBounds_toArray, List.set_cons_zero, List.set_cons_succ]
          refine tkq 6 h3 ?_
          refine tkq 7 h3 ?_
          refine tkq 8 h3 ?_
          refine only 9 rfl (by kernel_rfl) rfl (fun K hK => ?_)
          have nL := TS.ne h3
          have lN := h3.2.2.size
          go_simp
          refine hK.out _ _ (TS.alloc h3 _) (fun h4 => ?_)
          clear hK
          try simp only [Act.put, List.setIfInBounds_toArray, List.set_cons_zero, List.set_cons_succ]
          have NN := ts_new h4
          have ST := NN.storeA q2
          have NW := NN.whole q2
          refine only 10 rfl (by kernel_rfl) rfl (fun K hK => ?_)
          refine ov_store rfl rfl rfl ST ?_
          refine hK.out _ _ (TS.sets h4 nL (Nat.ne_of_lt (Nat.lt_of_lt_of_le hbP lN)) lN) (fun hE => ?_)
          clear hK
          try simp only [Act.put, List.setIfInBounds_toArray, List.set_cons_zero, List.set_cons_succ]
          refine tkq 11 hE ?_
          refine wpAnyH_done (by kernel_rfl) ?_ _
          go_wp2_with fail
          go_meet
          exact ⟨_, rfl, rfl, NW, hE, lN, nL⟩
        · have nL := TS.ne hHeld
          have lN := hHeld.2.2.size
          go_simp
          refine hK.out _ _ (TS.alloc hHeld _) (fun h2 => ?_)
          clear hK
          try simp only [Act.put, List.setIfInBounds_toArray, List.set_cons_zero, List.set_cons_succ]
          have NN0 := ts_newD h2
          refine only 5 rfl (by kernel_rfl) rfl (fun K hK => ?_)
          go_simp
          refine (AP.out _).mono ?_
          rintro e' w' ⟨rfl, hb'⟩
          try go_wp2_with fail
          refine hK.out _ _ (TS.below h2 hb') (fun h4 => ?_)
          clear hK
          try simp only [Act.put, List.setIfInBounds_toArray, List.set_cons_zero, List.set_cons_succ]
          have NN := NN0.below hb'
          refine tkq 6 h4 ?_
          refine tkq 7 h4 ?_
          refine tkq 8 h4 ?_
          have ST := NN.storeA q2
          have NW := NN.whole q2
          refine only 10 rfl (by kernel_rfl) rfl (fun K hK => ?_)
          refine ov_store rfl rfl rfl ST ?_
          refine hK.out _ _ (TS.sets h4 nL (Nat.ne_of_lt (Nat.lt_of_lt_of_le hbP lN)) lN) (fun hE => ?_)
          clear hK
          try simp only [Act.put, List.setIfInBounds_toArray, List.set_cons_zero, List.set_cons_succ]
          refine tkq 11 hE ?_
          refine wpAnyH_done (by kernel_rfl) ?_ _
          go_wp2_with fail
          go_meet
          exact ⟨_, rfl, rfl, NW, hE, lN, nL⟩
      case rest =>
        obtain ⟨N, rfl, rfl, hN, hS2, lN, nN⟩ := hcut
        have N2 := hid hN
        have S2 := hid hS2
        clear hN hS2 S nN AP
        cases be : (er != 0)
        · have he0 : er = 0 := by simpa using be
          subst he0
          have LN := N2.out.loadA
          have PP := TS.get S2.out (b := W.heap.size) (p := q) (by simp)
          have SR := hid (PP.storeA q2)
          have SF := hid (TS.cons (TS.sets (S2.out.less (L' := [(W.heap.size + 1, zPl)]) (fun x hx => by simp at hx; subst hx; simp)) (c := W.heap.size) (o := 0) (vs := (PA q2).toList) (fun x hx => by simp at hx; subst hx; simp) (Nat.ne_of_lt hbP) (Nat.le_refl _)) (PP.whole q2))
          have HN2 : Hid (runP p g (k + 1) = some q2) := hid (by unfold runP; rw [HRU.out]; simp only; rw [← HE.out, ← HAR.out]; rfl)
          have HQ2 : Hid (Pinv q2 (K + ((k + 1 : Nat) : Int))) := hid (by have h := apR_inv HQ.out (e := ⟨e1, e2, e3, e4, e5, ⟨e6, e7⟩⟩) (by rw [← HAR.out]); rw [← HAR.out] at h; exact h.mono (by omega))
          go_upto_region 3 with (first | ((with_reducible refine wl_id ?_); refine wl_load rfl rfl rfl LN ?_) | ((with_reducible refine wl_id ?_); refine wl_store rfl rfl rfl rfl SR.out ?_))
          clear LN SR S2 N2 PP
          generalize wc.setCells W.heap.size 0 (PA q2).toList = wz at *
          go_wp2_with fail
          go_roundw
          case rel => exact ⟨k + 1, q2, by omega, by go_num, HN2.out, HQ2.out, SF.out⟩
          case measure => simp [intOf]; omega
        · have hne : er ≠ 0 := by simpa using be
          have HNE := hid hne
          clear hne
          have LP := (TS.get S2.out (b := W.heap.size) (p := q) (by simp)).loadA
          have PR := hid (TS.get S2.out (b := W.heap.size + 1) (p := zPl) (by simp))
          have BR := hid S2.out.2.2
          have SR := hid (PR.out.storeA q)
          go_wp2_with (first | ((with_reducible refine wl_id ?_); refine wl_load rfl rfl rfl LP ?_) | ((with_reducible refine wl_id ?_); refine wl_store rfl rfl rfl rfl SR.out ?_; refine wl_val rfl rfl ?_; refine wl_val rfl rfl ?_; refine end_then ?_; apply_assumption; refine wp_ret ?_; (repeat first | refine ret_then ?_ | refine ret_block ?_); (show bodyPost _ _ _ _ _ _); refine bodyPost_ret (v := .tuple #[.agg (PA q), .int .i64 (k : Int), .int .i64 er]) (results_c3 Tryz.results58 _ rfl rfl rfl (PR.out.whole q)) rfl ⟨q, _, er, rfl, ⟨HRU.out, .inr ⟨hlt, by rw [← HE.out, ← HAR.out], HNE.out⟩⟩, BR.out.trans (keeps_setCells (W.heap.size + 1) (PA q).toList 0 _ W.heap.size (Nat.le_succ _))⟩))
    · have e : k = n := by omega
      subst e
      have LP := (TS.get S.out (b := W.heap.size) (p := q) (by simp)).loadA
      have PR := hid (TS.get S.out (b := W.heap.size + 1) (p := zPl) (by simp))
      have BR := hid S.out.2.2
      have SR := hid (PR.out.storeA q)
      go_wp2_with (first | ((with_reducible refine wl_id ?_); refine wl_load rfl rfl rfl LP ?_) | ((with_reducible refine wl_id ?_); refine wl_store rfl rfl rfl rfl SR.out ?_; refine wl_val rfl rfl ?_; refine wl_val rfl rfl ?_; refine end_then ?_; apply_assumption; refine wp_ret ?_; (repeat first | refine ret_then ?_ | refine ret_block ?_); (show bodyPost _ _ _ _ _ _); refine bodyPost_ret (v := .tuple #[.agg (PA q), .int .i64 (k : Int), .int .i64 0]) (results_c3 Tryz.results58 _ rfl rfl rfl (PR.out.whole q)) rfl ⟨q, _, 0, rfl, ⟨HRU.out, .inl ⟨rfl, rfl⟩⟩, BR.out.trans (keeps_setCells (W.heap.size + 1) (PA q).toList 0 _ W.heap.size (Nat.le_succ _))⟩))
end Go.Proofs.YteefhiniamajkaaGreat
namespace Go.Proofs.YteefhiniamajkaaGreat
set_option linter.unusedVariables false
set_option linter.unusedSimpArgs false
open Go.RowKit Go.ChangeShapes Go.WideShapes Go.ChangeAt

/-- Pools in blocks, rows of entries in blocks, all that was as it was. -/
def SG (W w : World) (L : List (Nat × Pl)) (E : List (Nat × Nat × (Nat → En))) : Prop := (∀ x, x ∈ L → PoolAt w x.1 x.2) ∧ (∀ x, x ∈ E → Se w (some ⟨x.1, 0, none⟩) x.2.1 x.2.2) ∧ Below W.heap.size W w
section
variable {W w w' : World} {L : List (Nat × Pl)} {E : List (Nat × Nat × (Nat → En))}
theorem SG.get (h : SG W w L E) {b : Nat} {p : Pl} (hx : (b, p) ∈ L) : PoolAt w b p := h.1 (b, p) hx
theorem SG.ent (h : SG W w L E) {b n : Nat} {g : Nat → En} (hx : (b, n, g) ∈ E) : Se w (some ⟨b, 0, none⟩) n g := h.2.1 (b, n, g) hx
theorem SG.bl (h : SG W w L E) : Below W.heap.size W w := h.2.2
theorem SG.start (h : Below W.heap.size W w) : SG W w [] [] := ⟨fun x hx => absurd hx (by simp), fun x hx => absurd hx (by simp), h⟩
theorem SG.below (h : SG W w L E) (hb : Below w.heap.size w w') : SG W w' L E := ⟨fun x hx => (h.1 x hx).below hb, fun x hx => Se.below (h.2.1 x hx) hb (Nat.le_refl _), h.2.2.trans (hb.mono h.2.2.size)⟩
theorem SG.alloc (h : SG W w L E) (o : Obj) : SG W (w.alloc o) L E := h.below ((Below.refl _ _).alloc (Nat.le_refl _) o)
theorem SG.drew (h : SG W w L E) : SG W w.drew L E := ⟨fun x hx => (h.1 x hx).drew, fun x hx => Sl.drew (h.2.1 x hx), h.2.2.drew⟩
theorem SG.cons (h : SG W w L E) {b : Nat} {p : Pl} (hp : PoolAt w b p) : SG W w ((b, p) :: L) E :=
  ⟨fun x hx => by rcases List.mem_cons.1 hx with e | hx; (rw [e]; exact hp); exact h.1 x hx, h.2.1, h.2.2⟩
theorem SG.row (h : SG W w L E) {b n : Nat} {g : Nat → En} (hp : Se w (some ⟨b, 0, none⟩) n g) : SG W w L ((b, n, g) :: E) :=
  ⟨h.1, fun x hx => by rcases List.mem_cons.1 hx with e | hx; (rw [e]; exact hp); exact h.2.1 x hx, h.2.2⟩
theorem SG.less (h : SG W w L E) {L' : List (Nat × Pl)} (hl : ∀ x, x ∈ L' → x ∈ L) : SG W w L' E := ⟨fun x hx => h.1 x (hl x hx), h.2.1, h.2.2⟩
theorem SG.lessE (h : SG W w L E) {E' : List (Nat × Nat × (Nat → En))} (hl : ∀ x, x ∈ E' → x ∈ E) : SG W w L E' := ⟨h.1, fun x hx => h.2.1 x (hl x hx), h.2.2⟩
/-- A block of its own is written. -/
theorem SG.sets (h : SG W w L E) {c o : Nat} {vs : List Value} (hL : ∀ x, x ∈ L → c ≠ x.1) (hE : ∀ x, x ∈ E → c ≠ x.1) (hc : W.heap.size ≤ c) : SG W (w.setCells c o vs) L E :=
  ⟨fun x hx => (h.1 x hx).others (hL x hx), fun x hx => Sl.sets (h.2.1 x hx) (fun ad e _ => by injection e with e; subst e; exact fun e => hE x hx e.symm), h.2.2.trans (keeps_setCells c vs o w _ hc)⟩
theorem SG.ne (h : SG W w L E) : ∀ x, x ∈ L → w.heap.size ≠ x.1 := fun x hx => Nat.ne_of_gt (h.1 x hx).1
theorem SG.neE (h : SG W w L E) (hp : ∀ x, x ∈ E → 0 < x.2.1) : ∀ x, x ∈ E → w.heap.size ≠ x.1 := fun x hx => Nat.ne_of_gt (Sl.lt (h.2.1 x hx) (by have := hp x hx; omega))
theorem SG.made (h : SG W w L E) {T : TypeId} (p : Pl) : SG W (w.alloc (.cells (PA p) T)) ((w.heap.size, p) :: L) E := (h.alloc _).cons (PoolAt.made rfl)
/-- A pool's block, made for one pool, then another one is stored. -/
theorem SG.put (h : SG W w L E) {T : TypeId} (p q : Pl) (hE : ∀ x, x ∈ E → 0 < x.2.1) : SG W ((w.alloc (.cells (PA p) T)).setCells w.heap.size 0 (PA q).toList) ((w.heap.size, q) :: L) E :=
  (SG.sets (h.alloc _) (SG.ne h) (SG.neE h hE) h.2.2.size).cons ((PoolAt.made rfl).whole q)
theorem sg_new {T : TypeId} : PoolAt (w.alloc (.cells (PA zPl) T)) w.heap.size zPl := PoolAt.made rfl
theorem sg_newH {T : TypeId} (h : SG W (w.alloc (.cells (PA zPl) T)) L E) : PoolAt (w.alloc (.cells (PA zPl) T)) w.heap.size zPl := PoolAt.made rfl
theorem sg_newHD {T : TypeId} (h : SG W (w.alloc (.cells (PA zPl) T)).drew L E) : PoolAt (w.alloc (.cells (PA zPl) T)).drew w.heap.size zPl := (PoolAt.made rfl).drew
theorem sg_newD {T : TypeId} : PoolAt (w.alloc (.cells (PA zPl) T)).drew w.heap.size zPl := (PoolAt.made rfl).drew
theorem sg_newD2 {T : TypeId} : PoolAt (w.drew.alloc (.cells (PA zPl) T)) w.heap.size zPl := PoolAt.made rfl
end
theorem q_rot (p : Pl) (k : Ky) : apR p ⟨6, 0, 0, 0, 0, k⟩ = (nxP p ⟨6, 0, 0, 0, 0, k⟩, 0) := by
  have hk : chk ⟨6, 0, 0, 0, 0, k⟩ = 0 := by rw [chk_r]; rfl
  unfold apR
  rw [if_pos hk]
  rfl
theorem enc_cells (e : En) (j : Nat) (hj : j < 7) : enc e j = [Value.int .i64 e.k, .int .i64 e.s, .int .i64 e.a, .int .i64 e.p, .int .i64 e.w, .int .u64 e.y.a, .int .u64 e.y.b][j]'(by simpa using hj) := by
  rcases j with _ | _ | _ | _ | _ | _ | _ | j
  · rfl
  · rfl
  · rfl
  · rfl
  · rfl
  · rfl
  · rfl
  · omega
/-- The pool's ring, by value. -/
theorem PoolAt.ringA {w : World} {b : Nat} {p : Pl} (h : PoolAt w b p) : (Instr.loadAt 31 (.pointer (some ⟨b, 323, none⟩))).run Tryz.prog w = .ok (.agg #[.int .i64 p.r.e, .int .u64 p.r.p.a, .int .u64 p.r.p.b, .int .u64 p.r.c.a, .int .u64 p.r.c.b, .int .u64 p.r.n.a, .int .u64 p.r.n.b]) w := h.loadR
def enL (e : En) : List Value := [.int .i64 e.k, .int .i64 e.s, .int .i64 e.a, .int .i64 e.p, .int .i64 e.w, .int .u64 e.y.a, .int .u64 e.y.b]
def zEn : En := ⟨0, 0, 0, 0, 0, zKy⟩
def gl (l : List En) (j : Nat) : En := l.getD j zEn
theorem enL_at (e : En) (j : Nat) (hj : j < 7) : (enL e)[j]? = some (enc e j) := by
  rcases j with _ | _ | _ | _ | _ | _ | _ | j
  · rfl
  · rfl
  · rfl
  · rfl
  · rfl
  · rfl
  · rfl
  · omega
theorem flat_at : ∀ (l : List En) (j : Nat), j < l.length * 7 → (l.flatMap enL)[j]? = some (enc (gl l (j / 7)) (j % 7))
  | [], j, h => absurd h (by simp)
  | e :: l, j, h => by
    rw [List.flatMap_cons]
    by_cases h7 : j < 7
    · rw [List.getElem?_append_left (by simpa [enL] using h7), enL_at e j h7, show j / 7 = 0 by omega, show j % 7 = j by omega]
      rfl
    · rw [List.getElem?_append_right (by simp [enL]; omega)]
      have h2 := flat_at l (j - (enL e).length) (by simp only [List.length_cons] at h; simp [enL]; omega)
      rw [h2]
      have e1 : (enL e).length = 7 := rfl
      rw [e1, show j / 7 = (j - 7) / 7 + 1 by omega, show (j - 7) % 7 = j % 7 by omega]
      rfl
theorem se_made {w : World} (l : List En) {b : Nat} (hb : w.heap.size = b) {T : TypeId} : Se (w.alloc (.cells (l.flatMap enL).toArray T)) (some ⟨b, 0, none⟩) l.length (gl l) := by
  have C := Ce.made (w := w) (l := l.flatMap enL) (T := T) (g := b) hb
  refine Sl.mk C.1 (fun j hj => ?_)
  rw [Nat.zero_add]
  exact C.2.1 j _ (flat_at l j hj)
end Go.Proofs.YteefhiniamajkaaGreat
namespace Go.Proofs.YteefhiniamajkaaGreat
set_option linter.unusedVariables false
set_option linter.unusedSimpArgs false
open Go.RowKit Go.ChangeShapes Go.WideShapes Go.ChangeAt

/-- Pools in blocks, blocks of cells, all that was as it was. -/
def SH (W w : World) (L : List (Nat × Pl)) (C : List (Nat × List Value)) : Prop := (∀ x, x ∈ L → PoolAt w x.1 x.2) ∧ (∀ x, x ∈ C → Ce w x.1 x.2) ∧ Below W.heap.size W w
section
variable {W w w' : World} {L : List (Nat × Pl)} {C : List (Nat × List Value)} {b : Nat} {l : List Value}
theorem SH.get (h : SH W w L C) {b : Nat} {p : Pl} (hx : (b, p) ∈ L) : PoolAt w b p := h.1 (b, p) hx
theorem SH.ce (h : SH W w L C) {b : Nat} {l : List Value} (hx : (b, l) ∈ C) : Ce w b l := h.2.1 (b, l) hx
theorem SH.bl (h : SH W w L C) : Below W.heap.size W w := h.2.2
theorem SH.start (h : Below W.heap.size W w) : SH W w [] [] := ⟨fun x hx => absurd hx (by simp), fun x hx => absurd hx (by simp), h⟩
theorem SH.below (h : SH W w L C) (hb : Below w.heap.size w w') : SH W w' L C := ⟨fun x hx => (h.1 x hx).below hb, fun x hx => (h.2.1 x hx).below hb, h.2.2.trans (hb.mono h.2.2.size)⟩
theorem SH.alloc (h : SH W w L C) (o : Obj) : SH W (w.alloc o) L C := h.below ((Below.refl _ _).alloc (Nat.le_refl _) o)
theorem SH.drew (h : SH W w L C) : SH W w.drew L C := ⟨fun x hx => (h.1 x hx).drew, fun x hx => h.2.1 x hx, h.2.2.drew⟩
theorem SH.cons (h : SH W w L C) {b : Nat} {p : Pl} (hp : PoolAt w b p) : SH W w ((b, p) :: L) C :=
  ⟨fun x hx => by rcases List.mem_cons.1 hx with e | hx; (rw [e]; exact hp); exact h.1 x hx, h.2.1, h.2.2⟩
theorem SH.cell (h : SH W w L C) {b : Nat} {l : List Value} (hp : Ce w b l) : SH W w L ((b, l) :: C) :=
  ⟨h.1, fun x hx => by rcases List.mem_cons.1 hx with e | hx; (rw [e]; exact hp); exact h.2.1 x hx, h.2.2⟩
theorem SH.less (h : SH W w L C) {L' : List (Nat × Pl)} (hl : ∀ x, x ∈ L' → x ∈ L) : SH W w L' C := ⟨fun x hx => h.1 x (hl x hx), h.2.1, h.2.2⟩
theorem SH.lessC (h : SH W w L C) {C' : List (Nat × List Value)} (hl : ∀ x, x ∈ C' → x ∈ C) : SH W w L C' := ⟨h.1, fun x hx => h.2.1 x (hl x hx), h.2.2⟩
theorem SH.sets (h : SH W w L C) {c o : Nat} {vs : List Value} (hL : ∀ x, x ∈ L → c ≠ x.1) (hC : ∀ x, x ∈ C → c ≠ x.1) (hc : W.heap.size ≤ c) : SH W (w.setCells c o vs) L C :=
  ⟨fun x hx => (h.1 x hx).others (hL x hx), fun x hx => (h.2.1 x hx).oths (hC x hx), h.2.2.trans (keeps_setCells c vs o w _ hc)⟩
theorem SH.ne (h : SH W w L C) : ∀ x, x ∈ L → w.heap.size ≠ x.1 := fun x hx => Nat.ne_of_gt (h.1 x hx).1
theorem SH.neC (h : SH W w L C) : ∀ x, x ∈ C → w.heap.size ≠ x.1 := fun x hx => Nat.ne_of_gt (h.2.1 x hx).1
theorem SH.put (h : SH W w L C) {T : TypeId} (p q : Pl) : SH W ((w.alloc (.cells (PA p) T)).setCells w.heap.size 0 (PA q).toList) ((w.heap.size, q) :: L) C :=
  (SH.sets (h.alloc _) (SH.ne h) (SH.neC h) h.2.2.size).cons ((PoolAt.made rfl).whole q)
theorem SH.mk_ (h : SH W w L C) {T : TypeId} (l : List Value) : SH W (w.alloc (.cells l.toArray T)) L ((w.heap.size, l) :: C) := (h.alloc _).cell (Ce.made rfl)
/-- A cell of a block is written. -/
theorem SH.set1 (h : SH W w [] ((b, l) :: C)) (j : Nat) (v : Value) (hj : j < l.length) (hC : ∀ x, x ∈ C → b ≠ x.1) (hc : W.heap.size ≤ b) : SH W (w.setCell ⟨b, j, none⟩ v) [] ((b, l.set j v) :: C) :=
  ⟨fun x hx => absurd hx (by simp), fun x hx => by
    rcases List.mem_cons.1 hx with e | hx
    · rw [e]; exact Ce.set (h.2.1 (b, l) (by simp)) j v hj
    · exact Ce.oth (h.2.1 x (List.mem_cons_of_mem _ hx)) (hC x hx), h.2.2.trans (keeps_setCells b [v] j w _ hc)⟩
end
section
variable {H : Type} {enc : TypeId × Value → H} {w : World} {base : Nat} {spare : Nat → Bool} {held : Bool}
set_option maxRecDepth 100000 in
/-- An entry that is an argument. -/
theorem open_entry {r : Reach} {b0 : Nat} {v : Value} {d : DataW H} {p : List MemPlace} (hv : Value.okWide Tryz.prog w r b0 44 v) (h : DataW.Trod enc Tryz.prog w base spare held 44 v d p) :
    ∃ a1 a2 a3 a4 a5 a6 a7 : Int, v = .agg #[.int .i64 a1, .int .i64 a2, .int .i64 a3, .int .i64 a4, .int .i64 a5, .int .u64 a6, .int .u64 a7] := by
  have hI : Tryz.prog.cellsOf 3 = 1 := by kernel_rfl
  have hU : Tryz.prog.cellsOf 27 = 1 := by kernel_rfl
  have hK : Tryz.prog.cellsOf 29 = 2 := by kernel_rfl
  have hE : Tryz.prog.cellsOf 44 = 7 := by kernel_rfl
  obtain ⟨cs, rfl, hsz⟩ := okWide_struct Tryz.underlying44 hv
  obtain ⟨l⟩ := cs
  match l, hsz.trans hE with
  | [c0, c1, c2, c3, c4, c5, c6], _ =>
    obtain ⟨fuel, hf⟩ := h
    obtain ⟨xs, n, _, _, _, hlen, hg⟩ := DataW.trod_struct Tryz.underlying44 hf
    match xs, hlen with
    | [y0, y1, y2, y3, y4, y5], _ =>
      have g0 := hg 0 _ rfl
      have g1 := hg 1 _ rfl
      have g2 := hg 2 _ rfl
      have g3 := hg 3 _ rfl
      have g4 := hg 4 _ rfl
      have g5 := hg 5 _ rfl
      (try dsimp only at g0 g1 g2 g3 g4 g5); simp only [hI, hK, Value.cells] at g0 g1 g2 g3 g4 g5
      obtain ⟨a1, e1, _⟩ := DataW.trod_int Tryz.underlying3 g0
      obtain ⟨a2, e2, _⟩ := DataW.trod_int Tryz.underlying3 g1
      obtain ⟨a3, e3, _⟩ := DataW.trod_int Tryz.underlying3 g2
      obtain ⟨a4, e4, _⟩ := DataW.trod_int Tryz.underlying3 g3
      obtain ⟨a5, e5, _⟩ := DataW.trod_int Tryz.underlying3 g4
      obtain ⟨xs2, n2, _, _, _, hlen2, hg2⟩ := DataW.trod_struct Tryz.underlying29 g5
      match xs2, hlen2 with
      | [z0, z1], _ =>
        have k0 := hg2 0 _ rfl
        have k1 := hg2 1 _ rfl
        (try dsimp only at k0 k1); (try simp only [hU] at k0 k1)
        obtain ⟨a6, e6, _⟩ := DataW.trod_int Tryz.underlying27 k0
        obtain ⟨a7, e7, _⟩ := DataW.trod_int Tryz.underlying27 k1
        simp [hI, hU, hK] at e1 e2 e3 e4 e5 e6 e7
        subst e1; subst e2; subst e3; subst e4; subst e5; subst e6; subst e7
        exact ⟨_, _, _, _, _, _, _, rfl⟩
end
end Go.Proofs.YteefhiniamajkaaGreat
namespace Go.Proofs.YteefhiniamajkaaGreat
set_option linter.unusedVariables false
set_option linter.unusedSimpArgs false
open Go.RowKit Go.ChangeShapes Go.WideShapes Go.ChangeAt

/-- A row of entries of the call's own. -/
def OwE (w : World) (B : Nat) (v : Value) (m : Nat) (g : Nat → En) : Prop := Ow w B 44 7 v m (fun j => enc (g (j / 7)) (j % 7))
section
variable {W w w' : World} {B m : Nat} {v : Value} {g : Nat → En} {L : List (Nat × Pl)}
theorem OwE.ge (h : OwE w B v m g) {b : Nat} (hb : b < B) : v.ownBlock ≠ some b := by
  intro e
  have := (World.ownsRow.lt h b e).1
  omega
theorem OwE.keep (h : OwE w B v m g) {D : Nat} (hb : Below D w w') (hD : w.heap.size ≤ D) : OwE w' B v m g := Ow.keep h hb hD
theorem OwE.se {A : Option Addr} {c : Nat} (h : OwE w B (.slice A m c) m g) : Se w A m g := Ow.sl h
theorem OwE.cap {A : Option Addr} {c : Nat} (h : OwE w B (.slice A m c) m g) : m ≤ c := by
  obtain ⟨A', c', hv, hc, _⟩ := Ow.form_ h
  injection hv with _ _ h3
  omega
theorem OwE.nil : OwE w B (.slice none 0 0) 0 g := Ow.none_
theorem SG.grown (h : SG W w L []) {row : Option Nat} {D : Nat} (hg : w.grownBy w' row) (hne : ∀ x, x ∈ L → row ≠ some x.1) (hb : Below D w w') (hD : W.heap.size ≤ D) : SG W w' L [] :=
  ⟨fun x hx => (h.1 x hx).grown hg (hne x hx), fun x hx => absurd hx (by simp), h.2.2.trans (hb.mono hD)⟩
theorem below_put {T : TypeId} (p q : Pl) : Below w.heap.size w ((w.alloc (.cells (PA p) T)).setCells w.heap.size 0 (PA q).toList) := ((Below.refl _ _).alloc (Nat.le_refl _) _).trans (keeps_setCells _ _ _ _ _ (Nat.le_refl _))
end
theorem info_e : (Tryz.prog.info? 44).map (fun i => (i.zero, i.size, i.bytes)) = some (some (.agg #[.int .i64 0, .int .i64 0, .int .i64 0, .int .i64 0, .int .i64 0, .int .u64 0, .int .u64 0]), 7, 56) := by kernel_rfl
theorem enc_one (e : En) (j : Nat) : (enc e j).oneCell' = true := by unfold enc; split <;> rfl
section
variable {w : World} {ops : Array Oper} {rest : List Oper} {o : Oper} {a : Act} {Q : Exit → Act → World → Prop}
/-- append of an entry onto a row of the call's own. -/
theorem wp_app_e (hgd : o.guard = none) (s x : Operand) (ho : o.op = .call { callee := .builtin .append, args := #[s, x], argTypes := #[46, 46] })
    (base : Nat) (v : Value) (m : Nat) (G : Nat → En) (hs : a.eval s = v) (hown : OwE w base v m G)
    (g c : Nat) (hx : a.eval x = .slice (some ⟨g, 0, none⟩) 1 c) (hr : Ce w g (enL (G m))) (hsz : m ≤ 1000000) (hbase : base ≤ w.heap.size)
    (h : ∀ A' c' w', OwE w' base (.slice A' (m + 1) c') (m + 1) G → Below base w w' → w.grownBy w' v.ownBlock → wpList Tryz.prog ops Q rest (a.put o.dst (.slice A' (m + 1) c')) w') : wpList Tryz.prog ops Q (o :: rest) a w := by
  obtain ⟨i0, hi, hz0, hz1, hz2⟩ := info_parts info_e
  refine wp_app w hgd s x 46 ho base 44 i0 (.agg #[.int .i64 0, .int .i64 0, .int .i64 0, .int .i64 0, .int .i64 0, .int .u64 0, .int .u64 0]) 7 56 Tryz.underlying46 hi hz0 hz1 hz2 rfl (by decide) v m _ hs hown (some ⟨g, 0, none⟩) 1 c (fun j => enc (G m) j) hx ?_ (fun j _ => enc_one _ _) (by simp only [maxLen]; omega) (by omega) hbase ?_
  · refine Sl.mk hr.1 fun j hj => ?_
    rw [Nat.zero_add]
    exact hr.2.1 j _ (enL_at _ j (by omega))
  · intro A' c' w' h1 h2 h3 h4 h5 h6
    refine h A' c' w' ?_ h4 h5
    unfold OwE
    refine h1.as_ fun j hj => ?_
    unfold two
    by_cases hjm : j < m * 7
    · rw [if_pos hjm]
    · rw [if_neg hjm]
      have e1 : j / 7 = m := by omega
      have e2 : j - m * 7 = j % 7 := by omega
      rw [e1, e2]
end
theorem runP_v {p : Pl} {g : Nat → En} : ∀ {k : Nat} {q : Pl}, runP p g k = some q → q.v = p.v + k
  | 0, q, h => by
    unfold runP at h
    injection h with h
    subst h
    simp
  | k + 1, q, h => by
    unfold runP at h
    cases h1 : runP p g k with
    | none => rw [h1] at h; cases h
    | some q1 =>
      rw [h1] at h
      simp only at h
      have ih := runP_v h1
      by_cases h0 : (apR q1 (g k)).2 = 0
      · rw [if_pos h0] at h
        injection h with h
        obtain ⟨_, _, h2⟩ := apR_ok h0
        rw [← h, h2]
        have hn : (nxP q1 (g k)).v = q1.v + 1 := by unfold nxP; cases ((g k).k == 6) <;> rfl
        rw [hn, ih]
        omega
      · rw [if_neg h0] at h; cases h
theorem runP_add {p : Pl} {g : Nat → En} {k : Nat} {b : Pl} (hb : runP p g k = some b) : ∀ j : Nat, runP p g (k + j) = runP b (fun i => g (k + i)) j
  | 0 => hb
  | j + 1 => by
    show runP p g (k + j + 1) = _
    unfold runP
    rw [runP_add hb j]
theorem AllOut.le {p : Pl} {g : Nat → En} {n k : Nat} {q : Pl} {er : Int} (h : AllOut p g n q k er) : k ≤ n := by
  rcases h.2 with ⟨e, _⟩ | ⟨e, _⟩ <;> omega
/-- Up to a cut, and the rest behind it, are as all at once. -/
theorem AllOut.cut {p : Pl} {g : Nat → En} {n t m : Nat} {b : Pl} {f : Int} (ht : t ≤ n) (h1 : AllOut p g t b m f) : (f ≠ 0 → AllOut p g n b m f) ∧ ∀ {c : Pl} {o : Nat} {e : Int}, f = 0 → AllOut b (fun i => g (t + i)) (n - t) c o e → AllOut p g n c (m + o) e := by
  refine ⟨fun hf => ?_, fun {c o e} hf h2 => ?_⟩
  · rcases h1.2 with ⟨_, e⟩ | ⟨h3, h4, h5⟩
    · exact absurd e hf
    · exact ⟨h1.1, .inr ⟨by omega, h4, h5⟩⟩
  · have hm : m = t := by
      rcases h1.2 with ⟨e, _⟩ | ⟨_, _, e⟩
      · exact e
      · exact absurd hf e
    subst hm
    refine ⟨by rw [runP_add h1.1]; exact h2.1, ?_⟩
    rcases h2.2 with ⟨e1, e2⟩ | ⟨h3, h4, h5⟩
    · exact .inl ⟨by omega, e2⟩
    · exact .inr ⟨by omega, h4, h5⟩
end Go.Proofs.YteefhiniamajkaaGreat
