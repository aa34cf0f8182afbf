/- All of the package. -/
import Derived.Test.YtppcanaelagfmaaPolInv
import Derived.BigQuiet
import Derived.Deep.RegionHeld3
import Derived.Deep.Cut
namespace Go.Proofs.Ytppcanaelagfmaa
set_option linter.unusedVariables false
set_option linter.unusedSimpArgs false
open Go.RowKit Go.ChangeShapes Go.WideShapes Go.ChangeAt

theorem ret_block {l : Nat} {Q : Exit → Act → World → Prop} {a : Act} {w : World} (h : Q .ret a w) : Exit.inBlock l Q .ret a w := h
attribute [local irreducible] PA
set_option maxRecDepth 100000 in
set_option maxHeartbeats 4000000 in
theorem all_any (p : Pl) (g : Nat → En) (A : Option Addr) (n c : Nat) (w : World) (hA : Se w A n g) (hn : n ≤ 1000) (K : Int) (hp : Pinv p K) (hK : K ≤ 100000) : Calls Try.prog 31 #[plV p, .slice A n c] w fun x w' => ∃ (q : Pl) (k : Nat) (er : Int), x = .returned (.tuple #[plV q, .int .i64 (k : Int), .int .i64 er]) ∧ AllOut p g n q k er ∧ Below w.heap.size w w' := by
  have hz : ∀ w : World, (zeroValue 33).run Try.prog w = .ok (.agg (PA zPl)) w := fun w => zero_pl w
  have hz1 := pa_size zPl
  have hz2 := pa_ne zPl
  unfold plV
  go_enter Try.func31, Try.ntmps31
  go_upto_region 1 with (fail)
  have P1 := hid ((PoolAt.made (w := w) (p := p) (T := 33) rfl).alloc (.cells (PA zPl) 33))
  have R1 := hid (PoolAt.made (w := w.alloc (.cells (PA p) 33)) (p := zPl) (T := 33) (g := w.heap.size + 1) (by simp))
  have B1 := hid (((Below.refl w.heap.size w).alloc (Nat.le_refl _) (.cells (PA p) 33)).alloc (by simp) (.cells (PA zPl) 33))
  have lR : w.heap.size ≤ w.heap.size + 1 := by omega
  have dRP : w.heap.size + 1 ≠ w.heap.size := by omega
  have dPR := Ne.symm dRP
  have hA0 := hid hA
  have hAb := hid (fun b off (e : A = some ⟨b, off, none⟩) (h0 : 0 < n) => (show b < w.heap.size from by subst e; exact Sl.lt hA (by omega)))
  generalize (w.alloc (.cells (PA p) 33)).alloc (.cells (PA zPl) 33) = w1 at *
  generalize w.heap.size + 1 = R at *
  generalize hK : w.heap.size = P at *
  have HK := hid hK
  clear hK
  have hPi := hid hp
  clear hp hA
  go_wp2_with fail
  go_loopw [13] (fun i wr => ∃ (k : Nat) (q : Pl), k ≤ n ∧ i = .int .i64 (k : Int) ∧ runP p g k = some q ∧ Pinv q (K + k) ∧ PoolAt wr P q ∧ PoolAt wr R zPl ∧ Below P w wr) (fun i _ => n - (intOf i).toNat)
  case atStart => exact ⟨0, p, by omega, rfl, rfl, hPi.out.mono (by omega), P1.out, R1.out, B1.out⟩
  case round =>
    clear P1 R1 hPi
    obtain ⟨k, q, hk, rfl, hrun, hq, hP, hR, hB⟩ := hrel
    have P2 := hid hP
    have R2 := hid hR
    have B2 := hid hB
    have HRU := hid hrun
    have HQ := hid hq
    clear hP hR hB hrun hq
    by_cases hlt : k < n
    · have hSe : Se wr A n g := Se.below hA0.out B2.out (by rw [HK.out]; exact Nat.le_refl _)
      obtain ⟨b, off, rfl⟩ := Sl.addr hSe (by omega)
      have hbP := hAb.out b off rfl (by omega)
      have i0 : (0 : Int) ≤ k := by omega
      have i1 : (k : Int) < n := by omega
      have LE := hSe.load k hlt
      obtain ⟨e, he⟩ : ∃ e, e = g k := ⟨_, rfl⟩
      rw [← he] at LE
      have HE := hid he
      clear he hSe
      obtain ⟨e1, e2, e3, e4, e5, e6, e7⟩ := e
      unfold enV at LE
      simp only at LE
      go_upto_region 4 with ((with_reducible refine wl_id ?_); refine wl_load rfl rfl rfl LE ?_)
      clear LE
      have dV : wr.heap.size ≠ P := Nat.ne_of_gt P2.out.1
      have dVR : wr.heap.size ≠ R := Nat.ne_of_gt R2.out.1
      have lV : P ≤ wr.heap.size := Nat.le_of_lt P2.out.1
      have P3 := hid (P2.out.alloc (.cells #[.int .i64 e1, .int .i64 e2, .int .i64 e3, .int .i64 e4, .int .i64 e5, .int .u64 e6, .int .u64 e7] 44))
      have R3 := hid (R2.out.alloc (.cells #[.int .i64 e1, .int .i64 e2, .int .i64 e3, .int .i64 e4, .int .i64 e5, .int .u64 e6, .int .u64 e7] 44))
      have CV := Ce.made (w := wr) (l := [.int .i64 e1, .int .i64 e2, .int .i64 e3, .int .i64 e4, .int .i64 e5, .int .u64 e6, .int .u64 e7]) (T := 44) (g := wr.heap.size) rfl
      have B3 := hid (B2.out.alloc lV (.cells #[.int .i64 e1, .int .i64 e2, .int .i64 e3, .int .i64 e4, .int .i64 e5, .int .u64 e6, .int .u64 e7] 44))
      clear P2 R2 B2
      generalize wr.alloc (.cells #[.int .i64 e1, .int .i64 e2, .int .i64 e3, .int .i64 e4, .int .i64 e5, .int .u64 e6, .int .u64 e7] 44) = w3 at *
      generalize wr.heap.size = V at *
      have v0 := CV.2.1 0 _ rfl
      have v1 := CV.2.1 1 _ rfl
      have v2 := CV.2.1 2 _ rfl
      have v3 := CV.2.1 3 _ rfl
      have v4 := CV.2.1 4 _ rfl
      have v5 := CV.2.1 5 _ rfl
      have v6 := CV.2.1 6 _ rfl
      clear CV
      have LP := P3.out.loadA
      have AP := hid (fun w => apply_any q ⟨e1, e2, e3, e4, e5, ⟨e6, e7⟩⟩ (HQ.out.pb (by omega)) w)
      obtain ⟨ar, har⟩ : ∃ ar, ar = apR q ⟨e1, e2, e3, e4, e5, ⟨e6, e7⟩⟩ := ⟨_, rfl⟩
      rw [← har] at AP
      have HAR := hid har
      clear har
      obtain ⟨q2, er⟩ := ar
      replace AP := hid (show ∀ w, Calls Try.prog 42 #[.agg (PA q), .agg #[.int .i64 e1, .int .i64 e2, .int .i64 e3, .int .i64 e4, .int .i64 e5, .int .u64 e6, .int .u64 e7]] w fun x w' => x = .returned (.tuple #[.agg (PA q2), .int .i64 er]) ∧ Below w.heap.size w w' from AP.out)
      go_wp2_with ((with_reducible refine wl_id ?_); refine wl_load rfl rfl rfl LP ?_)
      refine (AP.out _).mono ?_
      rintro x w4 ⟨rfl, hb⟩
      clear LP v0 v1 v2 v3 v4 v5 v6
      have P4 := hid (P3.out.below hb)
      have R4 := hid (R3.out.below hb)
      have B4 := hid (B3.out.trans (hb.mono (Nat.le_of_lt P3.out.1)))
      clear hb P3 R3 B3
      have dN : w4.heap.size ≠ P := Nat.ne_of_gt P4.out.1
      have dNR : w4.heap.size ≠ R := Nat.ne_of_gt R4.out.1
      have lN : P ≤ w4.heap.size := Nat.le_of_lt P4.out.1
      have ST := hid ((PoolAt.made (w := w4) (p := zPl) (T := 33) rfl).storeA q2)
      have P5 := hid ((P4.out.alloc (.cells (PA zPl) 33)).others (c := w4.heap.size) (o := 0) (vs := (PA q2).toList) dN)
      have R5 := hid ((R4.out.alloc (.cells (PA zPl) 33)).others (c := w4.heap.size) (o := 0) (vs := (PA q2).toList) dNR)
      have N5 := hid ((PoolAt.made (w := w4) (p := zPl) (T := 33) rfl).whole q2)
      have B5 := hid ((B4.out.alloc lN (.cells (PA zPl) 33)).trans (keeps_setCells w4.heap.size (PA q2).toList 0 _ P lN))
      go_upto_region 5 with ((with_reducible refine wl_id ?_); refine wl_store rfl rfl rfl rfl ST.out ?_)
      clear ST P4 R4 B4
      generalize (w4.alloc (.cells (PA zPl) 33)).setCells w4.heap.size 0 (PA q2).toList = w5 at *
      generalize w4.heap.size = N at *
      cases be : (er != 0)
      · have he0 : er = 0 := by simpa using be
        subst he0
        have LN := N5.out.loadA
        have SR := hid (P5.out.storeA q2)
        have P6 := hid (P5.out.whole q2)
        have R6 := hid (R5.out.others (c := P) (o := 0) (vs := (PA q2).toList) dPR)
        have B6 := hid (B5.out.trans (keeps_setCells P (PA q2).toList 0 w5 P (Nat.le_refl _)))
        have HN2 : Hid (runP p g (k + 1) = some q2) := hid (by unfold runP; rw [HRU.out]; simp only; rw [← HE.out, ← HAR.out]; rfl)
        have HQ2 : Hid (Pinv q2 (K + ((k + 1 : Nat) : Int))) := hid (by have h := apR_inv HQ.out (e := ⟨e1, e2, e3, e4, e5, ⟨e6, e7⟩⟩) (by rw [← HAR.out]); rw [← HAR.out] at h; exact h.mono (by omega))
        go_upto_region 8 with (first | ((with_reducible refine wl_id ?_); refine wl_load rfl rfl rfl LN ?_) | ((with_reducible refine wl_id ?_); refine wl_store rfl rfl rfl rfl SR.out ?_))
        clear LN SR P5 R5 B5 N5
        generalize w5.setCells P 0 (PA q2).toList = w6 at *
        go_wp2_with fail
        go_roundw
        case rel => exact ⟨k + 1, q2, by omega, by go_num, HN2.out, HQ2.out, P6.out, R6.out, B6.out⟩
        case measure => simp [intOf]; omega
      · have hne : er ≠ 0 := by simpa using be
        have HNE := hid hne
        clear hne
        have LP := P5.out.loadA
        have SR := hid (R5.out.storeA q)
        go_wp2_with (first | ((with_reducible refine wl_id ?_); refine wl_load rfl rfl rfl LP ?_) | ((with_reducible refine wl_id ?_); refine wl_store rfl rfl rfl rfl SR.out ?_; refine wl_val rfl rfl ?_; refine wl_val rfl rfl ?_; refine end_then ?_; apply_assumption; refine wp_ret ?_; (repeat first | refine ret_then ?_ | refine ret_block ?_); (show bodyPost _ _ _ _ _ _); refine bodyPost_ret (v := .tuple #[.agg (PA q), .int .i64 (k : Int), .int .i64 er]) (results_c3 Try.results31 _ rfl rfl rfl (R5.out.whole q)) rfl ⟨q, _, er, rfl, ⟨HRU.out, .inr ⟨hlt, by rw [← HE.out, ← HAR.out], HNE.out⟩⟩, by rw [HK.out]; exact B5.out.trans (keeps_setCells R (PA q).toList 0 w5 P lR)⟩))
    · have e : k = n := by omega
      subst e
      have LP := P2.out.loadA
      have SR := hid (R2.out.storeA q)
      go_wp2_with (first | ((with_reducible refine wl_id ?_); refine wl_load rfl rfl rfl LP ?_) | ((with_reducible refine wl_id ?_); refine wl_store rfl rfl rfl rfl SR.out ?_; refine wl_val rfl rfl ?_; refine wl_val rfl rfl ?_; refine end_then ?_; apply_assumption; refine wp_ret ?_; (repeat first | refine ret_then ?_ | refine ret_block ?_); (show bodyPost _ _ _ _ _ _); refine bodyPost_ret (v := .tuple #[.agg (PA q), .int .i64 (k : Int), .int .i64 0]) (results_c3 Try.results31 _ rfl rfl rfl (R2.out.whole q)) rfl ⟨q, _, 0, rfl, ⟨HRU.out, .inl ⟨rfl, rfl⟩⟩, by rw [HK.out]; exact B2.out.trans (keeps_setCells R (PA q).toList 0 wr P lR)⟩))
end Go.Proofs.Ytppcanaelagfmaa
