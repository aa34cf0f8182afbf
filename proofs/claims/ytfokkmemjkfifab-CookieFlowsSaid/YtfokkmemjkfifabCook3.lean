/- Tags, masks, the parts of a cookie. -/
import Derived.Test.YtfokkmemjkfifabCook2
import Derived.Deep.RegionWith
namespace Go.Proofs.Ytfokkmemjkfifab
set_option linter.unusedVariables false
set_option linter.unusedSimpArgs false
open Go.RowKit Go.ChangeShapes Go.WideShapes Go.ChangeAt

theorem w64_mod (x : Int) (j : Nat) (hj : j ≤ 64) : wrap64 x % 2 ^ j = x % 2 ^ j := by
  rw [← IntWalk.i64_left]
  exact wrap_mod x j hj
theorem Ce.sl {w : World} {b : Nat} (l : List Int) (h : Ce w b (l.map (Value.int .i64))) : Is w (some ⟨b, 0, none⟩) l.length (fun j => l.getD j 0) := by
  refine Sl.mk h.1 fun j hj => ?_
  rw [Nat.zero_add]
  exact h.2.1 j _ (by simp [List.getD, hj])
theorem word_any (k : Ky) (kd : Int) (f : Fl) (x e : Int) (hf : f.I) (hk : I64 kd) (hx : I64 x) (he : I64 e) (w : World) :
    Calls Try.prog 29 #[kyV k, .int .i64 kd, flV f, .int .i64 x, .int .i64 e] w fun e' w' => e' = .returned (.int .u64 (W7 k kd f x e)) ∧ Below w.heap.size w w' := by
  have hI := seven_I hf hk hx he
  unfold kyV flV
  go_enter Try.func29, Try.ntmps29
  go_wp2_with fail
  refine (rwords_any k.a k.b _ 7 7 _ _ (row_at .i64 [kd, f.a, f.p, f.ta, f.tp, x, e] (by simp)) hI (by omega)).mono ?_
  rintro e' w' ⟨rfl, hb⟩
  have hb0 := ((((Below.refl w.heap.size w).alloc (Nat.le_refl _) _).alloc (by simp) _).alloc (by simp; omega) _).trans (hb.mono (by simp; omega))
  go_wp2_with fail
  go_ret
  exact ⟨rfl, hb0⟩
theorem mask_any (k : Ky) (kd : Int) (f : Fl) (e : Int) (hf : f.I) (hk : I64 kd) (he : I64 e) (w : World) :
    Calls Try.prog 26 #[kyV k, .int .i64 kd, flV f, .int .i64 e] w fun e' w' => e' = .returned (.int .i64 (wrap64 (W7 k kd f 64 e))) ∧ Below w.heap.size w w' := by
  have hI := seven_I hf hk (x := 64) ⟨by omega, by omega⟩ he
  unfold kyV flV
  go_enter Try.func26, Try.ntmps26
  go_wp2_with fail
  refine (re_u64 (words_any k.a k.b _ 7 7 _ _ (row_at .i64 [kd, f.a, f.p, f.ta, f.tp, 64, e] (by simp)) hI (by omega)) (show _ = W7 k kd f 64 e from rfl)).mono ?_
  rintro e' w' ⟨rfl, hb⟩
  have hb0 := ((((Below.refl w.heap.size w).alloc (Nat.le_refl _) _).alloc (by simp) _).alloc (by simp; omega) _).trans (hb.mono (by simp; omega))
  go_wp2_with fail
  go_ret
  exact ⟨rfl, hb0⟩
set_option maxHeartbeats 8000000 in
theorem made1 (k : Ky) (kd : Int) (f : Fl) (x e : Int) (hf : f.I) (hk : I64 kd) (hx : I64 x) (he : I64 e) (w : World) :
    Calls Try.prog 20 #[shV 4096, kyV k, .int .i64 kd, flV f, .int .i64 x, .int .i64 e] w fun e' w' => e' = .returned (ptV e (xr (x % 64) (W7 k kd f 64 e % 64)) (W7 k kd f x e % 4096)) ∧ Below w.heap.size w w' := by
  have hI := seven_I hf hk hx he
  rw [shV1]
  unfold kyV flV ptV
  go_enter Try.func20, Try.ntmps20
  go_wp2_with fail
  have dS : w.heap.size + 1 + 1 + 1 ≠ w.heap.size := by omega
  have dK : w.heap.size + 1 + 1 + 1 ≠ w.heap.size + 1 := by omega
  have dF : w.heap.size + 1 + 1 + 1 ≠ w.heap.size + 1 + 1 := by omega
  have lR : w.heap.size ≤ w.heap.size + 1 + 1 + 1 := by omega
  have CS := Ce.made (w := w) (l := [.int .u64 18, .int .u64 2, .int .u64 12, .int .u64 6, .int .u64 0, .int .u64 12]) (T := 50) (g := w.heap.size) rfl
  replace CS := CS.alloc (.cells #[.int .u64 k.a, .int .u64 k.b] 25)
  have CK := Ce.made (w := (w.alloc (.cells #[.int .u64 18, .int .u64 2, .int .u64 12, .int .u64 6, .int .u64 0, .int .u64 12] 50))) (l := [.int .u64 k.a, .int .u64 k.b]) (T := 25) (g := w.heap.size + 1) (by simp)
  replace CS := CS.alloc (.cells #[.int .i64 f.a, .int .i64 f.p, .int .i64 f.ta, .int .i64 f.tp] 30)
  replace CK := CK.alloc (.cells #[.int .i64 f.a, .int .i64 f.p, .int .i64 f.ta, .int .i64 f.tp] 30)
  have CF := Ce.made (w := ((w.alloc (.cells #[.int .u64 18, .int .u64 2, .int .u64 12, .int .u64 6, .int .u64 0, .int .u64 12] 50)).alloc (.cells #[.int .u64 k.a, .int .u64 k.b] 25))) (l := [.int .i64 f.a, .int .i64 f.p, .int .i64 f.ta, .int .i64 f.tp]) (T := 30) (g := w.heap.size + 1 + 1) (by simp)
  replace CS := CS.alloc (.cells #[.int .i64 0, .int .i64 0, .int .i64 0] 54)
  replace CK := CK.alloc (.cells #[.int .i64 0, .int .i64 0, .int .i64 0] 54)
  replace CF := CF.alloc (.cells #[.int .i64 0, .int .i64 0, .int .i64 0] 54)
  have CR := Ce.made (w := (((w.alloc (.cells #[.int .u64 18, .int .u64 2, .int .u64 12, .int .u64 6, .int .u64 0, .int .u64 12] 50)).alloc (.cells #[.int .u64 k.a, .int .u64 k.b] 25)).alloc (.cells #[.int .i64 f.a, .int .i64 f.p, .int .i64 f.ta, .int .i64 f.tp] 30))) (l := [.int .i64 0, .int .i64 0, .int .i64 0]) (T := 54) (g := w.heap.size + 1 + 1 + 1) (by simp)
  replace CS := CS.alloc (.cells #[.int .i64 kd, .int .i64 f.a, .int .i64 f.p, .int .i64 f.ta, .int .i64 f.tp, .int .i64 x, .int .i64 e] 3)
  replace CK := CK.alloc (.cells #[.int .i64 kd, .int .i64 f.a, .int .i64 f.p, .int .i64 f.ta, .int .i64 f.tp, .int .i64 x, .int .i64 e] 3)
  replace CF := CF.alloc (.cells #[.int .i64 kd, .int .i64 f.a, .int .i64 f.p, .int .i64 f.ta, .int .i64 f.tp, .int .i64 x, .int .i64 e] 3)
  replace CR := CR.alloc (.cells #[.int .i64 kd, .int .i64 f.a, .int .i64 f.p, .int .i64 f.ta, .int .i64 f.tp, .int .i64 x, .int .i64 e] 3)
  have CX := Ce.made (w := ((((w.alloc (.cells #[.int .u64 18, .int .u64 2, .int .u64 12, .int .u64 6, .int .u64 0, .int .u64 12] 50)).alloc (.cells #[.int .u64 k.a, .int .u64 k.b] 25)).alloc (.cells #[.int .i64 f.a, .int .i64 f.p, .int .i64 f.ta, .int .i64 f.tp] 30)).alloc (.cells #[.int .i64 0, .int .i64 0, .int .i64 0] 54))) (l := [.int .i64 kd, .int .i64 f.a, .int .i64 f.p, .int .i64 f.ta, .int .i64 f.tp, .int .i64 x, .int .i64 e]) (T := 3) (g := w.heap.size + 1 + 1 + 1 + 1) (by simp)
  have B : Below w.heap.size w (((((w.alloc (.cells #[.int .u64 18, .int .u64 2, .int .u64 12, .int .u64 6, .int .u64 0, .int .u64 12] 50)).alloc (.cells #[.int .u64 k.a, .int .u64 k.b] 25)).alloc (.cells #[.int .i64 f.a, .int .i64 f.p, .int .i64 f.ta, .int .i64 f.tp] 30)).alloc (.cells #[.int .i64 0, .int .i64 0, .int .i64 0] 54)).alloc (.cells #[.int .i64 kd, .int .i64 f.a, .int .i64 f.p, .int .i64 f.ta, .int .i64 f.tp, .int .i64 x, .int .i64 e] 3)) := ((((((Below.refl w.heap.size w).alloc (by first | exact Nat.le_refl _ | (simp; done) | (simp; omega)) (.cells #[.int .u64 18, .int .u64 2, .int .u64 12, .int .u64 6, .int .u64 0, .int .u64 12] 50)).alloc (by first | exact Nat.le_refl _ | (simp; done) | (simp; omega)) (.cells #[.int .u64 k.a, .int .u64 k.b] 25)).alloc (by first | exact Nat.le_refl _ | (simp; done) | (simp; omega)) (.cells #[.int .i64 f.a, .int .i64 f.p, .int .i64 f.ta, .int .i64 f.tp] 30)).alloc (by first | exact Nat.le_refl _ | (simp; done) | (simp; omega)) (.cells #[.int .i64 0, .int .i64 0, .int .i64 0] 54)).alloc (by first | exact Nat.le_refl _ | (simp; done) | (simp; omega)) (.cells #[.int .i64 kd, .int .i64 f.a, .int .i64 f.p, .int .i64 f.ta, .int .i64 f.tp, .int .i64 x, .int .i64 e] 3))
  generalize ((((w.alloc (.cells #[.int .u64 18, .int .u64 2, .int .u64 12, .int .u64 6, .int .u64 0, .int .u64 12] 50)).alloc (.cells #[.int .u64 k.a, .int .u64 k.b] 25)).alloc (.cells #[.int .i64 f.a, .int .i64 f.p, .int .i64 f.ta, .int .i64 f.tp] 30)).alloc (.cells #[.int .i64 0, .int .i64 0, .int .i64 0] 54)).alloc (.cells #[.int .i64 kd, .int .i64 f.a, .int .i64 f.p, .int .i64 f.ta, .int .i64 f.tp, .int .i64 x, .int .i64 e] 3) = w1 at *
  generalize w.heap.size + 1 + 1 + 1 + 1 = X at *
  generalize w.heap.size + 1 + 1 + 1 = R at *
  generalize w.heap.size + 1 + 1 = F at *
  generalize w.heap.size + 1 = K at *
  generalize hK : w.heap.size = S at *
  refine (re_u64 (words_any k.a k.b (some ⟨X, 0, none⟩) 7 7 _ w1 (Ce.sl [kd, f.a, f.p, f.ta, f.tp, x, e] CX) hI (by omega)) (show _ = W7 k kd f x e from rfl)).mono ?_
  rintro e' w2 ⟨rfl, hb⟩
  replace B := B.trans (hb.mono (Nat.le_of_lt CS.1))
  replace CS := CS.below hb
  replace CK := CK.below hb
  replace CF := CF.below hb
  replace CR := CR.below hb
  clear CX hb
  obtain ⟨kS, qS, zS⟩ := CS
  have cS0 := qS 0 _ rfl
  have cS1 := qS 1 _ rfl
  have cS2 := qS 2 _ rfl
  have cS3 := qS 3 _ rfl
  have cS4 := qS 4 _ rfl
  have cS5 := qS 5 _ rfl
  clear qS zS
  obtain ⟨kK, qK, zK⟩ := CK
  have cK0 := qK 0 _ rfl
  have cK1 := qK 1 _ rfl
  clear qK zK
  obtain ⟨kF, qF, zF⟩ := CF
  have cF0 := qF 0 _ rfl
  have cF1 := qF 1 _ rfl
  have cF2 := qF 2 _ rfl
  have cF3 := qF 3 _ rfl
  clear qF zF
  obtain ⟨kR, qR, zR⟩ := CR
  have cR0 := qR 0 _ rfl
  have cR1 := qR 1 _ rfl
  have cR2 := qR 2 _ rfl
  have zR0 := zR 0
  have zR1 := zR 1
  have zR2 := zR 2
  clear qR zR
  have hx : Hid (bits .xor .i64 x (wrap64 (W7 k kd f 64 e)) % 64 = xr (x % 64) (W7 k kd f 64 e % 64)) := by
    unfold Hid
    rw [xor64, show wrap64 (W7 k kd f 64 e) % 64 = W7 k kd f 64 e % 64 from w64_mod _ 6 (by omega)]
  have hy : Hid (IntKind.i64.wrap (W7 k kd f x e) % 4096 = W7 k kd f x e % 4096) := wrap_mod _ 12 (by omega)
  have M := mask_any k kd f e hf hk he
  unfold kyV flV at M
  replace M := hid M
  go_wp2_with fail
  replace cR0 := cv_of cR0
  replace cR1 := cv_of cR1
  replace cR2 := cv_of cR2
  go_region_held3 (fun w' => w'.cell? ⟨S, 0, none⟩ = some (.int .u64 18) ∧ w'.cell? ⟨S, 1, none⟩ = some (.int .u64 2) ∧ w'.cell? ⟨S, 2, none⟩ = some (.int .u64 12) ∧ w'.cell? ⟨S, 3, none⟩ = some (.int .u64 6) ∧ w'.cell? ⟨S, 4, none⟩ = some (.int .u64 0) ∧ w'.cell? ⟨S, 5, none⟩ = some (.int .u64 12) ∧ w'.cell? ⟨K, 0, none⟩ = some (.int .u64 k.a) ∧ w'.cell? ⟨K, 1, none⟩ = some (.int .u64 k.b) ∧ w'.cell? ⟨F, 0, none⟩ = some (.int .i64 f.a) ∧ w'.cell? ⟨F, 1, none⟩ = some (.int .i64 f.p) ∧ w'.cell? ⟨F, 2, none⟩ = some (.int .i64 f.ta) ∧ w'.cell? ⟨F, 3, none⟩ = some (.int .i64 f.tp) ∧ S < w'.heap.size ∧ K < w'.heap.size ∧ F < w'.heap.size ∧ R < w'.heap.size ∧ w'.cell? ⟨R, 0, none⟩ = some (cv w' R 0) ∧ w'.cell? ⟨R, 1, none⟩ = some (cv w' R 1) ∧ w'.cell? ⟨R, 2, none⟩ = some (cv w' R 2) ∧ w'.frozen? ⟨R, 0, none⟩ = false ∧ w'.frozen? ⟨R, 1, none⟩ = false ∧ w'.frozen? ⟨R, 2, none⟩ = false ∧ Below S w w')
    (first
      | (go_split_ands; refine ⟨?_, ?_, ?_, ?_, ?_, ?_, ?_, ?_, ?_, ?_, ?_, ?_, ?_, ?_, ?_, ?_, ?_, ?_, ?_, ?_, ?_, ?_, ?_⟩; with_reducible exact ((World.cell?_setCell_far _ _ _ _ dS).trans ((World.cell?_setCell_far _ _ _ _ dS).trans ((World.cell?_setCell_far _ _ _ _ dS).trans (by assumption)))); with_reducible exact ((World.cell?_setCell_far _ _ _ _ dS).trans ((World.cell?_setCell_far _ _ _ _ dS).trans ((World.cell?_setCell_far _ _ _ _ dS).trans (by assumption)))); with_reducible exact ((World.cell?_setCell_far _ _ _ _ dS).trans ((World.cell?_setCell_far _ _ _ _ dS).trans ((World.cell?_setCell_far _ _ _ _ dS).trans (by assumption)))); with_reducible exact ((World.cell?_setCell_far _ _ _ _ dS).trans ((World.cell?_setCell_far _ _ _ _ dS).trans ((World.cell?_setCell_far _ _ _ _ dS).trans (by assumption)))); with_reducible exact ((World.cell?_setCell_far _ _ _ _ dS).trans ((World.cell?_setCell_far _ _ _ _ dS).trans ((World.cell?_setCell_far _ _ _ _ dS).trans (by assumption)))); with_reducible exact ((World.cell?_setCell_far _ _ _ _ dS).trans ((World.cell?_setCell_far _ _ _ _ dS).trans ((World.cell?_setCell_far _ _ _ _ dS).trans (by assumption)))); with_reducible exact ((World.cell?_setCell_far _ _ _ _ dK).trans ((World.cell?_setCell_far _ _ _ _ dK).trans ((World.cell?_setCell_far _ _ _ _ dK).trans (by assumption)))); with_reducible exact ((World.cell?_setCell_far _ _ _ _ dK).trans ((World.cell?_setCell_far _ _ _ _ dK).trans ((World.cell?_setCell_far _ _ _ _ dK).trans (by assumption)))); with_reducible exact ((World.cell?_setCell_far _ _ _ _ dF).trans ((World.cell?_setCell_far _ _ _ _ dF).trans ((World.cell?_setCell_far _ _ _ _ dF).trans (by assumption)))); with_reducible exact ((World.cell?_setCell_far _ _ _ _ dF).trans ((World.cell?_setCell_far _ _ _ _ dF).trans ((World.cell?_setCell_far _ _ _ _ dF).trans (by assumption)))); with_reducible exact ((World.cell?_setCell_far _ _ _ _ dF).trans ((World.cell?_setCell_far _ _ _ _ dF).trans ((World.cell?_setCell_far _ _ _ _ dF).trans (by assumption)))); with_reducible exact ((World.cell?_setCell_far _ _ _ _ dF).trans ((World.cell?_setCell_far _ _ _ _ dF).trans ((World.cell?_setCell_far _ _ _ _ dF).trans (by assumption)))); with_reducible exact Nat.lt_of_lt_of_le (by assumption) (Below.setCell (Below.setCell (Below.setCell (Below.refl 0 _) (Nat.zero_le _) _) (Nat.zero_le _) _) (Nat.zero_le _) _).size; with_reducible exact Nat.lt_of_lt_of_le (by assumption) (Below.setCell (Below.setCell (Below.setCell (Below.refl 0 _) (Nat.zero_le _) _) (Nat.zero_le _) _) (Nat.zero_le _) _).size; with_reducible exact Nat.lt_of_lt_of_le (by assumption) (Below.setCell (Below.setCell (Below.setCell (Below.refl 0 _) (Nat.zero_le _) _) (Nat.zero_le _) _) (Nat.zero_le _) _).size; with_reducible exact Nat.lt_of_lt_of_le (by assumption) (Below.setCell (Below.setCell (Below.setCell (Below.refl 0 _) (Nat.zero_le _) _) (Nat.zero_le _) _) (Nat.zero_le _) _).size; with_reducible exact (cv_set (cv_set (cv_set (by assumption)))); with_reducible exact (cv_set (cv_set (cv_set (by assumption)))); with_reducible exact (cv_set (cv_set (cv_set (by assumption)))); (simp only [World.frozen?_setCell]; assumption); (simp only [World.frozen?_setCell]; assumption); (simp only [World.frozen?_setCell]; assumption); with_reducible exact (Below.setCell (Below.setCell (Below.setCell (by assumption) lR _) lR _) lR _))
      | (go_split_ands; refine ⟨?_, ?_, ?_, ?_, ?_, ?_, ?_, ?_, ?_, ?_, ?_, ?_, ?_, ?_, ?_, ?_, ?_, ?_, ?_, ?_, ?_, ?_, ?_⟩; exact (hb5.cell (p := ⟨S, 0, none⟩) (by assumption)).trans (by assumption); exact (hb5.cell (p := ⟨S, 1, none⟩) (by assumption)).trans (by assumption); exact (hb5.cell (p := ⟨S, 2, none⟩) (by assumption)).trans (by assumption); exact (hb5.cell (p := ⟨S, 3, none⟩) (by assumption)).trans (by assumption); exact (hb5.cell (p := ⟨S, 4, none⟩) (by assumption)).trans (by assumption); exact (hb5.cell (p := ⟨S, 5, none⟩) (by assumption)).trans (by assumption); exact (hb5.cell (p := ⟨K, 0, none⟩) (by assumption)).trans (by assumption); exact (hb5.cell (p := ⟨K, 1, none⟩) (by assumption)).trans (by assumption); exact (hb5.cell (p := ⟨F, 0, none⟩) (by assumption)).trans (by assumption); exact (hb5.cell (p := ⟨F, 1, none⟩) (by assumption)).trans (by assumption); exact (hb5.cell (p := ⟨F, 2, none⟩) (by assumption)).trans (by assumption); exact (hb5.cell (p := ⟨F, 3, none⟩) (by assumption)).trans (by assumption); exact Nat.lt_of_lt_of_le (by assumption) hb5.size; exact Nat.lt_of_lt_of_le (by assumption) hb5.size; exact Nat.lt_of_lt_of_le (by assumption) hb5.size; exact Nat.lt_of_lt_of_le (by assumption) hb5.size; exact cv_of ((hb5.cell (p := ⟨R, 0, none⟩) (by assumption)).trans (by assumption)); exact cv_of ((hb5.cell (p := ⟨R, 1, none⟩) (by assumption)).trans (by assumption)); exact cv_of ((hb5.cell (p := ⟨R, 2, none⟩) (by assumption)).trans (by assumption)); exact (World.frozen?_of_block (a := ⟨R, 0, none⟩) (hb5.block R (by assumption))).trans (by assumption); exact (World.frozen?_of_block (a := ⟨R, 1, none⟩) (hb5.block R (by assumption))).trans (by assumption); exact (World.frozen?_of_block (a := ⟨R, 2, none⟩) (hb5.block R (by assumption))).trans (by assumption); exact Below.trans (by assumption) (hb5.mono (by first | exact Nat.le_of_lt (by assumption) | exact Below.size (by assumption))))
      | (refine ⟨?_, ?_, ?_, ?_, ?_, ?_, ?_, ?_, ?_, ?_, ?_, ?_, ?_, ?_, ?_, ?_, ?_, ?_, ?_, ?_, ?_, ?_, ?_⟩; assumption; assumption; assumption; assumption; assumption; assumption; assumption; assumption; assumption; assumption; assumption; assumption; assumption; assumption; assumption; assumption; assumption; assumption; assumption; assumption; assumption; assumption; exact Below.drew (by assumption))
      | (go_split_ands; refine ⟨?_, ?_, ?_, ?_, ?_, ?_, ?_, ?_, ?_, ?_, ?_, ?_, ?_, ?_, ?_, ?_, ?_, ?_, ?_, ?_, ?_, ?_, ?_⟩; exact (World.cell?_alloc_lt _ _ ⟨S, 0, none⟩ (by assumption)).trans (by assumption); exact (World.cell?_alloc_lt _ _ ⟨S, 1, none⟩ (by assumption)).trans (by assumption); exact (World.cell?_alloc_lt _ _ ⟨S, 2, none⟩ (by assumption)).trans (by assumption); exact (World.cell?_alloc_lt _ _ ⟨S, 3, none⟩ (by assumption)).trans (by assumption); exact (World.cell?_alloc_lt _ _ ⟨S, 4, none⟩ (by assumption)).trans (by assumption); exact (World.cell?_alloc_lt _ _ ⟨S, 5, none⟩ (by assumption)).trans (by assumption); exact (World.cell?_alloc_lt _ _ ⟨K, 0, none⟩ (by assumption)).trans (by assumption); exact (World.cell?_alloc_lt _ _ ⟨K, 1, none⟩ (by assumption)).trans (by assumption); exact (World.cell?_alloc_lt _ _ ⟨F, 0, none⟩ (by assumption)).trans (by assumption); exact (World.cell?_alloc_lt _ _ ⟨F, 1, none⟩ (by assumption)).trans (by assumption); exact (World.cell?_alloc_lt _ _ ⟨F, 2, none⟩ (by assumption)).trans (by assumption); exact (World.cell?_alloc_lt _ _ ⟨F, 3, none⟩ (by assumption)).trans (by assumption); (simp; omega); (simp; omega); (simp; omega); (simp; omega); exact cv_of ((World.cell?_alloc_lt _ _ ⟨R, 0, none⟩ (by assumption)).trans (by assumption)); exact cv_of ((World.cell?_alloc_lt _ _ ⟨R, 1, none⟩ (by assumption)).trans (by assumption)); exact cv_of ((World.cell?_alloc_lt _ _ ⟨R, 2, none⟩ (by assumption)).trans (by assumption)); exact (World.frozen?_of_block (a := ⟨R, 0, none⟩) (((Below.refl _ _).alloc (Nat.le_refl _) _).block R (by assumption))).trans (by assumption); exact (World.frozen?_of_block (a := ⟨R, 1, none⟩) (((Below.refl _ _).alloc (Nat.le_refl _) _).block R (by assumption))).trans (by assumption); exact (World.frozen?_of_block (a := ⟨R, 2, none⟩) (((Below.refl _ _).alloc (Nat.le_refl _) _).block R (by assumption))).trans (by assumption); exact Below.alloc (by assumption) (by first | exact Nat.le_of_lt (by assumption) | exact Below.size (by assumption)) _)
      | (go_split_ands; refine ⟨?_, ?_, ?_, ?_, ?_, ?_, ?_, ?_, ?_, ?_, ?_, ?_, ?_, ?_, ?_, ?_, ?_, ?_, ?_, ?_, ?_, ?_, ?_⟩; assumption; assumption; assumption; assumption; assumption; assumption; assumption; assumption; assumption; assumption; assumption; assumption; assumption; assumption; assumption; assumption; assumption; assumption; assumption; assumption; assumption; assumption; assumption)
      | go_keep)
    ((first
      | (go_at_call 26
         go_split_ands
         with_reducible refine (M.out _).mono ?_
         rintro e5 w5 ⟨rfl, hb5⟩)
      | (go_at_call 25
         go_split_ands
         with_reducible refine (cutI 12 6 _ _ ?_).mono ?_
         · decide
         rintro e5 w5 ⟨rfl, hb5⟩)
      | (go_at_call 25
         go_split_ands
         with_reducible refine (cutI 0 12 _ _ ?_).mono ?_
         · decide
         rintro e5 w5 ⟨rfl, hb5⟩)))
  all_goals
    go_split_ands
    go_wp2_with fail
    have T := set3 (R := R) (by assumption) (by assumption) (by assumption)
    obtain ⟨t0, t1, t2⟩ := T
    refine at_world (fun w9 => w9.cell? ⟨R, 0, none⟩ = some (.int .i64 e) ∧ w9.cell? ⟨R, 1, none⟩ = some (.int .i64 (xr (x % 64) (W7 k kd f 64 e % 64))) ∧ w9.cell? ⟨R, 2, none⟩ = some (.int .i64 (W7 k kd f x e % 4096)) ∧ Below S w w9) ⟨t0, t1.trans (by rw [hx.out]), t2.trans (by rw [hy.out]), by assumption⟩ ?_
    clear t0 t1 t2
    rintro w9 ⟨t0, t1, t2, hb9⟩
    refine bodyPost_ret (v := .agg #[.int .i64 e, .int .i64 (xr (x % 64) (W7 k kd f 64 e % 64)), .int .i64 (W7 k kd f x e % 4096)]) (by simp [results, Try.results20, go_sem, t0, t1, t2]) rfl ⟨rfl, ?_⟩
    rw [hK]
    exact hb9
set_option maxHeartbeats 8000000 in
theorem made2 (k : Ky) (kd : Int) (f : Fl) (x e : Int) (hf : f.I) (hk : I64 kd) (hx : I64 x) (he : I64 e) (w : World) :
    Calls Try.prog 20 #[shV 256, kyV k, .int .i64 kd, flV f, .int .i64 x, .int .i64 e] w fun e' w' => e' = .returned (ptV e (xr (x % 64) (W7 k kd f 64 e % 64)) (W7 k kd f x e % 256)) ∧ Below w.heap.size w w' := by
  have hI := seven_I hf hk hx he
  rw [shV2]
  unfold kyV flV ptV
  go_enter Try.func20, Try.ntmps20
  go_wp2_with fail
  have dS : w.heap.size + 1 + 1 + 1 ≠ w.heap.size := by omega
  have dK : w.heap.size + 1 + 1 + 1 ≠ w.heap.size + 1 := by omega
  have dF : w.heap.size + 1 + 1 + 1 ≠ w.heap.size + 1 + 1 := by omega
  have lR : w.heap.size ≤ w.heap.size + 1 + 1 + 1 := by omega
  have CS := Ce.made (w := w) (l := [.int .u64 14, .int .u64 2, .int .u64 8, .int .u64 6, .int .u64 0, .int .u64 8]) (T := 50) (g := w.heap.size) rfl
  replace CS := CS.alloc (.cells #[.int .u64 k.a, .int .u64 k.b] 25)
  have CK := Ce.made (w := (w.alloc (.cells #[.int .u64 14, .int .u64 2, .int .u64 8, .int .u64 6, .int .u64 0, .int .u64 8] 50))) (l := [.int .u64 k.a, .int .u64 k.b]) (T := 25) (g := w.heap.size + 1) (by simp)
  replace CS := CS.alloc (.cells #[.int .i64 f.a, .int .i64 f.p, .int .i64 f.ta, .int .i64 f.tp] 30)
  replace CK := CK.alloc (.cells #[.int .i64 f.a, .int .i64 f.p, .int .i64 f.ta, .int .i64 f.tp] 30)
  have CF := Ce.made (w := ((w.alloc (.cells #[.int .u64 14, .int .u64 2, .int .u64 8, .int .u64 6, .int .u64 0, .int .u64 8] 50)).alloc (.cells #[.int .u64 k.a, .int .u64 k.b] 25))) (l := [.int .i64 f.a, .int .i64 f.p, .int .i64 f.ta, .int .i64 f.tp]) (T := 30) (g := w.heap.size + 1 + 1) (by simp)
  replace CS := CS.alloc (.cells #[.int .i64 0, .int .i64 0, .int .i64 0] 54)
  replace CK := CK.alloc (.cells #[.int .i64 0, .int .i64 0, .int .i64 0] 54)
  replace CF := CF.alloc (.cells #[.int .i64 0, .int .i64 0, .int .i64 0] 54)
  have CR := Ce.made (w := (((w.alloc (.cells #[.int .u64 14, .int .u64 2, .int .u64 8, .int .u64 6, .int .u64 0, .int .u64 8] 50)).alloc (.cells #[.int .u64 k.a, .int .u64 k.b] 25)).alloc (.cells #[.int .i64 f.a, .int .i64 f.p, .int .i64 f.ta, .int .i64 f.tp] 30))) (l := [.int .i64 0, .int .i64 0, .int .i64 0]) (T := 54) (g := w.heap.size + 1 + 1 + 1) (by simp)
  replace CS := CS.alloc (.cells #[.int .i64 kd, .int .i64 f.a, .int .i64 f.p, .int .i64 f.ta, .int .i64 f.tp, .int .i64 x, .int .i64 e] 3)
  replace CK := CK.alloc (.cells #[.int .i64 kd, .int .i64 f.a, .int .i64 f.p, .int .i64 f.ta, .int .i64 f.tp, .int .i64 x, .int .i64 e] 3)
  replace CF := CF.alloc (.cells #[.int .i64 kd, .int .i64 f.a, .int .i64 f.p, .int .i64 f.ta, .int .i64 f.tp, .int .i64 x, .int .i64 e] 3)
  replace CR := CR.alloc (.cells #[.int .i64 kd, .int .i64 f.a, .int .i64 f.p, .int .i64 f.ta, .int .i64 f.tp, .int .i64 x, .int .i64 e] 3)
  have CX := Ce.made (w := ((((w.alloc (.cells #[.int .u64 14, .int .u64 2, .int .u64 8, .int .u64 6, .int .u64 0, .int .u64 8] 50)).alloc (.cells #[.int .u64 k.a, .int .u64 k.b] 25)).alloc (.cells #[.int .i64 f.a, .int .i64 f.p, .int .i64 f.ta, .int .i64 f.tp] 30)).alloc (.cells #[.int .i64 0, .int .i64 0, .int .i64 0] 54))) (l := [.int .i64 kd, .int .i64 f.a, .int .i64 f.p, .int .i64 f.ta, .int .i64 f.tp, .int .i64 x, .int .i64 e]) (T := 3) (g := w.heap.size + 1 + 1 + 1 + 1) (by simp)
  have B : Below w.heap.size w (((((w.alloc (.cells #[.int .u64 14, .int .u64 2, .int .u64 8, .int .u64 6, .int .u64 0, .int .u64 8] 50)).alloc (.cells #[.int .u64 k.a, .int .u64 k.b] 25)).alloc (.cells #[.int .i64 f.a, .int .i64 f.p, .int .i64 f.ta, .int .i64 f.tp] 30)).alloc (.cells #[.int .i64 0, .int .i64 0, .int .i64 0] 54)).alloc (.cells #[.int .i64 kd, .int .i64 f.a, .int .i64 f.p, .int .i64 f.ta, .int .i64 f.tp, .int .i64 x, .int .i64 e] 3)) := ((((((Below.refl w.heap.size w).alloc (by first | exact Nat.le_refl _ | (simp; done) | (simp; omega)) (.cells #[.int .u64 14, .int .u64 2, .int .u64 8, .int .u64 6, .int .u64 0, .int .u64 8] 50)).alloc (by first | exact Nat.le_refl _ | (simp; done) | (simp; omega)) (.cells #[.int .u64 k.a, .int .u64 k.b] 25)).alloc (by first | exact Nat.le_refl _ | (simp; done) | (simp; omega)) (.cells #[.int .i64 f.a, .int .i64 f.p, .int .i64 f.ta, .int .i64 f.tp] 30)).alloc (by first | exact Nat.le_refl _ | (simp; done) | (simp; omega)) (.cells #[.int .i64 0, .int .i64 0, .int .i64 0] 54)).alloc (by first | exact Nat.le_refl _ | (simp; done) | (simp; omega)) (.cells #[.int .i64 kd, .int .i64 f.a, .int .i64 f.p, .int .i64 f.ta, .int .i64 f.tp, .int .i64 x, .int .i64 e] 3))
  generalize ((((w.alloc (.cells #[.int .u64 14, .int .u64 2, .int .u64 8, .int .u64 6, .int .u64 0, .int .u64 8] 50)).alloc (.cells #[.int .u64 k.a, .int .u64 k.b] 25)).alloc (.cells #[.int .i64 f.a, .int .i64 f.p, .int .i64 f.ta, .int .i64 f.tp] 30)).alloc (.cells #[.int .i64 0, .int .i64 0, .int .i64 0] 54)).alloc (.cells #[.int .i64 kd, .int .i64 f.a, .int .i64 f.p, .int .i64 f.ta, .int .i64 f.tp, .int .i64 x, .int .i64 e] 3) = w1 at *
  generalize w.heap.size + 1 + 1 + 1 + 1 = X at *
  generalize w.heap.size + 1 + 1 + 1 = R at *
  generalize w.heap.size + 1 + 1 = F at *
  generalize w.heap.size + 1 = K at *
  generalize hK : w.heap.size = S at *
  refine (re_u64 (words_any k.a k.b (some ⟨X, 0, none⟩) 7 7 _ w1 (Ce.sl [kd, f.a, f.p, f.ta, f.tp, x, e] CX) hI (by omega)) (show _ = W7 k kd f x e from rfl)).mono ?_
  rintro e' w2 ⟨rfl, hb⟩
  replace B := B.trans (hb.mono (Nat.le_of_lt CS.1))
  replace CS := CS.below hb
  replace CK := CK.below hb
  replace CF := CF.below hb
  replace CR := CR.below hb
  clear CX hb
  obtain ⟨kS, qS, zS⟩ := CS
  have cS0 := qS 0 _ rfl
  have cS1 := qS 1 _ rfl
  have cS2 := qS 2 _ rfl
  have cS3 := qS 3 _ rfl
  have cS4 := qS 4 _ rfl
  have cS5 := qS 5 _ rfl
  clear qS zS
  obtain ⟨kK, qK, zK⟩ := CK
  have cK0 := qK 0 _ rfl
  have cK1 := qK 1 _ rfl
  clear qK zK
  obtain ⟨kF, qF, zF⟩ := CF
  have cF0 := qF 0 _ rfl
  have cF1 := qF 1 _ rfl
  have cF2 := qF 2 _ rfl
  have cF3 := qF 3 _ rfl
  clear qF zF
  obtain ⟨kR, qR, zR⟩ := CR
  have cR0 := qR 0 _ rfl
  have cR1 := qR 1 _ rfl
  have cR2 := qR 2 _ rfl
  have zR0 := zR 0
  have zR1 := zR 1
  have zR2 := zR 2
  clear qR zR
  have hx : Hid (bits .xor .i64 x (wrap64 (W7 k kd f 64 e)) % 64 = xr (x % 64) (W7 k kd f 64 e % 64)) := by
    unfold Hid
    rw [xor64, show wrap64 (W7 k kd f 64 e) % 64 = W7 k kd f 64 e % 64 from w64_mod _ 6 (by omega)]
  have hy : Hid (IntKind.i64.wrap (W7 k kd f x e) % 256 = W7 k kd f x e % 256) := wrap_mod _ 8 (by omega)
  have M := mask_any k kd f e hf hk he
  unfold kyV flV at M
  replace M := hid M
  go_wp2_with fail
  replace cR0 := cv_of cR0
  replace cR1 := cv_of cR1
  replace cR2 := cv_of cR2
  go_region_held3 (fun w' => w'.cell? ⟨S, 0, none⟩ = some (.int .u64 14) ∧ w'.cell? ⟨S, 1, none⟩ = some (.int .u64 2) ∧ w'.cell? ⟨S, 2, none⟩ = some (.int .u64 8) ∧ w'.cell? ⟨S, 3, none⟩ = some (.int .u64 6) ∧ w'.cell? ⟨S, 4, none⟩ = some (.int .u64 0) ∧ w'.cell? ⟨S, 5, none⟩ = some (.int .u64 8) ∧ w'.cell? ⟨K, 0, none⟩ = some (.int .u64 k.a) ∧ w'.cell? ⟨K, 1, none⟩ = some (.int .u64 k.b) ∧ w'.cell? ⟨F, 0, none⟩ = some (.int .i64 f.a) ∧ w'.cell? ⟨F, 1, none⟩ = some (.int .i64 f.p) ∧ w'.cell? ⟨F, 2, none⟩ = some (.int .i64 f.ta) ∧ w'.cell? ⟨F, 3, none⟩ = some (.int .i64 f.tp) ∧ S < w'.heap.size ∧ K < w'.heap.size ∧ F < w'.heap.size ∧ R < w'.heap.size ∧ w'.cell? ⟨R, 0, none⟩ = some (cv w' R 0) ∧ w'.cell? ⟨R, 1, none⟩ = some (cv w' R 1) ∧ w'.cell? ⟨R, 2, none⟩ = some (cv w' R 2) ∧ w'.frozen? ⟨R, 0, none⟩ = false ∧ w'.frozen? ⟨R, 1, none⟩ = false ∧ w'.frozen? ⟨R, 2, none⟩ = false ∧ Below S w w')
    (first
      | (go_split_ands; refine ⟨?_, ?_, ?_, ?_, ?_, ?_, ?_, ?_, ?_, ?_, ?_, ?_, ?_, ?_, ?_, ?_, ?_, ?_, ?_, ?_, ?_, ?_, ?_⟩; with_reducible exact ((World.cell?_setCell_far _ _ _ _ dS).trans ((World.cell?_setCell_far _ _ _ _ dS).trans ((World.cell?_setCell_far _ _ _ _ dS).trans (by assumption)))); with_reducible exact ((World.cell?_setCell_far _ _ _ _ dS).trans ((World.cell?_setCell_far _ _ _ _ dS).trans ((World.cell?_setCell_far _ _ _ _ dS).trans (by assumption)))); with_reducible exact ((World.cell?_setCell_far _ _ _ _ dS).trans ((World.cell?_setCell_far _ _ _ _ dS).trans ((World.cell?_setCell_far _ _ _ _ dS).trans (by assumption)))); with_reducible exact ((World.cell?_setCell_far _ _ _ _ dS).trans ((World.cell?_setCell_far _ _ _ _ dS).trans ((World.cell?_setCell_far _ _ _ _ dS).trans (by assumption)))); with_reducible exact ((World.cell?_setCell_far _ _ _ _ dS).trans ((World.cell?_setCell_far _ _ _ _ dS).trans ((World.cell?_setCell_far _ _ _ _ dS).trans (by assumption)))); with_reducible exact ((World.cell?_setCell_far _ _ _ _ dS).trans ((World.cell?_setCell_far _ _ _ _ dS).trans ((World.cell?_setCell_far _ _ _ _ dS).trans (by assumption)))); with_reducible exact ((World.cell?_setCell_far _ _ _ _ dK).trans ((World.cell?_setCell_far _ _ _ _ dK).trans ((World.cell?_setCell_far _ _ _ _ dK).trans (by assumption)))); with_reducible exact ((World.cell?_setCell_far _ _ _ _ dK).trans ((World.cell?_setCell_far _ _ _ _ dK).trans ((World.cell?_setCell_far _ _ _ _ dK).trans (by assumption)))); with_reducible exact ((World.cell?_setCell_far _ _ _ _ dF).trans ((World.cell?_setCell_far _ _ _ _ dF).trans ((World.cell?_setCell_far _ _ _ _ dF).trans (by assumption)))); with_reducible exact ((World.cell?_setCell_far _ _ _ _ dF).trans ((World.cell?_setCell_far _ _ _ _ dF).trans ((World.cell?_setCell_far _ _ _ _ dF).trans (by assumption)))); with_reducible exact ((World.cell?_setCell_far _ _ _ _ dF).trans ((World.cell?_setCell_far _ _ _ _ dF).trans ((World.cell?_setCell_far _ _ _ _ dF).trans (by assumption)))); with_reducible exact ((World.cell?_setCell_far _ _ _ _ dF).trans ((World.cell?_setCell_far _ _ _ _ dF).trans ((World.cell?_setCell_far _ _ _ _ dF).trans (by assumption)))); with_reducible exact Nat.lt_of_lt_of_le (by assumption) (Below.setCell (Below.setCell (Below.setCell (Below.refl 0 _) (Nat.zero_le _) _) (Nat.zero_le _) _) (Nat.zero_le _) _).size; with_reducible exact Nat.lt_of_lt_of_le (by assumption) (Below.setCell (Below.setCell (Below.setCell (Below.refl 0 _) (Nat.zero_le _) _) (Nat.zero_le _) _) (Nat.zero_le _) _).size; with_reducible exact Nat.lt_of_lt_of_le (by assumption) (Below.setCell (Below.setCell (Below.setCell (Below.refl 0 _) (Nat.zero_le _) _) (Nat.zero_le _) _) (Nat.zero_le _) _).size; with_reducible exact Nat.lt_of_lt_of_le (by assumption) (Below.setCell (Below.setCell (Below.setCell (Below.refl 0 _) (Nat.zero_le _) _) (Nat.zero_le _) _) (Nat.zero_le _) _).size; with_reducible exact (cv_set (cv_set (cv_set (by assumption)))); with_reducible exact (cv_set (cv_set (cv_set (by assumption)))); with_reducible exact (cv_set (cv_set (cv_set (by assumption)))); (simp only [World.frozen?_setCell]; assumption); (simp only [World.frozen?_setCell]; assumption); (simp only [World.frozen?_setCell]; assumption); with_reducible exact (Below.setCell (Below.setCell (Below.setCell (by assumption) lR _) lR _) lR _))
      | (go_split_ands; refine ⟨?_, ?_, ?_, ?_, ?_, ?_, ?_, ?_, ?_, ?_, ?_, ?_, ?_, ?_, ?_, ?_, ?_, ?_, ?_, ?_, ?_, ?_, ?_⟩; exact (hb5.cell (p := ⟨S, 0, none⟩) (by assumption)).trans (by assumption); exact (hb5.cell (p := ⟨S, 1, none⟩) (by assumption)).trans (by assumption); exact (hb5.cell (p := ⟨S, 2, none⟩) (by assumption)).trans (by assumption); exact (hb5.cell (p := ⟨S, 3, none⟩) (by assumption)).trans (by assumption); exact (hb5.cell (p := ⟨S, 4, none⟩) (by assumption)).trans (by assumption); exact (hb5.cell (p := ⟨S, 5, none⟩) (by assumption)).trans (by assumption); exact (hb5.cell (p := ⟨K, 0, none⟩) (by assumption)).trans (by assumption); exact (hb5.cell (p := ⟨K, 1, none⟩) (by assumption)).trans (by assumption); exact (hb5.cell (p := ⟨F, 0, none⟩) (by assumption)).trans (by assumption); exact (hb5.cell (p := ⟨F, 1, none⟩) (by assumption)).trans (by assumption); exact (hb5.cell (p := ⟨F, 2, none⟩) (by assumption)).trans (by assumption); exact (hb5.cell (p := ⟨F, 3, none⟩) (by assumption)).trans (by assumption); exact Nat.lt_of_lt_of_le (by assumption) hb5.size; exact Nat.lt_of_lt_of_le (by assumption) hb5.size; exact Nat.lt_of_lt_of_le (by assumption) hb5.size; exact Nat.lt_of_lt_of_le (by assumption) hb5.size; exact cv_of ((hb5.cell (p := ⟨R, 0, none⟩) (by assumption)).trans (by assumption)); exact cv_of ((hb5.cell (p := ⟨R, 1, none⟩) (by assumption)).trans (by assumption)); exact cv_of ((hb5.cell (p := ⟨R, 2, none⟩) (by assumption)).trans (by assumption)); exact (World.frozen?_of_block (a := ⟨R, 0, none⟩) (hb5.block R (by assumption))).trans (by assumption); exact (World.frozen?_of_block (a := ⟨R, 1, none⟩) (hb5.block R (by assumption))).trans (by assumption); exact (World.frozen?_of_block (a := ⟨R, 2, none⟩) (hb5.block R (by assumption))).trans (by assumption); exact Below.trans (by assumption) (hb5.mono (by first | exact Nat.le_of_lt (by assumption) | exact Below.size (by assumption))))
      | (refine ⟨?_, ?_, ?_, ?_, ?_, ?_, ?_, ?_, ?_, ?_, ?_, ?_, ?_, ?_, ?_, ?_, ?_, ?_, ?_, ?_, ?_, ?_, ?_⟩; assumption; assumption; assumption; assumption; assumption; assumption; assumption; assumption; assumption; assumption; assumption; assumption; assumption; assumption; assumption; assumption; assumption; assumption; assumption; assumption; assumption; assumption; exact Below.drew (by assumption))
      | (go_split_ands; refine ⟨?_, ?_, ?_, ?_, ?_, ?_, ?_, ?_, ?_, ?_, ?_, ?_, ?_, ?_, ?_, ?_, ?_, ?_, ?_, ?_, ?_, ?_, ?_⟩; exact (World.cell?_alloc_lt _ _ ⟨S, 0, none⟩ (by assumption)).trans (by assumption); exact (World.cell?_alloc_lt _ _ ⟨S, 1, none⟩ (by assumption)).trans (by assumption); exact (World.cell?_alloc_lt _ _ ⟨S, 2, none⟩ (by assumption)).trans (by assumption); exact (World.cell?_alloc_lt _ _ ⟨S, 3, none⟩ (by assumption)).trans (by assumption); exact (World.cell?_alloc_lt _ _ ⟨S, 4, none⟩ (by assumption)).trans (by assumption); exact (World.cell?_alloc_lt _ _ ⟨S, 5, none⟩ (by assumption)).trans (by assumption); exact (World.cell?_alloc_lt _ _ ⟨K, 0, none⟩ (by assumption)).trans (by assumption); exact (World.cell?_alloc_lt _ _ ⟨K, 1, none⟩ (by assumption)).trans (by assumption); exact (World.cell?_alloc_lt _ _ ⟨F, 0, none⟩ (by assumption)).trans (by assumption); exact (World.cell?_alloc_lt _ _ ⟨F, 1, none⟩ (by assumption)).trans (by assumption); exact (World.cell?_alloc_lt _ _ ⟨F, 2, none⟩ (by assumption)).trans (by assumption); exact (World.cell?_alloc_lt _ _ ⟨F, 3, none⟩ (by assumption)).trans (by assumption); (simp; omega); (simp; omega); (simp; omega); (simp; omega); exact cv_of ((World.cell?_alloc_lt _ _ ⟨R, 0, none⟩ (by assumption)).trans (by assumption)); exact cv_of ((World.cell?_alloc_lt _ _ ⟨R, 1, none⟩ (by assumption)).trans (by assumption)); exact cv_of ((World.cell?_alloc_lt _ _ ⟨R, 2, none⟩ (by assumption)).trans (by assumption)); exact (World.frozen?_of_block (a := ⟨R, 0, none⟩) (((Below.refl _ _).alloc (Nat.le_refl _) _).block R (by assumption))).trans (by assumption); exact (World.frozen?_of_block (a := ⟨R, 1, none⟩) (((Below.refl _ _).alloc (Nat.le_refl _) _).block R (by assumption))).trans (by assumption); exact (World.frozen?_of_block (a := ⟨R, 2, none⟩) (((Below.refl _ _).alloc (Nat.le_refl _) _).block R (by assumption))).trans (by assumption); exact Below.alloc (by assumption) (by first | exact Nat.le_of_lt (by assumption) | exact Below.size (by assumption)) _)
      | (go_split_ands; refine ⟨?_, ?_, ?_, ?_, ?_, ?_, ?_, ?_, ?_, ?_, ?_, ?_, ?_, ?_, ?_, ?_, ?_, ?_, ?_, ?_, ?_, ?_, ?_⟩; assumption; assumption; assumption; assumption; assumption; assumption; assumption; assumption; assumption; assumption; assumption; assumption; assumption; assumption; assumption; assumption; assumption; assumption; assumption; assumption; assumption; assumption; assumption)
      | go_keep)
    ((first
      | (go_at_call 26
         go_split_ands
         with_reducible refine (M.out _).mono ?_
         rintro e5 w5 ⟨rfl, hb5⟩)
      | (go_at_call 25
         go_split_ands
         with_reducible refine (cutI 8 6 _ _ ?_).mono ?_
         · decide
         rintro e5 w5 ⟨rfl, hb5⟩)
      | (go_at_call 25
         go_split_ands
         with_reducible refine (cutI 0 8 _ _ ?_).mono ?_
         · decide
         rintro e5 w5 ⟨rfl, hb5⟩)))
  all_goals
    go_split_ands
    go_wp2_with fail
    have T := set3 (R := R) (by assumption) (by assumption) (by assumption)
    obtain ⟨t0, t1, t2⟩ := T
    refine at_world (fun w9 => w9.cell? ⟨R, 0, none⟩ = some (.int .i64 e) ∧ w9.cell? ⟨R, 1, none⟩ = some (.int .i64 (xr (x % 64) (W7 k kd f 64 e % 64))) ∧ w9.cell? ⟨R, 2, none⟩ = some (.int .i64 (W7 k kd f x e % 256)) ∧ Below S w w9) ⟨t0, t1.trans (by rw [hx.out]), t2.trans (by rw [hy.out]), by assumption⟩ ?_
    clear t0 t1 t2
    rintro w9 ⟨t0, t1, t2, hb9⟩
    refine bodyPost_ret (v := .agg #[.int .i64 e, .int .i64 (xr (x % 64) (W7 k kd f 64 e % 64)), .int .i64 (W7 k kd f x e % 256)]) (by simp [results, Try.results20, go_sem, t0, t1, t2]) rfl ⟨rfl, ?_⟩
    rw [hK]
    exact hb9

end Go.Proofs.Ytfokkmemjkfifab
