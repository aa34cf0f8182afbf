/- New, of both packages. -/
import Derived.Test.YteefhiniamajkaaGreatPolApp3
import Derived.BigQuiet
import Derived.Deep.RegionHeld3
import Derived.Deep.Cut
namespace Go.Proofs.YteefhiniamajkaaGreat
set_option linter.unusedVariables false
set_option linter.unusedSimpArgs false
open Go.RowKit Go.ChangeShapes Go.WideShapes Go.ChangeAt

theorem build_plA (a p : Int) (r : Rg) (w : World) : (Instr.build 33 #[(1, .int .i64 a), (2, .int .i64 p), (4, rgV r)]).run Tryz.prog w = .ok (.agg (PA ⟨0, a, p, fun _ => zSp, r⟩)) w := build_pl a p r w
theorem pa_new (a q a1 b1 a2 b2 : Int) : ((((((((((PA zPl).setIfInBounds 1 (.int .i64 a)).setIfInBounds 2 (.int .i64 q)).setIfInBounds 323 (.int .i64 1)).setIfInBounds 324 (.int .u64 0)).setIfInBounds 325 (.int .u64 0)).setIfInBounds 326 (.int .u64 a1)).setIfInBounds 327 (.int .u64 b1)).setIfInBounds 328 (.int .u64 a2)).setIfInBounds 329 (.int .u64 b2)) = PA ⟨0, a, q, fun _ => zSp, ⟨1, zKy, ⟨a1, b1⟩, ⟨a2, b2⟩⟩⟩ := by kernel_rfl
/-- What New tells. -/
def nwR (a q : Int) (k1 k2 : Ky) : Pl × Int := bif mayB a q then (⟨0, a, q, fun _ => zSp, ⟨1, zKy, k1, k2⟩⟩, 0) else (zPl, 14)
attribute [local irreducible] PA
set_option maxRecDepth 100000 in
set_option maxHeartbeats 4000000 in
theorem rnew_any (a q : Int) (k1 k2 : Ky) (w : World) : Calls Tryz.prog 18 #[.int .i64 a, .int .i64 q, kyV k1, kyV k2] w fun x w' => x = .returned (.tuple #[plV (nwR a q k1 k2).1, .int .i64 (nwR a q k1 k2).2]) ∧ Below w.heap.size w w' := by
  have hz : ∀ w : World, (zeroValue 33).run Tryz.prog w = .ok (.agg (PA zPl)) w := fun w => zero_pl w
  have hz1 := pa_size zPl
  have hz2 := pa_ne zPl
  obtain ⟨a1, b1⟩ := k1
  obtain ⟨a2, b2⟩ := k2
  unfold plV nwR kyV mayB
  have O1 := hid (fun w => rout_any a 0 4294967295 w)
  have O2 := hid (fun w => rout_any q 0 65535 w)
  generalize inR a 0 4294967295 = m1 at *
  generalize inR q 0 65535 = m2 at *
  cases m1
  · go_enter Tryz.func18, Tryz.ntmps18
    go_upto_region 1 with (fail)
    have K1 := hid (((Ce.made (w := w) (l := [.int .u64 a1, .int .u64 b1]) (T := 29) (g := w.heap.size) rfl).alloc (.cells #[.int .u64 a2, .int .u64 b2] 29)).alloc (.cells (PA zPl) 33))
    have K2 := hid ((Ce.made (w := (w.alloc (.cells #[.int .u64 a1, .int .u64 b1] 29))) (l := [.int .u64 a2, .int .u64 b2]) (T := 29) (g := w.heap.size + 1) (by simp)).alloc (.cells (PA zPl) 33))
    have R1 := hid (PoolAt.made (w := ((w.alloc (.cells #[.int .u64 a1, .int .u64 b1] 29)).alloc (.cells #[.int .u64 a2, .int .u64 b2] 29))) (p := zPl) (T := 33) (g := w.heap.size + 1 + 1) (by simp))
    have B1 := hid ((((Below.refl w.heap.size w).alloc (Nat.le_refl _) (.cells #[.int .u64 a1, .int .u64 b1] 29)).alloc (by simp) (.cells #[.int .u64 a2, .int .u64 b2] 29)).alloc (by simp; omega) (.cells (PA zPl) 33))
    have lR : w.heap.size ≤ w.heap.size + 1 + 1 := by omega
    generalize ((w.alloc (.cells #[.int .u64 a1, .int .u64 b1] 29)).alloc (.cells #[.int .u64 a2, .int .u64 b2] 29)).alloc (.cells (PA zPl) 33) = w1 at *
    generalize w.heap.size + 1 + 1 = R at *
    generalize w.heap.size + 1 = E at *
    generalize hK : w.heap.size = P at *
    have HK := hid hK
    clear hK
    go_wp2_with fail
    refine (O1.out _).mono ?_
    rintro x w' ⟨rfl, rfl⟩
    have SR := hid (R1.out.storeA zPl)
    go_upto_region 2 with (fail)
    go_wp2_with (first | ((with_reducible refine wl_id ?_); refine wl_build0 rfl rfl (build_zz _) ?_) | ((with_reducible refine wl_id ?_); refine wl_store rfl rfl rfl rfl SR.out ?_; refine wl_val rfl rfl ?_; refine end_then ?_; apply_assumption; refine wp_ret ?_; (repeat refine ret_then ?_); (show bodyPost _ _ _ _ _ _); refine bodyPost_ret (v := .tuple #[.agg (PA zPl), .int .i64 14]) (results_c2 Tryz.results18 _ rfl rfl (R1.out.whole zPl)) rfl ⟨rfl, by rw [HK.out]; exact B1.out.trans (keeps_setCells R (PA zPl).toList 0 w1 P lR)⟩))
  · cases m2
    · go_enter Tryz.func18, Tryz.ntmps18
      go_upto_region 1 with (fail)
      have K1 := hid (((Ce.made (w := w) (l := [.int .u64 a1, .int .u64 b1]) (T := 29) (g := w.heap.size) rfl).alloc (.cells #[.int .u64 a2, .int .u64 b2] 29)).alloc (.cells (PA zPl) 33))
      have K2 := hid ((Ce.made (w := (w.alloc (.cells #[.int .u64 a1, .int .u64 b1] 29))) (l := [.int .u64 a2, .int .u64 b2]) (T := 29) (g := w.heap.size + 1) (by simp)).alloc (.cells (PA zPl) 33))
      have R1 := hid (PoolAt.made (w := ((w.alloc (.cells #[.int .u64 a1, .int .u64 b1] 29)).alloc (.cells #[.int .u64 a2, .int .u64 b2] 29))) (p := zPl) (T := 33) (g := w.heap.size + 1 + 1) (by simp))
      have B1 := hid ((((Below.refl w.heap.size w).alloc (Nat.le_refl _) (.cells #[.int .u64 a1, .int .u64 b1] 29)).alloc (by simp) (.cells #[.int .u64 a2, .int .u64 b2] 29)).alloc (by simp; omega) (.cells (PA zPl) 33))
      have lR : w.heap.size ≤ w.heap.size + 1 + 1 := by omega
      generalize ((w.alloc (.cells #[.int .u64 a1, .int .u64 b1] 29)).alloc (.cells #[.int .u64 a2, .int .u64 b2] 29)).alloc (.cells (PA zPl) 33) = w1 at *
      generalize w.heap.size + 1 + 1 = R at *
      generalize w.heap.size + 1 = E at *
      generalize hK : w.heap.size = P at *
      have HK := hid hK
      clear hK
      go_wp2_with fail
      refine (O1.out _).mono ?_
      rintro x w' ⟨rfl, rfl⟩
      go_wp2_with fail
      refine (O2.out _).mono ?_
      rintro x w' ⟨rfl, rfl⟩
      have SR := hid (R1.out.storeA zPl)
      go_upto_region 2 with (fail)
      go_wp2_with (first | ((with_reducible refine wl_id ?_); refine wl_build0 rfl rfl (build_zz _) ?_) | ((with_reducible refine wl_id ?_); refine wl_store rfl rfl rfl rfl SR.out ?_; refine wl_val rfl rfl ?_; refine end_then ?_; apply_assumption; refine wp_ret ?_; (repeat refine ret_then ?_); (show bodyPost _ _ _ _ _ _); refine bodyPost_ret (v := .tuple #[.agg (PA zPl), .int .i64 14]) (results_c2 Tryz.results18 _ rfl rfl (R1.out.whole zPl)) rfl ⟨rfl, by rw [HK.out]; exact B1.out.trans (keeps_setCells R (PA zPl).toList 0 w1 P lR)⟩))
    · go_enter Tryz.func18, Tryz.ntmps18
      go_upto_region 1 with (fail)
      have K1 := hid (((Ce.made (w := w) (l := [.int .u64 a1, .int .u64 b1]) (T := 29) (g := w.heap.size) rfl).alloc (.cells #[.int .u64 a2, .int .u64 b2] 29)).alloc (.cells (PA zPl) 33))
      have K2 := hid ((Ce.made (w := (w.alloc (.cells #[.int .u64 a1, .int .u64 b1] 29))) (l := [.int .u64 a2, .int .u64 b2]) (T := 29) (g := w.heap.size + 1) (by simp)).alloc (.cells (PA zPl) 33))
      have R1 := hid (PoolAt.made (w := ((w.alloc (.cells #[.int .u64 a1, .int .u64 b1] 29)).alloc (.cells #[.int .u64 a2, .int .u64 b2] 29))) (p := zPl) (T := 33) (g := w.heap.size + 1 + 1) (by simp))
      have B1 := hid ((((Below.refl w.heap.size w).alloc (Nat.le_refl _) (.cells #[.int .u64 a1, .int .u64 b1] 29)).alloc (by simp) (.cells #[.int .u64 a2, .int .u64 b2] 29)).alloc (by simp; omega) (.cells (PA zPl) 33))
      have lR : w.heap.size ≤ w.heap.size + 1 + 1 := by omega
      generalize ((w.alloc (.cells #[.int .u64 a1, .int .u64 b1] 29)).alloc (.cells #[.int .u64 a2, .int .u64 b2] 29)).alloc (.cells (PA zPl) 33) = w1 at *
      generalize w.heap.size + 1 + 1 = R at *
      generalize w.heap.size + 1 = E at *
      generalize hK : w.heap.size = P at *
      have HK := hid hK
      clear hK
      go_wp2_with fail
      refine (O1.out _).mono ?_
      rintro x w' ⟨rfl, rfl⟩
      go_wp2_with fail
      refine (O2.out _).mono ?_
      rintro x w' ⟨rfl, rfl⟩
      go_upto_region 3 with (fail)
      have L1 := K2
      clear K2
      have x0 := K1.out.2.1 0 _ rfl
      have x1 := K1.out.2.1 1 _ rfl
      have y0 := L1.out.2.1 0 _ rfl
      have y1 := L1.out.2.1 1 _ rfl
      go_wp2_with fail
      clear x0 x1 y0 y1
      have CX := Ce.made (w := w1) (l := [.int .u64 0, .int .u64 0, .int .u64 a1, .int .u64 b1, .int .u64 a2, .int .u64 b2]) (T := 29) (g := w1.heap.size) rfl
      have B7 := B1.out.alloc (by have := B1.out.size; rw [HK.out] at this; exact this) (.cells #[.int .u64 0, .int .u64 0, .int .u64 a1, .int .u64 b1, .int .u64 a2, .int .u64 b2] 29)
      have R7 := R1.out.alloc (.cells #[.int .u64 0, .int .u64 0, .int .u64 a1, .int .u64 b1, .int .u64 a2, .int .u64 b2] 29)
      generalize w1.alloc (.cells #[.int .u64 0, .int .u64 0, .int .u64 a1, .int .u64 b1, .int .u64 a2, .int .u64 b2] 29) = w7 at *
      generalize w1.heap.size = X at *
      refine (re_v (rring_any 1 (some ⟨X, 0, none⟩) 3 3 _ w7 (Ce.slu [0, 0, a1, b1, a2, b2] CX) (by omega)) (b := .agg #[.int .i64 1, .int .u64 0, .int .u64 0, .int .u64 a1, .int .u64 b1, .int .u64 a2, .int .u64 b2]) rfl).mono ?_
      rintro x w8 ⟨rfl, hb⟩
      have R8 := hid (R7.below hb)
      have B8 := hid (B7.trans (hb.mono (Nat.le_trans (by have := B7.size; rw [HK.out] at this; exact this) (Nat.le_refl _))))
      clear hb CX B7 R7
      have SR := hid (R8.out.storeA ⟨0, a, q, fun _ => zSp, ⟨1, zKy, ⟨a1, b1⟩, ⟨a2, b2⟩⟩⟩)
      have PN := pa_new a q a1 b1 a2 b2
      go_wp2_with ((with_reducible refine wl_id ?_); refine wl_store rfl rfl rfl rfl SR.out ?_; refine wl_val rfl rfl ?_; refine end_then ?_; apply_assumption; refine wp_ret ?_; (repeat refine ret_then ?_); (show bodyPost _ _ _ _ _ _); refine bodyPost_ret (v := .tuple #[.agg (PA ⟨0, a, q, fun _ => zSp, ⟨1, zKy, ⟨a1, b1⟩, ⟨a2, b2⟩⟩⟩), .int .i64 0]) (results_c2 Tryz.results18 _ rfl rfl (R8.out.whole ⟨0, a, q, fun _ => zSp, ⟨1, zKy, ⟨a1, b1⟩, ⟨a2, b2⟩⟩⟩)) rfl ⟨rfl, by rw [HK.out]; exact B8.out.trans (keeps_setCells R (PA ⟨0, a, q, fun _ => zSp, ⟨1, zKy, ⟨a1, b1⟩, ⟨a2, b2⟩⟩⟩).toList 0 w8 P lR)⟩)
end Go.Proofs.YteefhiniamajkaaGreat
