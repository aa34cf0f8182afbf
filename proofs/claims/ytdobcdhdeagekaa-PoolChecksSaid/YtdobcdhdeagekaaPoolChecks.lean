/- roundhouselaw6.PoolChecks answers true for every entry, any five numbers; no condition. -/
import Derived.Test.YtdobcdhdeagekaaPolSh
import Derived.Test.YtdobcdhdeagekaaPolRef
import Derived.Deep.CutRange
import Derived.Deep.CutBlock
import Derived.BigQuiet
import Derived.Deep.RegionHeld3
import Derived.Deep.Cut
namespace Go.Proofs.Ytdobcdhdeagekaa.poolChecks
set_option linter.unusedVariables false
set_option linter.unusedSimpArgs false
open Go.RowKit Go.ChangeShapes Go.WideShapes Go.ChangeAt

attribute [local irreducible] PA
set_option maxRecDepth 100000 in
set_option maxHeartbeats 8000000 in
theorem walk (W : World) (e1 e2 e3 e4 e5 e6 e7 : Int) (n0 : Int) (r_n0 : -9223372036854775808 ≤ n0 ∧ n0 ≤ 9223372036854775807) (h0 : Int) (r_h0 : -9223372036854775808 ≤ h0 ∧ h0 ≤ 9223372036854775807) (b0 : Int) (r_b0 : -9223372036854775808 ≤ b0 ∧ b0 ≤ 9223372036854775807) (c0 : Int) (r_c0 : -9223372036854775808 ≤ c0 ∧ c0 ≤ 9223372036854775807) (d0 : Int) (r_d0 : -9223372036854775808 ≤ d0 ∧ d0 ≤ 9223372036854775807) :
    Calls Try.prog 4 #[.agg #[.int .i64 e1, .int .i64 e2, .int .i64 e3, .int .i64 e4, .int .i64 e5, .int .u64 e6, .int .u64 e7], .int .i64 n0, .int .i64 h0, .int .i64 b0, .int .i64 c0, .int .i64 d0] W fun e w' => e = .returned (.bool true) ∧ Below W.heap.size W w' := by
  have hz : ∀ w : World, (zeroValue 34).run Try.prog w = .ok (.agg (PA zPl)) w := fun w => zero_pl w
  have hz1 := pa_size zPl
  have hz2 := pa_ne zPl
  obtain ⟨tt, htt⟩ : ∃ x, x = wi b0 14 := ⟨_, rfl⟩
  have btt := wi_bd b0 14 (by omega)
  rw [← htt] at btt
  have Wtt := hid (fun w => re_i64 (within_any b0 14 w (by omega) (by omega)) htt.symm)
  clear htt
  obtain ⟨btt1, btt2⟩ := btt
  obtain ⟨u, hu⟩ : ∃ x, x = wi h0 6 := ⟨_, rfl⟩
  have bu := wi_bd h0 6 (by omega)
  rw [← hu] at bu
  have Wu := hid (fun w => re_i64 (within_any h0 6 w (by omega) (by omega)) hu.symm)
  clear hu
  obtain ⟨bu1, bu2⟩ := bu
  obtain ⟨j, rfl⟩ : ∃ j : Nat, tt = j := ⟨tt.toNat, by omega⟩
  have j14 : j < 14 := by omega
  have EN0 := fun w => entry_any n0 w
  obtain ⟨en, hen⟩ : ∃ en, en = enN n0 := ⟨_, rfl⟩
  rw [← hen] at EN0
  clear hen
  obtain ⟨f1, f2, f3, f4, f5, f6, f7⟩ := en
  unfold enV at EN0
  simp only at EN0
  have EN := hid EN0
  clear EN0
  go_enter Try.func4, Try.ntmps4
  go_upto_region 1 with (fail)
  have S0 := hid ((SH.start (Below.refl W.heap.size W)).mk_ (T := 43) [.int .i64 e1, .int .i64 e2, .int .i64 e3, .int .i64 e4, .int .i64 e5, .int .u64 e6, .int .u64 e7])
  have dE : W.heap.size ≤ W.heap.size := Nat.le_refl _
  generalize W.alloc (.cells #[.int .i64 e1, .int .i64 e2, .int .i64 e3, .int .i64 e4, .int .i64 e5, .int .u64 e6, .int .u64 e7] 43) = w0 at *
  obtain ⟨E, hE⟩ : ∃ E, E = W.heap.size := ⟨_, rfl⟩
  skip
  go_wp2_with fail
  refine (known_any _).mono ?_
  rintro x w1 ⟨rfl, hb⟩
  have S1 := hid (S0.out.below hb)
  clear hb S0
  go_wp2_with fail
  refine (EN.out _).mono ?_
  rintro x w2 ⟨rfl, hb⟩
  have S2 := hid (S1.out.below hb)
  clear hb S1 EN
  go_upto_region 4 with (fail)
  have S3 := hid (S2.out.mk_ (T := 43) [.int .i64 f1, .int .i64 f2, .int .i64 f3, .int .i64 f4, .int .i64 f5, .int .u64 f6, .int .u64 f7])
  have lX := S2.out.bl.size
  have dX := SH.neC S2.out (W.heap.size, [.int .i64 e1, .int .i64 e2, .int .i64 e3, .int .i64 e4, .int .i64 e5, .int .u64 e6, .int .u64 e7]) (by simp)
  simp only at dX
  clear S2
  generalize w2.alloc (.cells #[.int .i64 f1, .int .i64 f2, .int .i64 f3, .int .i64 f4, .int .i64 f5, .int .u64 f6, .int .u64 f7] 43) = w3 at *
  generalize w2.heap.size = X at *
  go_wp2_with fail
  have C14 := Ce.made (w := w3) (l := [.int .i64 (-1), .int .i64 0, .int .i64 1, .int .i64 6, .int .i64 7, .int .i64 8, .int .i64 9, .int .i64 63, .int .i64 64, .int .i64 65535, .int .i64 65536, .int .i64 4294967295, .int .i64 4294967296, .int .i64 b0]) (T := 3) (g := w3.heap.size) rfl
  have S4 := hid (S3.out.alloc (.cells #[.int .i64 (-1), .int .i64 0, .int .i64 1, .int .i64 6, .int .i64 7, .int .i64 8, .int .i64 9, .int .i64 63, .int .i64 64, .int .i64 65535, .int .i64 65536, .int .i64 4294967295, .int .i64 4294967296, .int .i64 b0] 3))
  obtain ⟨wv, cw⟩ : ∃ wv, (w3.alloc (.cells #[.int .i64 (-1), .int .i64 0, .int .i64 1, .int .i64 6, .int .i64 7, .int .i64 8, .int .i64 9, .int .i64 63, .int .i64 64, .int .i64 65535, .int .i64 65536, .int .i64 4294967295, .int .i64 4294967296, .int .i64 b0] 3)).cell? ⟨w3.heap.size, j, none⟩ = some (.int .i64 wv) := by
    have h14 : j = 0 ∨ j = 1 ∨ j = 2 ∨ j = 3 ∨ j = 4 ∨ j = 5 ∨ j = 6 ∨ j = 7 ∨ j = 8 ∨ j = 9 ∨ j = 10 ∨ j = 11 ∨ j = 12 ∨ j = 13 := by omega
    rcases h14 with rfl | rfl | rfl | rfl | rfl | rfl | rfl | rfl | rfl | rfl | rfl | rfl | rfl | rfl <;> exact ⟨_, C14.2.1 _ _ rfl⟩
  clear C14 S3
  generalize w3.alloc (.cells #[.int .i64 (-1), .int .i64 0, .int .i64 1, .int .i64 6, .int .i64 7, .int .i64 8, .int .i64 9, .int .i64 63, .int .i64 64, .int .i64 65535, .int .i64 65536, .int .i64 4294967295, .int .i64 4294967296, .int .i64 b0] 3) = w4 at *
  generalize w3.heap.size = B14 at *
  refine (Wtt.out _).mono ?_
  rintro x w' ⟨rfl, rfl⟩
  have j0 : (0 : Int) ≤ j := by omega
  have j1 : (j : Int) < 14 := by omega
  go_upto_region 5 with (fail)
  clear cw
  go_wp2_with fail
  refine (Wu.out _).mono ?_
  rintro x w' ⟨rfl, rfl⟩
  go_upto_block 0 with (fail)
  go_cut [] from 35 to 60 (fun wx => ∃ a1 a2 a3 a4 a5 a6 a7 : Int, SH W wx [] [(X, [.int .i64 a1, .int .i64 a2, .int .i64 a3, .int .i64 a4, .int .i64 a5, .int .u64 a6, .int .u64 a7]), (W.heap.size, [.int .i64 e1, .int .i64 e2, .int .i64 e3, .int .i64 e4, .int .i64 e5, .int .u64 e6, .int .u64 e7])])
  case first =>
    have hC : ∀ x, x ∈ [(W.heap.size, ([.int .i64 e1, .int .i64 e2, .int .i64 e3, .int .i64 e4, .int .i64 e5, .int .u64 e6, .int .u64 e7] : List Value))] → X ≠ x.1 := fun x hx => by simp at hx; subst hx; exact dX
    have h6 : u = 0 ∨ u = 1 ∨ u = 2 ∨ u = 3 ∨ u = 4 ∨ u = 5 := by omega
    have X4 := S4.out.ce (b := X) (l := [.int .i64 f1, .int .i64 f2, .int .i64 f3, .int .i64 f4, .int .i64 f5, .int .u64 f6, .int .u64 f7]) (by simp)
    have c0 := X4.2.1 0 _ rfl
    have c1 := X4.2.1 1 _ rfl
    have c2 := X4.2.1 2 _ rfl
    have c3 := X4.2.1 3 _ rfl
    have c4 := X4.2.1 4 _ rfl
    have c5 := X4.2.1 5 _ rfl
    have z0 := X4.2.2 0
    have z1 := X4.2.2 1
    have z2 := X4.2.2 2
    have z3 := X4.2.2 3
    have z4 := X4.2.2 4
    have z5 := X4.2.2 5
    clear X4
    rcases h6 with rfl | rfl | rfl | rfl | rfl | rfl
    · go_wp2_with fail
      go_meet
      exact ⟨_, _, _, _, _, _, _, SH.set1 S4.out 0 _ (by simp) hC lX⟩
    · go_wp2_with fail
      go_meet
      exact ⟨_, _, _, _, _, _, _, SH.set1 S4.out 1 _ (by simp) hC lX⟩
    · go_wp2_with fail
      go_meet
      exact ⟨_, _, _, _, _, _, _, SH.set1 S4.out 2 _ (by simp) hC lX⟩
    · go_wp2_with fail
      go_meet
      exact ⟨_, _, _, _, _, _, _, SH.set1 S4.out 3 _ (by simp) hC lX⟩
    · go_wp2_with fail
      go_meet
      exact ⟨_, _, _, _, _, _, _, SH.set1 S4.out 4 _ (by simp) hC lX⟩
    · go_wp2_with fail
      go_meet
      exact ⟨_, _, _, _, _, _, _, SH.set1 S4.out 5 _ (by simp) hC lX⟩
  case rest =>
    obtain ⟨f1, f2, f3, f4, f5, f6, f7, hS⟩ := hcut
    have S5 := hid hS
    clear hS S4 dX
    obtain ⟨r1, hr1⟩ : ∃ r, r = nwR c0 d0 ⟨e6, e7⟩ ⟨f6, f7⟩ := ⟨_, rfl⟩
    have N1 := hid (show ∀ w, Calls Try.prog 16 #[.int .i64 c0, .int .i64 d0, .agg #[.int .u64 e6, .int .u64 e7], .agg #[.int .u64 f6, .int .u64 f7]] w fun x w' => x = .returned (.tuple #[.agg (PA r1.1), .int .i64 r1.2]) ∧ Below w.heap.size w w' from by rw [hr1]; exact fun w => new_any c0 d0 ⟨e6, e7⟩ ⟨f6, f7⟩ w)
    have M1 := hid (show ∀ w, Calls Try.prog 18 #[.int .i64 c0, .int .i64 d0, .agg #[.int .u64 e6, .int .u64 e7], .agg #[.int .u64 f6, .int .u64 f7]] w fun x w' => x = .returned (.tuple #[.agg (PA r1.1), .int .i64 r1.2]) ∧ Below w.heap.size w w' from by rw [hr1]; exact fun w => rnew_any c0 d0 ⟨e6, e7⟩ ⟨f6, f7⟩ w)
    clear hr1
    obtain ⟨p1, er1⟩ := r1
    simp only at N1 M1
    obtain ⟨r2, hr2⟩ : ∃ r, r = nwR wv wv ⟨e6, e7⟩ ⟨f6, f7⟩ := ⟨_, rfl⟩
    have N2 := hid (show ∀ w, Calls Try.prog 16 #[.int .i64 wv, .int .i64 wv, .agg #[.int .u64 e6, .int .u64 e7], .agg #[.int .u64 f6, .int .u64 f7]] w fun x w' => x = .returned (.tuple #[.agg (PA r2.1), .int .i64 r2.2]) ∧ Below w.heap.size w w' from by rw [hr2]; exact fun w => new_any wv wv ⟨e6, e7⟩ ⟨f6, f7⟩ w)
    have M2 := hid (show ∀ w, Calls Try.prog 18 #[.int .i64 wv, .int .i64 wv, .agg #[.int .u64 e6, .int .u64 e7], .agg #[.int .u64 f6, .int .u64 f7]] w fun x w' => x = .returned (.tuple #[.agg (PA r2.1), .int .i64 r2.2]) ∧ Below w.heap.size w w' from by rw [hr2]; exact fun w => rnew_any wv wv ⟨e6, e7⟩ ⟨f6, f7⟩ w)
    clear hr2
    obtain ⟨p2, er2⟩ := r2
    simp only at N2 M2
    have q5 := (S5.out.ce (b := W.heap.size) (l := [.int .i64 e1, .int .i64 e2, .int .i64 e3, .int .i64 e4, .int .i64 e5, .int .u64 e6, .int .u64 e7]) (by simp)).2.1 5 _ rfl
    have q6 := (S5.out.ce (b := W.heap.size) (l := [.int .i64 e1, .int .i64 e2, .int .i64 e3, .int .i64 e4, .int .i64 e5, .int .u64 e6, .int .u64 e7]) (by simp)).2.1 6 _ rfl
    have x5 := (S5.out.ce (b := X) (l := [.int .i64 f1, .int .i64 f2, .int .i64 f3, .int .i64 f4, .int .i64 f5, .int .u64 f6, .int .u64 f7]) (by simp)).2.1 5 _ rfl
    have x6 := (S5.out.ce (b := X) (l := [.int .i64 f1, .int .i64 f2, .int .i64 f3, .int .i64 f4, .int .i64 f5, .int .u64 f6, .int .u64 f7]) (by simp)).2.1 6 _ rfl
    go_wp2_with fail
    clear q5 q6 x5 x6
    refine (N1.out _).mono ?_
    rintro x w6 ⟨rfl, hb⟩
    have S6 := hid (S5.out.below hb)
    clear hb S5
    have ST := hid ((sg_new (w := w6) (T := 34)).storeA p1)
    have S7 := hid (SH.put S6.out (T := 34) zPl p1)
    go_upto_region 19 with ((with_reducible refine wl_id ?_); refine wl_store rfl rfl rfl rfl ST.out ?_)
    clear ST S6
    generalize (w6.alloc (.cells (PA zPl) 34)).setCells w6.heap.size 0 (PA p1).toList = w7 at *
    generalize w6.heap.size = R1 at *
    clear N1
    have q5 := (S7.out.ce (b := W.heap.size) (l := [.int .i64 e1, .int .i64 e2, .int .i64 e3, .int .i64 e4, .int .i64 e5, .int .u64 e6, .int .u64 e7]) (by simp)).2.1 5 _ rfl
    have q6 := (S7.out.ce (b := W.heap.size) (l := [.int .i64 e1, .int .i64 e2, .int .i64 e3, .int .i64 e4, .int .i64 e5, .int .u64 e6, .int .u64 e7]) (by simp)).2.1 6 _ rfl
    have x5 := (S7.out.ce (b := X) (l := [.int .i64 f1, .int .i64 f2, .int .i64 f3, .int .i64 f4, .int .i64 f5, .int .u64 f6, .int .u64 f7]) (by simp)).2.1 5 _ rfl
    have x6 := (S7.out.ce (b := X) (l := [.int .i64 f1, .int .i64 f2, .int .i64 f3, .int .i64 f4, .int .i64 f5, .int .u64 f6, .int .u64 f7]) (by simp)).2.1 6 _ rfl
    go_wp2_with fail
    clear q5 q6 x5 x6
    refine (M1.out _).mono ?_
    rintro x w8 ⟨rfl, hb⟩
    have S8 := hid (S7.out.below hb)
    clear hb S7
    have ST := hid ((sg_new (w := w8) (T := 34)).storeA p1)
    have S9 := hid (SH.put S8.out (T := 34) zPl p1)
    go_upto_region 20 with ((with_reducible refine wl_id ?_); refine wl_store rfl rfl rfl rfl ST.out ?_)
    clear ST S8
    generalize (w8.alloc (.cells (PA zPl) 34)).setCells w8.heap.size 0 (PA p1).toList = w9 at *
    generalize w8.heap.size = R2 at *
    clear M1
    have q5 := (S9.out.ce (b := W.heap.size) (l := [.int .i64 e1, .int .i64 e2, .int .i64 e3, .int .i64 e4, .int .i64 e5, .int .u64 e6, .int .u64 e7]) (by simp)).2.1 5 _ rfl
    have q6 := (S9.out.ce (b := W.heap.size) (l := [.int .i64 e1, .int .i64 e2, .int .i64 e3, .int .i64 e4, .int .i64 e5, .int .u64 e6, .int .u64 e7]) (by simp)).2.1 6 _ rfl
    have x5 := (S9.out.ce (b := X) (l := [.int .i64 f1, .int .i64 f2, .int .i64 f3, .int .i64 f4, .int .i64 f5, .int .u64 f6, .int .u64 f7]) (by simp)).2.1 5 _ rfl
    have x6 := (S9.out.ce (b := X) (l := [.int .i64 f1, .int .i64 f2, .int .i64 f3, .int .i64 f4, .int .i64 f5, .int .u64 f6, .int .u64 f7]) (by simp)).2.1 6 _ rfl
    go_wp2_with fail
    clear q5 q6 x5 x6
    refine (N2.out _).mono ?_
    rintro x w10 ⟨rfl, hb⟩
    have S10 := hid (S9.out.below hb)
    clear hb S9
    have ST := hid ((sg_new (w := w10) (T := 34)).storeA p2)
    have S11 := hid (SH.put S10.out (T := 34) zPl p2)
    go_upto_region 21 with ((with_reducible refine wl_id ?_); refine wl_store rfl rfl rfl rfl ST.out ?_)
    clear ST S10
    generalize (w10.alloc (.cells (PA zPl) 34)).setCells w10.heap.size 0 (PA p2).toList = w11 at *
    generalize w10.heap.size = R3 at *
    clear N2
    have q5 := (S11.out.ce (b := W.heap.size) (l := [.int .i64 e1, .int .i64 e2, .int .i64 e3, .int .i64 e4, .int .i64 e5, .int .u64 e6, .int .u64 e7]) (by simp)).2.1 5 _ rfl
    have q6 := (S11.out.ce (b := W.heap.size) (l := [.int .i64 e1, .int .i64 e2, .int .i64 e3, .int .i64 e4, .int .i64 e5, .int .u64 e6, .int .u64 e7]) (by simp)).2.1 6 _ rfl
    have x5 := (S11.out.ce (b := X) (l := [.int .i64 f1, .int .i64 f2, .int .i64 f3, .int .i64 f4, .int .i64 f5, .int .u64 f6, .int .u64 f7]) (by simp)).2.1 5 _ rfl
    have x6 := (S11.out.ce (b := X) (l := [.int .i64 f1, .int .i64 f2, .int .i64 f3, .int .i64 f4, .int .i64 f5, .int .u64 f6, .int .u64 f7]) (by simp)).2.1 6 _ rfl
    go_wp2_with fail
    clear q5 q6 x5 x6
    refine (M2.out _).mono ?_
    rintro x w12 ⟨rfl, hb⟩
    have S12 := hid (S11.out.below hb)
    clear hb S11
    have ST := hid ((sg_new (w := w12) (T := 34)).storeA p2)
    have S13 := hid (SH.put S12.out (T := 34) zPl p2)
    go_upto_region 22 with ((with_reducible refine wl_id ?_); refine wl_store rfl rfl rfl rfl ST.out ?_)
    clear ST S12
    generalize (w12.alloc (.cells (PA zPl) 34)).setCells w12.heap.size 0 (PA p2).toList = w13 at *
    generalize w12.heap.size = R4 at *
    clear M2
    have Ke := hid (fun w => check_any ⟨e1, e2, e3, e4, e5, ⟨e6, e7⟩⟩ w)
    have Qe := hid (fun w => rcheck_any ⟨e1, e2, e3, e4, e5, ⟨e6, e7⟩⟩ w)
    generalize chk ⟨e1, e2, e3, e4, e5, ⟨e6, e7⟩⟩ = xe at *
    unfold enV at Ke Qe
    simp only at Ke Qe
    have Kf := hid (fun w => check_any ⟨f1, f2, f3, f4, f5, ⟨f6, f7⟩⟩ w)
    have Qf := hid (fun w => rcheck_any ⟨f1, f2, f3, f4, f5, ⟨f6, f7⟩⟩ w)
    generalize chk ⟨f1, f2, f3, f4, f5, ⟨f6, f7⟩⟩ = xf at *
    unfold enV at Kf Qf
    simp only at Kf Qf
    refine wp_region_held_drew (S := fun w' => SH W w' [(R4, p2), (R3, p2), (R2, p1), (R1, p1)] [(X, [.int .i64 f1, .int .i64 f2, .int .i64 f3, .int .i64 f4, .int .i64 f5, .int .u64 f6, .int .u64 f7]), (W.heap.size, [.int .i64 e1, .int .i64 e2, .int .i64 e3, .int .i64 e4, .int .i64 e5, .int .u64 e6, .int .u64 e7])]) (by kernel_rfl) ?_ (fun hHeld => ?_)
    · exact S13.out.drew
    refine tk 0 (v := ?_) rfl (by kernel_rfl) (by kernel_rfl) (by kernel_rfl) (fun _ _ _ h => h) rfl ?_ hHeld ?_; rotate_left; (focus (intro w hSw; (try dsimp only at hSw); have hC := hSw.ce (b := W.heap.size) (l := [.int .i64 e1, .int .i64 e2, .int .i64 e3, .int .i64 e4, .int .i64 e5, .int .u64 e6, .int .u64 e7]) (by simp); have x0 := hC.2.1 0 _ rfl; have x1 := hC.2.1 1 _ rfl; have x2 := hC.2.1 2 _ rfl; have x3 := hC.2.1 3 _ rfl; have x4 := hC.2.1 4 _ rfl; have x5 := hC.2.1 5 _ rfl; have x6 := hC.2.1 6 _ rfl; go_simp; (try with_reducible rfl))); (try simp only [Act.put, List.setIfInBounds_toArray, List.set_cons_zero, List.set_cons_succ])
    refine tk 2 (v := ?_) rfl (by kernel_rfl) (by kernel_rfl) (by kernel_rfl) (fun _ _ _ h => h) rfl ?_ hHeld ?_; rotate_left; (focus (intro w hSw; (try dsimp only at hSw); have hC := hSw.ce (b := W.heap.size) (l := [.int .i64 e1, .int .i64 e2, .int .i64 e3, .int .i64 e4, .int .i64 e5, .int .u64 e6, .int .u64 e7]) (by simp); have x0 := hC.2.1 0 _ rfl; have x1 := hC.2.1 1 _ rfl; have x2 := hC.2.1 2 _ rfl; have x3 := hC.2.1 3 _ rfl; have x4 := hC.2.1 4 _ rfl; have x5 := hC.2.1 5 _ rfl; have x6 := hC.2.1 6 _ rfl; go_simp; (try with_reducible rfl))); (try simp only [Act.put, List.setIfInBounds_toArray, List.set_cons_zero, List.set_cons_succ])
    refine only 1 rfl (by kernel_rfl) rfl (fun K hK => ?_)
    go_simp
    refine (Ke.out _).mono ?_
    rintro e' w' ⟨rfl, hb⟩
    try go_wp2_with fail
    refine hK.out _ _ (SH.below hHeld hb) (fun h1 => ?_)
    clear hK hb
    try simp only [Act.put, List.setIfInBounds_toArray, List.set_cons_zero, List.set_cons_succ]
    refine only 3 rfl (by kernel_rfl) rfl (fun K hK => ?_)
    go_simp
    refine (Qe.out _).mono ?_
    rintro e' w' ⟨rfl, hb⟩
    try go_wp2_with fail
    refine hK.out _ _ (SH.below h1 hb) (fun h2 => ?_)
    clear hK hb
    try simp only [Act.put, List.setIfInBounds_toArray, List.set_cons_zero, List.set_cons_succ]
    refine tk 4 (v := ?_) rfl (by kernel_rfl) (by kernel_rfl) (by kernel_rfl) (fun _ _ _ h => h) rfl ?_ h2 ?_; rotate_left; (focus (intro w hSw; (try dsimp only at hSw);  go_simp; (try with_reducible rfl))); (try simp only [Act.put, List.setIfInBounds_toArray, List.set_cons_zero, List.set_cons_succ])
    refine tk 5 (v := ?_) rfl (by kernel_rfl) (by kernel_rfl) (by kernel_rfl) (fun _ _ _ h => h) rfl ?_ h2 ?_; rotate_left; (focus (intro w hSw; (try dsimp only at hSw);  go_simp; (try with_reducible rfl))); (try simp only [Act.put, List.setIfInBounds_toArray, List.set_cons_zero, List.set_cons_succ])
    refine tk 6 (v := ?_) rfl (by kernel_rfl) (by kernel_rfl) (by kernel_rfl) (fun _ _ _ h => h) rfl ?_ h2 ?_; rotate_left; (focus (intro w hSw; (try dsimp only at hSw); have hC := hSw.ce (b := X) (l := [.int .i64 f1, .int .i64 f2, .int .i64 f3, .int .i64 f4, .int .i64 f5, .int .u64 f6, .int .u64 f7]) (by simp); have x0 := hC.2.1 0 _ rfl; have x1 := hC.2.1 1 _ rfl; have x2 := hC.2.1 2 _ rfl; have x3 := hC.2.1 3 _ rfl; have x4 := hC.2.1 4 _ rfl; have x5 := hC.2.1 5 _ rfl; have x6 := hC.2.1 6 _ rfl; go_simp; (try with_reducible rfl))); (try simp only [Act.put, List.setIfInBounds_toArray, List.set_cons_zero, List.set_cons_succ])
    refine tk 8 (v := ?_) rfl (by kernel_rfl) (by kernel_rfl) (by kernel_rfl) (fun _ _ _ h => h) rfl ?_ h2 ?_; rotate_left; (focus (intro w hSw; (try dsimp only at hSw); have hC := hSw.ce (b := X) (l := [.int .i64 f1, .int .i64 f2, .int .i64 f3, .int .i64 f4, .int .i64 f5, .int .u64 f6, .int .u64 f7]) (by simp); have x0 := hC.2.1 0 _ rfl; have x1 := hC.2.1 1 _ rfl; have x2 := hC.2.1 2 _ rfl; have x3 := hC.2.1 3 _ rfl; have x4 := hC.2.1 4 _ rfl; have x5 := hC.2.1 5 _ rfl; have x6 := hC.2.1 6 _ rfl; go_simp; (try with_reducible rfl))); (try simp only [Act.put, List.setIfInBounds_toArray, List.set_cons_zero, List.set_cons_succ])
    refine only 7 rfl (by kernel_rfl) rfl (fun K hK => ?_)
    go_simp
    refine (Kf.out _).mono ?_
    rintro e' w' ⟨rfl, hb⟩
    try go_wp2_with fail
    refine hK.out _ _ (SH.below h2 hb) (fun h3 => ?_)
    clear hK hb
    try simp only [Act.put, List.setIfInBounds_toArray, List.set_cons_zero, List.set_cons_succ]
    refine only 9 rfl (by kernel_rfl) rfl (fun K hK => ?_)
    go_simp
    refine (Qf.out _).mono ?_
    rintro e' w' ⟨rfl, hb⟩
    try go_wp2_with fail
    refine hK.out _ _ (SH.below h3 hb) (fun h4 => ?_)
    clear hK hb
    try simp only [Act.put, List.setIfInBounds_toArray, List.set_cons_zero, List.set_cons_succ]
    refine tk 10 (v := ?_) rfl (by kernel_rfl) (by kernel_rfl) (by kernel_rfl) (fun _ _ _ h => h) rfl ?_ h4 ?_; rotate_left; (focus (intro w hSw; (try dsimp only at hSw);  go_simp; (try with_reducible rfl))); (try simp only [Act.put, List.setIfInBounds_toArray, List.set_cons_zero, List.set_cons_succ])
    refine tk 11 (v := ?_) rfl (by kernel_rfl) (by kernel_rfl) (by kernel_rfl) (fun _ _ _ h => h) rfl ?_ h4 ?_; rotate_left; (focus (intro w hSw; (try dsimp only at hSw);  go_simp; (try with_reducible rfl))); (try simp only [Act.put, List.setIfInBounds_toArray, List.set_cons_zero, List.set_cons_succ])
    refine tk 12 (v := ?_) rfl (by kernel_rfl) (by kernel_rfl) (by kernel_rfl) (fun _ _ _ h => h) rfl ?_ h4 ?_; rotate_left; (focus (intro w hSw; (try dsimp only at hSw);  go_simp; (try with_reducible rfl))); (try simp only [Act.put, List.setIfInBounds_toArray, List.set_cons_zero, List.set_cons_succ])
    refine tk 13 (v := ?_) rfl (by kernel_rfl) (by kernel_rfl) (by kernel_rfl) (fun _ _ _ h => h) rfl ?_ h4 ?_; rotate_left; (focus (intro w hSw; (try dsimp only at hSw);  go_simp; (try with_reducible rfl))); (try simp only [Act.put, List.setIfInBounds_toArray, List.set_cons_zero, List.set_cons_succ])
    refine tk 14 (v := ?_) rfl (by kernel_rfl) (by kernel_rfl) (by kernel_rfl) (fun _ _ _ h => h) rfl ?_ h4 ?_; rotate_left; (focus (intro w hSw; (try dsimp only at hSw);  go_simp; (try with_reducible rfl))); (try simp only [Act.put, List.setIfInBounds_toArray, List.set_cons_zero, List.set_cons_succ])
    refine tk 15 (v := ?_) rfl (by kernel_rfl) (by kernel_rfl) (by kernel_rfl) (fun _ _ _ h => h) rfl ?_ h4 ?_; rotate_left; (focus (intro w hSw; (try dsimp only at hSw);  go_simp; (try with_reducible rfl))); (try simp only [Act.put, List.setIfInBounds_toArray, List.set_cons_zero, List.set_cons_succ])
    refine tk 16 (v := ?_) rfl (by kernel_rfl) (by kernel_rfl) (by kernel_rfl) (fun _ _ _ h => h) rfl ?_ h4 ?_; rotate_left; (focus (intro w hSw; (try dsimp only at hSw);  go_simp; (try with_reducible rfl))); (try simp only [Act.put, List.setIfInBounds_toArray, List.set_cons_zero, List.set_cons_succ])
    refine tk 17 (v := ?_) rfl (by kernel_rfl) (by kernel_rfl) (by kernel_rfl) (fun _ _ _ h => h) rfl ?_ h4 ?_; rotate_left; (focus (intro w hSw; (try dsimp only at hSw);  go_simp; (try with_reducible rfl))); (try simp only [Act.put, List.setIfInBounds_toArray, List.set_cons_zero, List.set_cons_succ])
    refine tk 18 (v := .agg (PA p1)) rfl (by kernel_rfl) (by kernel_rfl) (by kernel_rfl) (fun _ _ _ h => h) rfl (fun w hSw => ex_load rfl rfl (SH.get hSw (b := R1) (p := p1) (by simp)).loadA) h4 ?_; (try simp only [Act.put, List.setIfInBounds_toArray, List.set_cons_zero, List.set_cons_succ])
    refine tk 19 (v := .agg (PA p1)) rfl (by kernel_rfl) (by kernel_rfl) (by kernel_rfl) (fun _ _ _ h => h) rfl (fun w hSw => ex_load rfl rfl (SH.get hSw (b := R2) (p := p1) (by simp)).loadA) h4 ?_; (try simp only [Act.put, List.setIfInBounds_toArray, List.set_cons_zero, List.set_cons_succ])
    refine tk 20 (v := .bool true) rfl (by kernel_rfl) (by kernel_rfl) (by kernel_rfl) (fun _ _ _ h => h) rfl (fun w hSw => ex_eql _ _ rfl p1 rfl rfl _) h4 ?_; (try simp only [Act.put, List.setIfInBounds_toArray, List.set_cons_zero, List.set_cons_succ])
    refine tk 21 (v := ?_) rfl (by kernel_rfl) (by kernel_rfl) (by kernel_rfl) (fun _ _ _ h => h) rfl ?_ h4 ?_; rotate_left; (focus (intro w hSw; (try dsimp only at hSw);  go_simp; (try with_reducible rfl))); (try simp only [Act.put, List.setIfInBounds_toArray, List.set_cons_zero, List.set_cons_succ])
    refine tk 22 (v := ?_) rfl (by kernel_rfl) (by kernel_rfl) (by kernel_rfl) (fun _ _ _ h => h) rfl ?_ h4 ?_; rotate_left; (focus (intro w hSw; (try dsimp only at hSw);  go_simp; (try with_reducible rfl))); (try simp only [Act.put, List.setIfInBounds_toArray, List.set_cons_zero, List.set_cons_succ])
    refine tk 23 (v := ?_) rfl (by kernel_rfl) (by kernel_rfl) (by kernel_rfl) (fun _ _ _ h => h) rfl ?_ h4 ?_; rotate_left; (focus (intro w hSw; (try dsimp only at hSw);  go_simp; (try with_reducible rfl))); (try simp only [Act.put, List.setIfInBounds_toArray, List.set_cons_zero, List.set_cons_succ])
    refine tk 24 (v := ?_) rfl (by kernel_rfl) (by kernel_rfl) (by kernel_rfl) (fun _ _ _ h => h) rfl ?_ h4 ?_; rotate_left; (focus (intro w hSw; (try dsimp only at hSw);  go_simp; (try with_reducible rfl))); (try simp only [Act.put, List.setIfInBounds_toArray, List.set_cons_zero, List.set_cons_succ])
    refine tk 25 (v := ?_) rfl (by kernel_rfl) (by kernel_rfl) (by kernel_rfl) (fun _ _ _ h => h) rfl ?_ h4 ?_; rotate_left; (focus (intro w hSw; (try dsimp only at hSw);  go_simp; (try with_reducible rfl))); (try simp only [Act.put, List.setIfInBounds_toArray, List.set_cons_zero, List.set_cons_succ])
    refine tk 26 (v := ?_) rfl (by kernel_rfl) (by kernel_rfl) (by kernel_rfl) (fun _ _ _ h => h) rfl ?_ h4 ?_; rotate_left; (focus (intro w hSw; (try dsimp only at hSw);  go_simp; (try with_reducible rfl))); (try simp only [Act.put, List.setIfInBounds_toArray, List.set_cons_zero, List.set_cons_succ])
    refine tk 27 (v := ?_) rfl (by kernel_rfl) (by kernel_rfl) (by kernel_rfl) (fun _ _ _ h => h) rfl ?_ h4 ?_; rotate_left; (focus (intro w hSw; (try dsimp only at hSw);  go_simp; (try with_reducible rfl))); (try simp only [Act.put, List.setIfInBounds_toArray, List.set_cons_zero, List.set_cons_succ])
    refine tk 28 (v := .agg (PA p2)) rfl (by kernel_rfl) (by kernel_rfl) (by kernel_rfl) (fun _ _ _ h => h) rfl (fun w hSw => ex_load rfl rfl (SH.get hSw (b := R3) (p := p2) (by simp)).loadA) h4 ?_; (try simp only [Act.put, List.setIfInBounds_toArray, List.set_cons_zero, List.set_cons_succ])
    refine tk 29 (v := .agg (PA p2)) rfl (by kernel_rfl) (by kernel_rfl) (by kernel_rfl) (fun _ _ _ h => h) rfl (fun w hSw => ex_load rfl rfl (SH.get hSw (b := R4) (p := p2) (by simp)).loadA) h4 ?_; (try simp only [Act.put, List.setIfInBounds_toArray, List.set_cons_zero, List.set_cons_succ])
    refine tk 30 (v := .bool true) rfl (by kernel_rfl) (by kernel_rfl) (by kernel_rfl) (fun _ _ _ h => h) rfl (fun w hSw => ex_eql _ _ rfl p2 rfl rfl _) h4 ?_; (try simp only [Act.put, List.setIfInBounds_toArray, List.set_cons_zero, List.set_cons_succ])
    refine tk 31 (v := ?_) rfl (by kernel_rfl) (by kernel_rfl) (by kernel_rfl) (fun _ _ _ h => h) rfl ?_ h4 ?_; rotate_left; (focus (intro w hSw; (try dsimp only at hSw);  go_simp; (try with_reducible rfl))); (try simp only [Act.put, List.setIfInBounds_toArray, List.set_cons_zero, List.set_cons_succ])
    refine tk 32 (v := ?_) rfl (by kernel_rfl) (by kernel_rfl) (by kernel_rfl) (fun _ _ _ h => h) rfl ?_ h4 ?_; rotate_left; (focus (intro w hSw; (try dsimp only at hSw);  go_simp; (try with_reducible rfl))); (try simp only [Act.put, List.setIfInBounds_toArray, List.set_cons_zero, List.set_cons_succ])
    refine wpAnyH_done (by kernel_rfl) ?_ _
    go_wp2_with fail
    go_ret
    exact ⟨rfl, h4.bl⟩

set_option maxRecDepth 100000 in
theorem lifted (os : Os) (started : os.Started) (H : Type) (enc : TypeId × Value → H) :
    ReturnsInHanded {} Try.checked os 4 .any (Rows.poolChecksSpec.pre6 enc Try.prog Try.f4 [] false) (Rows.poolChecksSpec.post enc Try.prog Try.f4 false true false false) :=
  law_step (s := Rows.poolChecksSpec) started (by kernel_rfl) Try.func4
    (ChangeSpec.witness6 (s := Rows.poolChecksSpec) (enc := enc) (C := Try.checked) false ⟨#[], #[.agg #[.int .i64 0, .int .i64 0, .int .i64 0, .int .i64 0, .int .i64 0, .int .u64 0, .int .u64 0], .int .i64 0, .int .i64 0, .int .i64 0, .int .i64 0, .int .i64 0], []⟩ 8 (by kernel_rfl) (by kernel_rfl) (by kernel_rfl) (by kernel_rfl))
    rfl (by rw [Try.params4]; decide +kernel) rfl Try.underlying4
    (fun ds h => by
      rw [Try.params4] at h
      match ds, h with
      | [_, _, _, _, _, _], _ => rfl)
    (fun W base args ds ps hval hA hsz => by
      rw [Try.params4] at hA hval hsz
      obtain ⟨v0, vs0, d0, ds0, p0, q0, hargs, rfl, rfl, h0, r0⟩ := trodAll_cons hA
      obtain ⟨v1, vs1, d1, ds1, p1, q1, rfl, rfl, rfl, h1, r1⟩ := trodAll_cons r0
      obtain ⟨v2, vs2, d2, ds2, p2, q2, rfl, rfl, rfl, h2, r2⟩ := trodAll_cons r1
      obtain ⟨v3, vs3, d3, ds3, p3, q3, rfl, rfl, rfl, h3, r3⟩ := trodAll_cons r2
      obtain ⟨v4, vs4, d4, ds4, p4, q4, rfl, rfl, rfl, h4, r4⟩ := trodAll_cons r3
      obtain ⟨v5, vs5, d5, ds5, p5, q5, rfl, rfl, rfl, h5, r5⟩ := trodAll_cons r4
      obtain ⟨rfl, rfl, rfl⟩ := trodAll_nil r5
      obtain rfl : args = #[v0, v1, v2, v3, v4, v5] := by cases args; simp_all
      obtain ⟨a0_1, a0_2, a0_3, a0_4, a0_5, a0_6, a0_7, rfl⟩ := open_entry (hval 0 43 v0 rfl rfl) h0
      obtain ⟨a1, rfl, rfl, rfl, w1⟩ := open_int Try.underlying3 (hval 1 3 v1 rfl rfl) h1
      obtain ⟨a2, rfl, rfl, rfl, w2⟩ := open_int Try.underlying3 (hval 2 3 v2 rfl rfl) h2
      obtain ⟨a3, rfl, rfl, rfl, w3⟩ := open_int Try.underlying3 (hval 3 3 v3 rfl rfl) h3
      obtain ⟨a4, rfl, rfl, rfl, w4⟩ := open_int Try.underlying3 (hval 4 3 v4 rfl rfl) h4
      obtain ⟨a5, rfl, rfl, rfl, w5⟩ := open_int Try.underlying3 (hval 5 3 v5 rfl rfl) h5
      exact walk W a0_1 a0_2 a0_3 a0_4 a0_5 a0_6 a0_7 a1 (bounds_i64 w1) a2 (bounds_i64 w2) a3 (bounds_i64 w3) a4 (bounds_i64 w4) a5 (bounds_i64 w5))

theorem proved : Rows.PoolChecksSaid :=
  OpenClaim.holds_of_wide 4 Try.f4 rfl rfl rfl rfl rfl rfl rfl ⟨rfl, rfl, rfl, rfl, rfl⟩ rfl rfl rfl rfl rfl (by kernel_rfl) Try.func4 (by kernel_rfl)
    (of_decide_eq_true (by kernel_rfl)) (by unfold Func.isWrapper; first | (rw [if_pos (by decide +kernel)]; kernel_rfl) | (rw [if_neg (by decide +kernel)]; exact ⟨rfl, rfl⟩))
    (fun os started H enc _ => lifted os started H enc)
end Go.Proofs.Ytdobcdhdeagekaa.poolChecks
