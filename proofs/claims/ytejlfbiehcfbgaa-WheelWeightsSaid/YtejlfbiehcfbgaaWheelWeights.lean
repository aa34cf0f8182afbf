/- roundhouselaw7.WheelWeights answers true for any four numbers; no condition. -/
import Derived.Test.YtejlfbiehcfbgaaWhlTwo
import Derived.Deep.CutRange
import Derived.BigQuiet
import Derived.Deep.RegionHeld3
import Derived.Deep.Cut
namespace Go.Proofs.Ytejlfbiehcfbgaa.wheelWeights
set_option linter.unusedVariables false
set_option linter.unusedSimpArgs false
open Go.RowKit Go.ChangeShapes Go.WideShapes Go.ChangeAt

theorem w_ints {m n U V : Nat} (h : m ≤ 127 ∧ n ≤ 127) (hU : U ≤ 8) (hV : V ≤ 8) (h1 : m * V ≤ (n + V) * U) (h2 : n * U ≤ m * V) : ∃ A1 : Int, IntKind.i64.wrap ((m : Int) * (V : Int)) = A1 ∧ ∃ A2 : Int, IntKind.i64.wrap (((n : Int) + (V : Int)) * (U : Int)) = A2 ∧ ∃ A3 : Int, IntKind.i64.wrap ((n : Int) * (U : Int)) = A3 ∧ A1 ≤ A2 ∧ A3 ≤ A1 := by
  have b1 : m * V ≤ 127 * 8 := Nat.mul_le_mul h.1 hV
  have b2 : (n + V) * U ≤ 135 * 8 := Nat.mul_le_mul (by omega) hU
  have b3 : n * U ≤ 127 * 8 := Nat.mul_le_mul h.2 hU
  have c1 : (m : Int) * (V : Int) = ((m * V : Nat) : Int) := by push_cast; rfl
  have c2 : ((n : Int) + (V : Int)) * (U : Int) = (((n + V) * U : Nat) : Int) := by push_cast; rfl
  have c3 : (n : Int) * (U : Int) = ((n * U : Nat) : Int) := by push_cast; rfl
  rw [c1, c2, c3]
  exact ⟨_, IntWalk.i64_in _ (by omega), _, IntWalk.i64_in _ (by omega), _, IntWalk.i64_in _ (by omega), by omega, by omega⟩
attribute [local irreducible] PA ia cAt cBy atP byP wtP S3 sumW S5 pkW
set_option maxRecDepth 100000 in
set_option maxHeartbeats 8000000 in
theorem walk (W : World) (a0 : Int) (r_a0 : -9223372036854775808 ≤ a0 ∧ a0 ≤ 9223372036854775807) (b0 : Int) (r_b0 : -9223372036854775808 ≤ b0 ∧ b0 ≤ 9223372036854775807) (c0 : Int) (r_c0 : -9223372036854775808 ≤ c0 ∧ c0 ≤ 9223372036854775807) (d0 : Int) (r_d0 : -9223372036854775808 ≤ d0 ∧ d0 ≤ 9223372036854775807) :
    Calls Try.prog 9 #[.int .i64 a0, .int .i64 b0, .int .i64 c0, .int .i64 d0] W fun e w' => e = .returned (.bool true) ∧ Below W.heap.size W w' := by
  have hz : ∀ w : World, (zeroValue 33).run Try.prog w = .ok (.agg (PA zPl)) w := fun w => zero_pl w
  have hz1 := pa_size zPl
  have hz2 := pa_ne zPl
  obtain ⟨u, hu⟩ : ∃ x, x = wi a0 8 := ⟨_, rfl⟩
  have bu := wi_bd a0 8 (by omega)
  rw [← hu] at bu
  have Wu := hid (fun w => re_i64 (within_any a0 8 w (by omega) (by omega)) hu.symm)
  clear hu
  obtain ⟨bu1, bu2⟩ := bu
  obtain ⟨v, hv⟩ : ∃ x, x = wi b0 8 := ⟨_, rfl⟩
  have bv := wi_bd b0 8 (by omega)
  rw [← hv] at bv
  have Wv := hid (fun w => re_i64 (within_any b0 8 w (by omega) (by omega)) hv.symm)
  clear hv
  obtain ⟨bv1, bv2⟩ := bv
  obtain ⟨x, hx⟩ : ∃ x, x = wi c0 1000 := ⟨_, rfl⟩
  have bx := wi_bd c0 1000 (by omega)
  rw [← hx] at bx
  have Wx := hid (fun w => re_i64 (within_any c0 1000 w (by omega) (by omega)) hx.symm)
  clear hx
  obtain ⟨bx1, bx2⟩ := bx
  obtain ⟨y, hy⟩ : ∃ x, x = wi d0 1000 := ⟨_, rfl⟩
  have qy := wi_bd d0 1000 (by omega)
  rw [← hy] at qy
  have Wy := hid (fun w => re_i64 (within_any d0 1000 w (by omega) (by omega)) hy.symm)
  clear hy
  obtain ⟨qy1, qy2⟩ := qy
  obtain ⟨U, hU⟩ : ∃ U : Nat, (1 : Int) + u = (U : Int) := ⟨(1 + u).toNat, by omega⟩
  obtain ⟨V, hV⟩ : ∃ V : Nat, (1 : Int) + v = (V : Int) := ⟨(1 + v).toNat, by omega⟩
  have U1 : 1 ≤ U ∧ U ≤ 8 := by omega
  have V1 : 1 ≤ V ∧ V ≤ 8 := by omega
  obtain ⟨q, hao, hqs⟩ := two_slots (x := x) (y := y) (u := (U : Int)) (v := (V : Int)) (by omega) (by omega) (by omega) (by omega)
  obtain ⟨m, n, hm, hn, e1, e2, e3, e4, e5⟩ := two_shares U1 V1 hqs
  have HPW := hid (show Pw q from fun i _ => by rw [hqs]; split; (exact ⟨by show 0 ≤ y ∧ y ≤ 4294967295; omega, by show (0 : Int) ≤ 2 ∧ (2 : Int) ≤ 65535; decide, fun _ => by show 1 ≤ (V : Int) ∧ (V : Int) ≤ 8; omega⟩); split; (exact ⟨by show 0 ≤ x ∧ x ≤ 4294967295; omega, by show (0 : Int) ≤ 1 ∧ (1 : Int) ≤ 65535; decide, fun _ => by show 1 ≤ (U : Int) ∧ (U : Int) ≤ 8; omega⟩); exact ⟨by show (0 : Int) ≤ 0 ∧ (0 : Int) ≤ 4294967295; decide, by show (0 : Int) ≤ 0 ∧ (0 : Int) ≤ 65535; decide, fun h => absurd rfl h⟩)
  obtain ⟨A1, h1, A2, h2, A3, h3, l1, l2⟩ : ∃ A1 : Int, IntKind.i64.wrap ((m : Int) * (V : Int)) = A1 ∧ ∃ A2 : Int, IntKind.i64.wrap (((n : Int) + (V : Int)) * (U : Int)) = A2 ∧ ∃ A3 : Int, IntKind.i64.wrap ((n : Int) * (U : Int)) = A3 ∧ A1 ≤ A2 ∧ A3 ≤ A1 := w_ints (by omega) U1.2 V1.2 e4 e5
  clear e4 e5 hqs
  obtain ⟨p0, hp0⟩ : ∃ p0 : Pl, p0 = mkB := ⟨_, rfl⟩
  have MK := hid (show ∀ w, Calls Try.prog 14 #[.slice none 0 0, .int .i64 0] w fun x w' => x = .returned (.agg (PA p0)) ∧ Below w.heap.size w w' from by rw [hp0]; exact fun w => make_any w none 0 0 (fun _ => 0) (Sl.nil _ _ _) (fun _ h _ => by cases h) (by decide) 0 (by omega))
  have AL := hid (show ∀ (A : Option Addr) (w : World), Se w A 4 (gl [⟨1, 4, x, 1, (U : Int), zKy⟩, ⟨2, 4, 0, 0, 0, zKy⟩, ⟨1, 9, y, 2, (V : Int), zKy⟩, ⟨2, 9, 0, 0, 0, zKy⟩]) → Calls Try.prog 27 #[.agg (PA p0), .slice A 4 4] w fun x w' => x = .returned (.tuple #[.agg (PA q), .int .i64 4, .int .i64 0]) ∧ Below w.heap.size w w' from by rw [hp0]; exact fun A w h => (rall_any mkB _ A 4 4 w h (by omega) 0 (nwR_inv 10 80 _ _) (by omega)).mono (fun x w' ⟨q', k, er, hx, ho, hb⟩ => by obtain ⟨a, b, c⟩ := ho.uniq hao; subst a; subst b; subst c; exact ⟨hx, hb⟩))
  have S4 := hid (fun (B : Nat) (w : World) (h : IA w B 127 (whlW q)) => re_i64 (share_any (some ⟨B, 0, none⟩) 127 127 (whlW q) 4 ⟨by decide, by decide⟩ w h.slice (by decide)) (show ((cnW (whlW q) 4 127 : Nat) : Int) = (m : Int) from by rw [← hm]; rfl))
  have S9 := hid (fun (B : Nat) (w : World) (h : IA w B 127 (whlW q)) => re_i64 (share_any (some ⟨B, 0, none⟩) 127 127 (whlW q) 9 ⟨by decide, by decide⟩ w h.slice (by decide)) (show ((cnW (whlW q) 9 127 : Nat) : Int) = (n : Int) from by rw [← hn]; rfl))
  clear hao hm hn hp0
  have M7 := hid (show ∀ w, Calls Try.prog 15 #[.agg (PA q)] w fun x w' => ∃ B : Nat, x = .returned (.slice (some ⟨B, 0, none⟩) 127 127) ∧ w.heap.size ≤ B ∧ IA w' B 127 (whlW q) ∧ Below w.heap.size w w' from fun w => make7_any q HPW.out w)
  have R7 := hid (show ∀ w, Calls Try.prog 16 #[.agg (PA q)] w fun x w' => ∃ B : Nat, x = .returned (.slice (some ⟨B, 0, none⟩) 127 127) ∧ w.heap.size ≤ B ∧ IA w' B 127 (whlW q) ∧ Below w.heap.size w w' from fun w => rmake7_any q HPW.out w)
  have hmn : (m : Int) + (n : Int) = 127 := by omega
  have gm : (m : Int) > 0 := by omega
  have gn : (n : Int) > 0 := by omega
  have HMN := hid (And.intro hmn (And.intro gm gn))
  have HL := hid (And.intro l1 l2)
  have HH := hid (And.intro h1 (And.intro h2 h3))
  have HN := hid e1
  clear hmn gm gn l1 l2 h1 h2 h3 e1 e2 e3
  go_enter Try.func9, Try.ntmps9
  go_wp2_with fail
  refine (known7_any _).mono ?_
  rintro x' w1 ⟨rfl, hB⟩
  have B1 := hid hB
  clear hB
  go_wp2_with fail
  refine (MK.out _).mono ?_
  rintro x' w2 ⟨rfl, hb⟩
  have S2 := hid ((SG.start B1.out).below hb)
  clear hb B1 MK
  have ST := hid ((sg_new (w := w2) (T := 33)).storeA p0)
  have S3 := hid (SG.put S2.out (T := 33) zPl p0 (by simp))
  have lP := S2.out.bl.size
  go_upto_region 4 with ((with_reducible refine wl_id ?_); refine wl_store rfl rfl rfl rfl ST.out ?_)
  clear ST S2
  generalize (w2.alloc (.cells (PA zPl) 33)).setCells w2.heap.size 0 (PA p0).toList = w3 at *
  generalize w2.heap.size = P at *
  go_wp2_with fail
  refine (Wu.out _).mono ?_
  rintro x' w' ⟨rfl, rfl⟩
  go_wp2_with fail
  refine (Wv.out _).mono ?_
  rintro x' w' ⟨rfl, rfl⟩
  go_upto_region 5 with (fail)
  go_cut [] from 25 to 40 (fun wx => PoolAt wx P q ∧ Below W.heap.size W wx)
  case first =>
    refine wp_region_held_drew (S := fun w' => Below W.heap.size W w') (by kernel_rfl) ?_ (fun hHeld => ?_)
    · exact S3.out.bl.drew
    have PP := SG.get S3.out (b := P) (p := p0) (by simp)
    refine tk 1 (v := ?_) rfl (by kernel_rfl) (by kernel_rfl) (by kernel_rfl) (fun _ _ _ h => h) rfl ?_ hHeld ?_; rotate_left; (focus (intro w hSw; (try dsimp only at hSw);  go_simp; (try with_reducible rfl))); (try simp only [Act.put, List.setIfInBounds_toArray, List.set_cons_zero, List.set_cons_succ])
    refine tk 3 (v := ?_) rfl (by kernel_rfl) (by kernel_rfl) (by kernel_rfl) (fun _ _ _ h => h) rfl ?_ hHeld ?_; rotate_left; (focus (intro w hSw; (try dsimp only at hSw);  go_simp; (try with_reducible rfl))); (try simp only [Act.put, List.setIfInBounds_toArray, List.set_cons_zero, List.set_cons_succ])
    refine tk 5 (v := ?_) rfl (by kernel_rfl) (by kernel_rfl) (by kernel_rfl) (fun _ _ _ h => h) rfl ?_ hHeld ?_; rotate_left; (focus (intro w hSw; (try dsimp only at hSw);  go_simp; (try with_reducible rfl))); (try simp only [Act.put, List.setIfInBounds_toArray, List.set_cons_zero, List.set_cons_succ])
    refine tk 6 (v := ?_) rfl (by kernel_rfl) (by kernel_rfl) (by kernel_rfl) (fun _ _ _ h => h) rfl ?_ hHeld ?_; rotate_left; (focus (intro w hSw; (try dsimp only at hSw);  go_simp; (try with_reducible rfl))); (try simp only [Act.put, List.setIfInBounds_toArray, List.set_cons_zero, List.set_cons_succ])
    refine tk 8 (v := ?_) rfl (by kernel_rfl) (by kernel_rfl) (by kernel_rfl) (fun _ _ _ h => h) rfl ?_ hHeld ?_; rotate_left; (focus (intro w hSw; (try dsimp only at hSw);  go_simp; (try with_reducible rfl))); (try simp only [Act.put, List.setIfInBounds_toArray, List.set_cons_zero, List.set_cons_succ])
    refine tk 10 (v := ?_) rfl (by kernel_rfl) (by kernel_rfl) (by kernel_rfl) (fun _ _ _ h => h) rfl ?_ hHeld ?_; rotate_left; (focus (intro w hSw; (try dsimp only at hSw);  go_simp; (try with_reducible rfl))); (try simp only [Act.put, List.setIfInBounds_toArray, List.set_cons_zero, List.set_cons_succ])
    refine twoUp 0 2 rfl rfl (by kernel_rfl) rfl rfl (fun K hK => ?_) (fun K hK => ?_)
    · refine ov_val (ex_load rfl rfl PP.drew.loadA) ?_
      refine hK.out _ _ hHeld (fun hz0 => ?_)
      clear hK
      try simp only [Act.put, List.setIfInBounds_toArray, List.set_cons_zero, List.set_cons_succ]
      refine only 2 rfl (by kernel_rfl) rfl (fun K hK => ?_)
      go_simp
      refine (Wx.out _).mono ?_
      rintro e' w' ⟨rfl, rfl⟩
      try go_wp2_with fail
      refine hK.out _ _ hz0 (fun hz1 => ?_)
      clear hK
      try simp only [Act.put, List.setIfInBounds_toArray, List.set_cons_zero, List.set_cons_succ]
      refine tk 4 (v := ?_) rfl (by kernel_rfl) (by kernel_rfl) (by kernel_rfl) (fun _ _ _ h => h) rfl ?_ hz1 ?_; rotate_left; (focus (intro w hSw; (try dsimp only at hSw);  go_simp; (try with_reducible rfl))); (try simp only [Act.put, List.setIfInBounds_toArray, List.set_cons_zero, List.set_cons_succ])
      refine only 7 rfl (by kernel_rfl) rfl (fun K hK => ?_)
      go_simp
      refine (Wy.out _).mono ?_
      rintro e' w' ⟨rfl, rfl⟩
      try go_wp2_with fail
      refine hK.out _ _ hz1 (fun hz2 => ?_)
      clear hK
      try simp only [Act.put, List.setIfInBounds_toArray, List.set_cons_zero, List.set_cons_succ]
      refine tk 9 (v := ?_) rfl (by kernel_rfl) (by kernel_rfl) (by kernel_rfl) (fun _ _ _ h => h) rfl ?_ hz2 ?_; rotate_left; (focus (intro w hSw; (try dsimp only at hSw);  go_simp; (try with_reducible rfl))); (try simp only [Act.put, List.setIfInBounds_toArray, List.set_cons_zero, List.set_cons_succ])
      refine only 11 rfl (by kernel_rfl) rfl (fun K hK => ?_)
      go_simp
      have SE : Se (w3.alloc (.cells #[.int .i64 1, .int .i64 4, .int .i64 x, .int .i64 1, .int .i64 (U : Int), .int .u64 0, .int .u64 0, .int .i64 2, .int .i64 4, .int .i64 0, .int .i64 0, .int .i64 0, .int .u64 0, .int .u64 0, .int .i64 1, .int .i64 9, .int .i64 y, .int .i64 2, .int .i64 (V : Int), .int .u64 0, .int .u64 0, .int .i64 2, .int .i64 9, .int .i64 0, .int .i64 0, .int .i64 0, .int .u64 0, .int .u64 0] 49)).drew (some ⟨w3.heap.size, 0, none⟩) 4 (gl [⟨1, 4, x, 1, (U : Int), zKy⟩, ⟨2, 4, 0, 0, 0, zKy⟩, ⟨1, 9, y, 2, (V : Int), zKy⟩, ⟨2, 9, 0, 0, 0, zKy⟩]) := Sl.drew (se_made [⟨1, 4, x, 1, (U : Int), zKy⟩, ⟨2, 4, 0, 0, 0, zKy⟩, ⟨1, 9, y, 2, (V : Int), zKy⟩, ⟨2, 9, 0, 0, 0, zKy⟩] rfl)
      have PP := (PP.alloc (.cells #[.int .i64 1, .int .i64 4, .int .i64 x, .int .i64 1, .int .i64 (U : Int), .int .u64 0, .int .u64 0, .int .i64 2, .int .i64 4, .int .i64 0, .int .i64 0, .int .i64 0, .int .u64 0, .int .u64 0, .int .i64 1, .int .i64 9, .int .i64 y, .int .i64 2, .int .i64 (V : Int), .int .u64 0, .int .u64 0, .int .i64 2, .int .i64 9, .int .i64 0, .int .i64 0, .int .i64 0, .int .u64 0, .int .u64 0] 49)).drew
      refine hK.out _ _ (hz2.alloc hz2.size _) (fun hz3 => ?_)
      clear hK
      try simp only [Act.put, List.setIfInBounds_toArray, List.set_cons_zero, List.set_cons_succ]
      generalize (w3.alloc (.cells #[.int .i64 1, .int .i64 4, .int .i64 x, .int .i64 1, .int .i64 (U : Int), .int .u64 0, .int .u64 0, .int .i64 2, .int .i64 4, .int .i64 0, .int .i64 0, .int .i64 0, .int .u64 0, .int .u64 0, .int .i64 1, .int .i64 9, .int .i64 y, .int .i64 2, .int .i64 (V : Int), .int .u64 0, .int .u64 0, .int .i64 2, .int .i64 9, .int .i64 0, .int .i64 0, .int .i64 0, .int .u64 0, .int .u64 0] 49)).drew = w' at *
      refine only 12 rfl (by kernel_rfl) rfl (fun K hK => ?_)
      go_simp
      refine (AL.out _ _ SE).mono ?_
      rintro e' w9 ⟨rfl, hb⟩
      try go_wp2_with fail
      have PP := PP.below hb
      refine hK.out _ _ (hz3.trans (hb.mono hz3.size)) (fun hA => ?_)
      clear hK hb SE
      try simp only [Act.put, List.setIfInBounds_toArray, List.set_cons_zero, List.set_cons_succ]
      refine tk 13 (v := ?_) rfl (by kernel_rfl) (by kernel_rfl) (by kernel_rfl) (fun _ _ _ h => h) rfl ?_ hA ?_; rotate_left; (focus (intro w hSw; (try dsimp only at hSw);  go_simp; (try with_reducible rfl))); (try simp only [Act.put, List.setIfInBounds_toArray, List.set_cons_zero, List.set_cons_succ])
      refine tk 14 (v := ?_) rfl (by kernel_rfl) (by kernel_rfl) (by kernel_rfl) (fun _ _ _ h => h) rfl ?_ hA ?_; rotate_left; (focus (intro w hSw; (try dsimp only at hSw);  go_simp; (try with_reducible rfl))); (try simp only [Act.put, List.setIfInBounds_toArray, List.set_cons_zero, List.set_cons_succ])
      refine tk 15 (v := ?_) rfl (by kernel_rfl) (by kernel_rfl) (by kernel_rfl) (fun _ _ _ h => h) rfl ?_ hA ?_; rotate_left; (focus (intro w hSw; (try dsimp only at hSw);  go_simp; (try with_reducible rfl))); (try simp only [Act.put, List.setIfInBounds_toArray, List.set_cons_zero, List.set_cons_succ])
      refine tk 16 (v := ?_) rfl (by kernel_rfl) (by kernel_rfl) (by kernel_rfl) (fun _ _ _ h => h) rfl ?_ hA ?_; rotate_left; (focus (intro w hSw; (try dsimp only at hSw);  go_simp; (try with_reducible rfl))); (try simp only [Act.put, List.setIfInBounds_toArray, List.set_cons_zero, List.set_cons_succ])
      have ST := PP.storeA q
      have PQ := PP.whole q
      refine only 17 rfl (by kernel_rfl) rfl (fun K hK => ?_)
      refine ov_store rfl rfl rfl ST ?_
      refine hK.out _ _ (hA.trans (keeps_setCells P (PA q).toList 0 _ W.heap.size lP)) (fun hE => ?_)
      clear hK
      try simp only [Act.put, List.setIfInBounds_toArray, List.set_cons_zero, List.set_cons_succ]
      refine wpAnyH_done (by kernel_rfl) ?_ _
      go_wp2_with fail
      go_meet
      exact ⟨PQ, hE⟩
    · go_simp
      refine (Wx.out _).mono ?_
      rintro e' w' ⟨rfl, rfl⟩
      try go_wp2_with fail
      refine hK.out _ _ hHeld (fun hz0 => ?_)
      clear hK
      try simp only [Act.put, List.setIfInBounds_toArray, List.set_cons_zero, List.set_cons_succ]
      refine tk 4 (v := ?_) rfl (by kernel_rfl) (by kernel_rfl) (by kernel_rfl) (fun _ _ _ h => h) rfl ?_ hz0 ?_; rotate_left; (focus (intro w hSw; (try dsimp only at hSw);  go_simp; (try with_reducible rfl))); (try simp only [Act.put, List.setIfInBounds_toArray, List.set_cons_zero, List.set_cons_succ])
      refine twoUp 0 7 rfl rfl (by kernel_rfl) rfl rfl (fun K hK => ?_) (fun K hK => ?_)
      · refine ov_val (ex_load rfl rfl PP.drew.loadA) ?_
        refine hK.out _ _ hz0 (fun hz1 => ?_)
        clear hK
        try simp only [Act.put, List.setIfInBounds_toArray, List.set_cons_zero, List.set_cons_succ]
        refine only 7 rfl (by kernel_rfl) rfl (fun K hK => ?_)
        go_simp
        refine (Wy.out _).mono ?_
        rintro e' w' ⟨rfl, rfl⟩
        try go_wp2_with fail
        refine hK.out _ _ hz1 (fun hz2 => ?_)
        clear hK
        try simp only [Act.put, List.setIfInBounds_toArray, List.set_cons_zero, List.set_cons_succ]
        refine tk 9 (v := ?_) rfl (by kernel_rfl) (by kernel_rfl) (by kernel_rfl) (fun _ _ _ h => h) rfl ?_ hz2 ?_; rotate_left; (focus (intro w hSw; (try dsimp only at hSw);  go_simp; (try with_reducible rfl))); (try simp only [Act.put, List.setIfInBounds_toArray, List.set_cons_zero, List.set_cons_succ])
        refine only 11 rfl (by kernel_rfl) rfl (fun K hK => ?_)
        go_simp
        have SE : Se (w3.alloc (.cells #[.int .i64 1, .int .i64 4, .int .i64 x, .int .i64 1, .int .i64 (U : Int), .int .u64 0, .int .u64 0, .int .i64 2, .int .i64 4, .int .i64 0, .int .i64 0, .int .i64 0, .int .u64 0, .int .u64 0, .int .i64 1, .int .i64 9, .int .i64 y, .int .i64 2, .int .i64 (V : Int), .int .u64 0, .int .u64 0, .int .i64 2, .int .i64 9, .int .i64 0, .int .i64 0, .int .i64 0, .int .u64 0, .int .u64 0] 49)).drew (some ⟨w3.heap.size, 0, none⟩) 4 (gl [⟨1, 4, x, 1, (U : Int), zKy⟩, ⟨2, 4, 0, 0, 0, zKy⟩, ⟨1, 9, y, 2, (V : Int), zKy⟩, ⟨2, 9, 0, 0, 0, zKy⟩]) := Sl.drew (se_made [⟨1, 4, x, 1, (U : Int), zKy⟩, ⟨2, 4, 0, 0, 0, zKy⟩, ⟨1, 9, y, 2, (V : Int), zKy⟩, ⟨2, 9, 0, 0, 0, zKy⟩] rfl)
        have PP := (PP.alloc (.cells #[.int .i64 1, .int .i64 4, .int .i64 x, .int .i64 1, .int .i64 (U : Int), .int .u64 0, .int .u64 0, .int .i64 2, .int .i64 4, .int .i64 0, .int .i64 0, .int .i64 0, .int .u64 0, .int .u64 0, .int .i64 1, .int .i64 9, .int .i64 y, .int .i64 2, .int .i64 (V : Int), .int .u64 0, .int .u64 0, .int .i64 2, .int .i64 9, .int .i64 0, .int .i64 0, .int .i64 0, .int .u64 0, .int .u64 0] 49)).drew
        refine hK.out _ _ (hz2.alloc hz2.size _) (fun hz3 => ?_)
        clear hK
        try simp only [Act.put, List.setIfInBounds_toArray, List.set_cons_zero, List.set_cons_succ]
        generalize (w3.alloc (.cells #[.int .i64 1, .int .i64 4, .int .i64 x, .int .i64 1, .int .i64 (U : Int), .int .u64 0, .int .u64 0, .int .i64 2, .int .i64 4, .int .i64 0, .int .i64 0, .int .i64 0, .int .u64 0, .int .u64 0, .int .i64 1, .int .i64 9, .int .i64 y, .int .i64 2, .int .i64 (V : Int), .int .u64 0, .int .u64 0, .int .i64 2, .int .i64 9, .int .i64 0, .int .i64 0, .int .i64 0, .int .u64 0, .int .u64 0] 49)).drew = w' at *
        refine only 12 rfl (by kernel_rfl) rfl (fun K hK => ?_)
        go_simp
        refine (AL.out _ _ SE).mono ?_
        rintro e' w9 ⟨rfl, hb⟩
        try go_wp2_with fail
        have PP := PP.below hb
        refine hK.out _ _ (hz3.trans (hb.mono hz3.size)) (fun hA => ?_)
        clear hK hb SE
        try simp only [Act.put, List.setIfInBounds_toArray, List.set_cons_zero, List.set_cons_succ]
        refine tk 13 (v := ?_) rfl (by kernel_rfl) (by kernel_rfl) (by kernel_rfl) (fun _ _ _ h => h) rfl ?_ hA ?_; rotate_left; (focus (intro w hSw; (try dsimp only at hSw);  go_simp; (try with_reducible rfl))); (try simp only [Act.put, List.setIfInBounds_toArray, List.set_cons_zero, List.set_cons_succ])
        refine tk 14 (v := ?_) rfl (by kernel_rfl) (by kernel_rfl) (by kernel_rfl) (fun _ _ _ h => h) rfl ?_ hA ?_; rotate_left; (focus (intro w hSw; (try dsimp only at hSw);  go_simp; (try with_reducible rfl))); (try simp only [Act.put, List.setIfInBounds_toArray, List.set_cons_zero, List.set_cons_succ])
        refine tk 15 (v := ?_) rfl (by kernel_rfl) (by kernel_rfl) (by kernel_rfl) (fun _ _ _ h => h) rfl ?_ hA ?_; rotate_left; (focus (intro w hSw; (try dsimp only at hSw);  go_simp; (try with_reducible rfl))); (try simp only [Act.put, List.setIfInBounds_toArray, List.set_cons_zero, List.set_cons_succ])
        refine tk 16 (v := ?_) rfl (by kernel_rfl) (by kernel_rfl) (by kernel_rfl) (fun _ _ _ h => h) rfl ?_ hA ?_; rotate_left; (focus (intro w hSw; (try dsimp only at hSw);  go_simp; (try with_reducible rfl))); (try simp only [Act.put, List.setIfInBounds_toArray, List.set_cons_zero, List.set_cons_succ])
        have ST := PP.storeA q
        have PQ := PP.whole q
        refine only 17 rfl (by kernel_rfl) rfl (fun K hK => ?_)
        refine ov_store rfl rfl rfl ST ?_
        refine hK.out _ _ (hA.trans (keeps_setCells P (PA q).toList 0 _ W.heap.size lP)) (fun hE => ?_)
        clear hK
        try simp only [Act.put, List.setIfInBounds_toArray, List.set_cons_zero, List.set_cons_succ]
        refine wpAnyH_done (by kernel_rfl) ?_ _
        go_wp2_with fail
        go_meet
        exact ⟨PQ, hE⟩
      · go_simp
        refine (Wy.out _).mono ?_
        rintro e' w' ⟨rfl, rfl⟩
        try go_wp2_with fail
        refine hK.out _ _ hz0 (fun hz1 => ?_)
        clear hK
        try simp only [Act.put, List.setIfInBounds_toArray, List.set_cons_zero, List.set_cons_succ]
        refine tk 9 (v := ?_) rfl (by kernel_rfl) (by kernel_rfl) (by kernel_rfl) (fun _ _ _ h => h) rfl ?_ hz1 ?_; rotate_left; (focus (intro w hSw; (try dsimp only at hSw);  go_simp; (try with_reducible rfl))); (try simp only [Act.put, List.setIfInBounds_toArray, List.set_cons_zero, List.set_cons_succ])
        refine twoUp 0 11 rfl rfl (by kernel_rfl) rfl rfl (fun K hK => ?_) (fun K hK => ?_)
        · refine ov_val (ex_load rfl rfl PP.drew.loadA) ?_
          refine hK.out _ _ hz1 (fun hz2 => ?_)
          clear hK
          try simp only [Act.put, List.setIfInBounds_toArray, List.set_cons_zero, List.set_cons_succ]
          refine only 11 rfl (by kernel_rfl) rfl (fun K hK => ?_)
          go_simp
          have SE : Se (w3.alloc (.cells #[.int .i64 1, .int .i64 4, .int .i64 x, .int .i64 1, .int .i64 (U : Int), .int .u64 0, .int .u64 0, .int .i64 2, .int .i64 4, .int .i64 0, .int .i64 0, .int .i64 0, .int .u64 0, .int .u64 0, .int .i64 1, .int .i64 9, .int .i64 y, .int .i64 2, .int .i64 (V : Int), .int .u64 0, .int .u64 0, .int .i64 2, .int .i64 9, .int .i64 0, .int .i64 0, .int .i64 0, .int .u64 0, .int .u64 0] 49)).drew (some ⟨w3.heap.size, 0, none⟩) 4 (gl [⟨1, 4, x, 1, (U : Int), zKy⟩, ⟨2, 4, 0, 0, 0, zKy⟩, ⟨1, 9, y, 2, (V : Int), zKy⟩, ⟨2, 9, 0, 0, 0, zKy⟩]) := Sl.drew (se_made [⟨1, 4, x, 1, (U : Int), zKy⟩, ⟨2, 4, 0, 0, 0, zKy⟩, ⟨1, 9, y, 2, (V : Int), zKy⟩, ⟨2, 9, 0, 0, 0, zKy⟩] rfl)
          have PP := (PP.alloc (.cells #[.int .i64 1, .int .i64 4, .int .i64 x, .int .i64 1, .int .i64 (U : Int), .int .u64 0, .int .u64 0, .int .i64 2, .int .i64 4, .int .i64 0, .int .i64 0, .int .i64 0, .int .u64 0, .int .u64 0, .int .i64 1, .int .i64 9, .int .i64 y, .int .i64 2, .int .i64 (V : Int), .int .u64 0, .int .u64 0, .int .i64 2, .int .i64 9, .int .i64 0, .int .i64 0, .int .i64 0, .int .u64 0, .int .u64 0] 49)).drew
          refine hK.out _ _ (hz2.alloc hz2.size _) (fun hz3 => ?_)
          clear hK
          try simp only [Act.put, List.setIfInBounds_toArray, List.set_cons_zero, List.set_cons_succ]
          generalize (w3.alloc (.cells #[.int .i64 1, .int .i64 4, .int .i64 x, .int .i64 1, .int .i64 (U : Int), .int .u64 0, .int .u64 0, .int .i64 2, .int .i64 4, .int .i64 0, .int .i64 0, .int .i64 0, .int .u64 0, .int .u64 0, .int .i64 1, .int .i64 9, .int .i64 y, .int .i64 2, .int .i64 (V : Int), .int .u64 0, .int .u64 0, .int .i64 2, .int .i64 9, .int .i64 0, .int .i64 0, .int .i64 0, .int .u64 0, .int .u64 0] 49)).drew = w' at *
          refine only 12 rfl (by kernel_rfl) rfl (fun K hK => ?_)
          go_simp
          refine (AL.out _ _ SE).mono ?_
          rintro e' w9 ⟨rfl, hb⟩
          try go_wp2_with fail
          have PP := PP.below hb
          refine hK.out _ _ (hz3.trans (hb.mono hz3.size)) (fun hA => ?_)
          clear hK hb SE
          try simp only [Act.put, List.setIfInBounds_toArray, List.set_cons_zero, List.set_cons_succ]
          refine tk 13 (v := ?_) rfl (by kernel_rfl) (by kernel_rfl) (by kernel_rfl) (fun _ _ _ h => h) rfl ?_ hA ?_; rotate_left; (focus (intro w hSw; (try dsimp only at hSw);  go_simp; (try with_reducible rfl))); (try simp only [Act.put, List.setIfInBounds_toArray, List.set_cons_zero, List.set_cons_succ])
          refine tk 14 (v := ?_) rfl (by kernel_rfl) (by kernel_rfl) (by kernel_rfl) (fun _ _ _ h => h) rfl ?_ hA ?_; rotate_left; (focus (intro w hSw; (try dsimp only at hSw);  go_simp; (try with_reducible rfl))); (try simp only [Act.put, List.setIfInBounds_toArray, List.set_cons_zero, List.set_cons_succ])
          refine tk 15 (v := ?_) rfl (by kernel_rfl) (by kernel_rfl) (by kernel_rfl) (fun _ _ _ h => h) rfl ?_ hA ?_; rotate_left; (focus (intro w hSw; (try dsimp only at hSw);  go_simp; (try with_reducible rfl))); (try simp only [Act.put, List.setIfInBounds_toArray, List.set_cons_zero, List.set_cons_succ])
          refine tk 16 (v := ?_) rfl (by kernel_rfl) (by kernel_rfl) (by kernel_rfl) (fun _ _ _ h => h) rfl ?_ hA ?_; rotate_left; (focus (intro w hSw; (try dsimp only at hSw);  go_simp; (try with_reducible rfl))); (try simp only [Act.put, List.setIfInBounds_toArray, List.set_cons_zero, List.set_cons_succ])
          have ST := PP.storeA q
          have PQ := PP.whole q
          refine only 17 rfl (by kernel_rfl) rfl (fun K hK => ?_)
          refine ov_store rfl rfl rfl ST ?_
          refine hK.out _ _ (hA.trans (keeps_setCells P (PA q).toList 0 _ W.heap.size lP)) (fun hE => ?_)
          clear hK
          try simp only [Act.put, List.setIfInBounds_toArray, List.set_cons_zero, List.set_cons_succ]
          refine wpAnyH_done (by kernel_rfl) ?_ _
          go_wp2_with fail
          go_meet
          exact ⟨PQ, hE⟩
        · go_simp
          have SE : Se (w3.alloc (.cells #[.int .i64 1, .int .i64 4, .int .i64 x, .int .i64 1, .int .i64 (U : Int), .int .u64 0, .int .u64 0, .int .i64 2, .int .i64 4, .int .i64 0, .int .i64 0, .int .i64 0, .int .u64 0, .int .u64 0, .int .i64 1, .int .i64 9, .int .i64 y, .int .i64 2, .int .i64 (V : Int), .int .u64 0, .int .u64 0, .int .i64 2, .int .i64 9, .int .i64 0, .int .i64 0, .int .i64 0, .int .u64 0, .int .u64 0] 49)).drew (some ⟨w3.heap.size, 0, none⟩) 4 (gl [⟨1, 4, x, 1, (U : Int), zKy⟩, ⟨2, 4, 0, 0, 0, zKy⟩, ⟨1, 9, y, 2, (V : Int), zKy⟩, ⟨2, 9, 0, 0, 0, zKy⟩]) := Sl.drew (se_made [⟨1, 4, x, 1, (U : Int), zKy⟩, ⟨2, 4, 0, 0, 0, zKy⟩, ⟨1, 9, y, 2, (V : Int), zKy⟩, ⟨2, 9, 0, 0, 0, zKy⟩] rfl)
          have PP := (PP.alloc (.cells #[.int .i64 1, .int .i64 4, .int .i64 x, .int .i64 1, .int .i64 (U : Int), .int .u64 0, .int .u64 0, .int .i64 2, .int .i64 4, .int .i64 0, .int .i64 0, .int .i64 0, .int .u64 0, .int .u64 0, .int .i64 1, .int .i64 9, .int .i64 y, .int .i64 2, .int .i64 (V : Int), .int .u64 0, .int .u64 0, .int .i64 2, .int .i64 9, .int .i64 0, .int .i64 0, .int .i64 0, .int .u64 0, .int .u64 0] 49)).drew
          refine hK.out _ _ (hz1.alloc hz1.size _) (fun hz2 => ?_)
          clear hK
          try simp only [Act.put, List.setIfInBounds_toArray, List.set_cons_zero, List.set_cons_succ]
          generalize (w3.alloc (.cells #[.int .i64 1, .int .i64 4, .int .i64 x, .int .i64 1, .int .i64 (U : Int), .int .u64 0, .int .u64 0, .int .i64 2, .int .i64 4, .int .i64 0, .int .i64 0, .int .i64 0, .int .u64 0, .int .u64 0, .int .i64 1, .int .i64 9, .int .i64 y, .int .i64 2, .int .i64 (V : Int), .int .u64 0, .int .u64 0, .int .i64 2, .int .i64 9, .int .i64 0, .int .i64 0, .int .i64 0, .int .u64 0, .int .u64 0] 49)).drew = w' at *
          refine only 0 rfl (by kernel_rfl) rfl (fun K hK => ?_)
          refine ov_val (ex_load rfl rfl PP.loadA) ?_
          refine hK.out _ _ hz2 (fun hz3 => ?_)
          clear hK
          try simp only [Act.put, List.setIfInBounds_toArray, List.set_cons_zero, List.set_cons_succ]
          refine only 12 rfl (by kernel_rfl) rfl (fun K hK => ?_)
          go_simp
          refine (AL.out _ _ SE).mono ?_
          rintro e' w9 ⟨rfl, hb⟩
          try go_wp2_with fail
          have PP := PP.below hb
          refine hK.out _ _ (hz3.trans (hb.mono hz3.size)) (fun hA => ?_)
          clear hK hb SE
          try simp only [Act.put, List.setIfInBounds_toArray, List.set_cons_zero, List.set_cons_succ]
          refine tk 13 (v := ?_) rfl (by kernel_rfl) (by kernel_rfl) (by kernel_rfl) (fun _ _ _ h => h) rfl ?_ hA ?_; rotate_left; (focus (intro w hSw; (try dsimp only at hSw);  go_simp; (try with_reducible rfl))); (try simp only [Act.put, List.setIfInBounds_toArray, List.set_cons_zero, List.set_cons_succ])
          refine tk 14 (v := ?_) rfl (by kernel_rfl) (by kernel_rfl) (by kernel_rfl) (fun _ _ _ h => h) rfl ?_ hA ?_; rotate_left; (focus (intro w hSw; (try dsimp only at hSw);  go_simp; (try with_reducible rfl))); (try simp only [Act.put, List.setIfInBounds_toArray, List.set_cons_zero, List.set_cons_succ])
          refine tk 15 (v := ?_) rfl (by kernel_rfl) (by kernel_rfl) (by kernel_rfl) (fun _ _ _ h => h) rfl ?_ hA ?_; rotate_left; (focus (intro w hSw; (try dsimp only at hSw);  go_simp; (try with_reducible rfl))); (try simp only [Act.put, List.setIfInBounds_toArray, List.set_cons_zero, List.set_cons_succ])
          refine tk 16 (v := ?_) rfl (by kernel_rfl) (by kernel_rfl) (by kernel_rfl) (fun _ _ _ h => h) rfl ?_ hA ?_; rotate_left; (focus (intro w hSw; (try dsimp only at hSw);  go_simp; (try with_reducible rfl))); (try simp only [Act.put, List.setIfInBounds_toArray, List.set_cons_zero, List.set_cons_succ])
          have ST := PP.storeA q
          have PQ := PP.whole q
          refine only 17 rfl (by kernel_rfl) rfl (fun K hK => ?_)
          refine ov_store rfl rfl rfl ST ?_
          refine hK.out _ _ (hA.trans (keeps_setCells P (PA q).toList 0 _ W.heap.size lP)) (fun hE => ?_)
          clear hK
          try simp only [Act.put, List.setIfInBounds_toArray, List.set_cons_zero, List.set_cons_succ]
          refine wpAnyH_done (by kernel_rfl) ?_ _
          go_wp2_with fail
          go_meet
          exact ⟨PQ, hE⟩
  case rest =>
    obtain ⟨hQ, hB⟩ := hcut
    have S5 := hid ((SG.start hB).cons hQ)
    clear hQ hB S3 AL
    obtain ⟨hmn, gm, gn⟩ := HMN.out
    have hn127 := HN.out
    go_upto_region 6 with (fail)
    have LP := (SG.get S5.out (b := P) (p := q) (by simp)).loadA
    go_wp2_with ((with_reducible refine wl_id ?_); refine wl_load rfl rfl rfl LP ?_)
    refine (M7.out _).mono ?_
    rintro x' w6 ⟨B, rfl, lB, hI, hb⟩
    clear LP
    have I6 := hid hI
    have S6 := hid (S5.out.below hb)
    clear hI hb S5 M7
    go_wp2_with fail
    refine (S4.out B _ I6.out).mono ?_
    rintro x' w' ⟨rfl, rfl⟩
    go_wp2_with fail
    refine (S9.out B _ I6.out).mono ?_
    rintro x' w' ⟨rfl, rfl⟩
    obtain ⟨h1, h2, h3⟩ := HH.out
    obtain ⟨l1, l2⟩ := HL.out
    have LP := (SG.get S6.out (b := P) (p := q) (by simp)).loadA
    have m0 : (0 : Int) ≤ m := by omega
    have m1 : (m : Int) ≤ 127 := by omega
    have n0 : (0 : Int) ≤ n := by omega
    have n1 : (n : Int) ≤ 127 := by omega
    go_wp2_with ((with_reducible refine wl_id ?_); refine wl_load rfl rfl rfl LP ?_)
    refine (R7.out _).mono ?_
    rintro x' w7 ⟨B2, rfl, lB2, hI2, hb⟩
    have I7 := hid (I6.out.below hb)
    have B7 := hid (S6.out.bl.trans (hb.mono S6.out.bl.size))
    have J7 := hid hI2
    clear hI2 hb
    go_wp2_with fail
    refine (same_any (some ⟨B, 0, none⟩) (some ⟨B2, 0, none⟩) 127 127 127 _ _ _ I7.out.slice J7.out.slice (fun j _ => rfl) (by decide)).mono ?_
    rintro x' w8 ⟨rfl, hb⟩
    go_wp2_with fail
    go_ret
    exact ⟨rfl, B7.out.trans (hb.mono B7.out.size)⟩

set_option maxRecDepth 100000 in
theorem lifted (os : Os) (started : os.Started) (H : Type) (enc : TypeId × Value → H) :
    ReturnsInHanded {} Try.checked os 9 .any (Rows.wheelWeightsSpec.pre6 enc Try.prog Try.f9 [] false) (Rows.wheelWeightsSpec.post enc Try.prog Try.f9 false true false false) :=
  law_step (s := Rows.wheelWeightsSpec) started (by kernel_rfl) Try.func9
    (ChangeSpec.witness6 (s := Rows.wheelWeightsSpec) (enc := enc) (C := Try.checked) false ⟨#[], #[.int .i64 0, .int .i64 0, .int .i64 0, .int .i64 0], []⟩ 8 (by kernel_rfl) (by kernel_rfl) (by kernel_rfl) (by kernel_rfl))
    rfl (by rw [Try.params9]; decide +kernel) rfl Try.underlying4
    (fun ds h => by
      rw [Try.params9] at h
      match ds, h with
      | [_, _, _, _], _ => rfl)
    (fun W base args ds ps hval hA hsz => by
      rw [Try.params9] at hA hval hsz
      obtain ⟨v0, vs0, d0, ds0, p0, q0, hargs, rfl, rfl, h0, r0⟩ := trodAll_cons hA
      obtain ⟨v1, vs1, d1, ds1, p1, q1, rfl, rfl, rfl, h1, r1⟩ := trodAll_cons r0
      obtain ⟨v2, vs2, d2, ds2, p2, q2, rfl, rfl, rfl, h2, r2⟩ := trodAll_cons r1
      obtain ⟨v3, vs3, d3, ds3, p3, q3, rfl, rfl, rfl, h3, r3⟩ := trodAll_cons r2
      obtain ⟨rfl, rfl, rfl⟩ := trodAll_nil r3
      obtain rfl : args = #[v0, v1, v2, v3] := by cases args; simp_all
      obtain ⟨a0, rfl, rfl, rfl, w0⟩ := open_int Try.underlying3 (hval 0 3 v0 rfl rfl) h0
      obtain ⟨a1, rfl, rfl, rfl, w1⟩ := open_int Try.underlying3 (hval 1 3 v1 rfl rfl) h1
      obtain ⟨a2, rfl, rfl, rfl, w2⟩ := open_int Try.underlying3 (hval 2 3 v2 rfl rfl) h2
      obtain ⟨a3, rfl, rfl, rfl, w3⟩ := open_int Try.underlying3 (hval 3 3 v3 rfl rfl) h3
      exact walk W a0 (bounds_i64 w0) a1 (bounds_i64 w1) a2 (bounds_i64 w2) a3 (bounds_i64 w3))

theorem proved : Rows.WheelWeightsSaid :=
  OpenClaim.holds_of_wide 9 Try.f9 rfl rfl rfl rfl rfl rfl rfl ⟨rfl, rfl, rfl, rfl, rfl⟩ rfl rfl rfl rfl rfl (by kernel_rfl) Try.func9 (by kernel_rfl)
    (of_decide_eq_true (by kernel_rfl)) (by unfold Func.isWrapper; first | (rw [if_pos (by decide +kernel)]; kernel_rfl) | (rw [if_neg (by decide +kernel)]; exact ⟨rfl, rfl⟩))
    (fun os started H enc _ => lifted os started H enc)
end Go.Proofs.Ytejlfbiehcfbgaa.wheelWeights
