/- roundhouselaw3.WireAges answers true for any kind, any numbers, any bytes, any life; no condition. -/
import Derived.Test.YtjljaecjnpmdoaaWirLaw
import Derived.Test.YtjljaecjnpmdoaaWirLawP
import Derived.Test.YtjljaecjnpmdoaaTakes
import Derived.BigQuiet
import Derived.Deep.RegionHeld3
import Derived.Deep.Cut
namespace Go.Proofs.Ytjljaecjnpmdoaa.wireAges
set_option linter.unusedVariables false
set_option linter.unusedSimpArgs false
open Go.RowKit Go.ChangeShapes Go.WideShapes Go.ChangeAt

set_option maxRecDepth 100000 in
set_option maxHeartbeats 4000000 in
theorem walk (W : World) (a0 : Int) (r_a0 : -9223372036854775808 ≤ a0 ∧ a0 ≤ 9223372036854775807) (A1 : Option Addr) (n1 c1 : Nat) (g1 : Nat → Int) (hn1 : n1 ≤ c1) (hc1 : c1 ≤ maxLen) (hr1 : Is W A1 n1 g1) (hg1 : IsI g1) (hl1 : ∀ ad, A1 = some ad → 0 < n1 → ad.block < W.heap.size) (re1 : c1 * 8 ≤ 140737488351232) (A2 : Option Addr) (n2 c2 : Nat) (g2 : Nat → Int) (hn2 : n2 ≤ c2) (hc2 : c2 ≤ maxLen) (hr2 : By W A2 n2 g2) (hg2 : IsB g2) (hl2 : ∀ ad, A2 = some ad → 0 < n2 → ad.block < W.heap.size) (re2 : c2 * 1 ≤ 140737488351232) (a3 : Int) (r_a3 : -9223372036854775808 ≤ a3 ∧ a3 ≤ 9223372036854775807) :
    Calls Try.prog 11 #[.int .i64 a0, .slice A1 n1 c1, .slice A2 n2 c2, .int .i64 a3] W fun e w' => e = .returned (.bool true) ∧ Below W.heap.size W w' := by
  have HG := hid hg2
  have m1 : (n1 : Int) ≤ 9223372036854775807 := by unfold maxLen at hc1; omega
  have m2 : (n2 : Int) ≤ 9223372036854775807 := by unfold maxLen at hc2; omega
  have H1 := hid (hr1)
  have H2 := hid (hr2)
  obtain ⟨p, hp⟩ : ∃ p, p = mkPk a0 (nv g1 n1) g2 n2 := ⟨_, rfl⟩
  obtain ⟨L, hL⟩ : ∃ L, L = lenP p := ⟨_, rfl⟩
  obtain ⟨F, hF⟩ : ∃ F, F = builtF p := ⟨_, rfl⟩
  have M := mk_all hp HG.out hL hF
  have MK := hid (make_p p a0 A1 n1 c1 g1 A2 n2 c2 g2 hp HG.out m1 hn2 m2)
  have BU := hid (build_p p L F hL hF M.E M.go M.gd (Nat.le_trans M.no (by decide)) (Nat.le_trans M.nd (by decide)))
  have RB := hid (rbuild_p p L F hL hF M.E M.go M.gd (Nat.le_trans M.no (by decide)) (Nat.le_trans M.nd (by decide)))
  have HM := hid M
  have L0 := M.L0
  have L1 := M.L1
  have LN : L ≤ 1000000 := by omega
  clear M
  clear hp hL hF hr1 hr2 hg1 hg2 hl1 hl2 re1 re2 hc1 hc2 m1 m2
  clear BU RB
  obtain ⟨n, hn⟩ : ∃ x, x = wi a3 256 := ⟨_, rfl⟩
  have bn := wi_bd a3 256 (by omega)
  rw [← hn] at bn
  have Wn := hid (fun w => re_i64 (within_any a3 256 w (by omega) (by omega)) hn.symm)
  clear hn
  obtain ⟨bn1, bn2⟩ := bn
  obtain ⟨K, hK⟩ : ∃ K, K = lenP { p with life := n } := ⟨_, rfl⟩
  obtain ⟨Z, hZ⟩ : ∃ Z, Z = builtF { p with life := n } := ⟨_, rfl⟩
  have M := HM.out
  have M2 := mk_any (p := { p with life := n }) (life_E M.E bn1 (by omega)) ⟨M.C.k3, M.C.k1, M.C.k2, M.C.kc⟩ M.go M.gd M.no M.nd hK hZ
  have RB := rbuild_p { p with life := n } K Z hK hZ M2.E M2.go M2.gd (Nat.le_trans M2.no (by decide)) (Nat.le_trans M2.nd (by decide))
  dsimp only at RB
  replace RB := hid RB
  have ZB := hid M2.B
  have ZP := hid M2.P
  have ZL := hid (pe_life M2.P M2.pe)
  dsimp only at ZL
  have K0 := M2.L0
  have K1 := M2.L1
  clear M M2 hK hZ HM L0 L1 LN
  go_enter Try.func11, Try.ntmps11
  go_wp2_with fail
  refine (known_any _).mono ?_
  rintro e w1 ⟨rfl, hb⟩
  have S1 := hid hb
  clear hb
  go_wp2_with fail
  refine (MK.out w1 (Sl.below H1.out S1.out (Nat.le_refl _)) (Sl.below H2.out S1.out (Nat.le_refl _))).mono ?_
  rintro e w2 ⟨AO, cO, AD, cD, rfl, hO, hD, hb⟩
  have S2 := hid hb
  clear hb
  have RO := hid (hO)
  have RD := hid (hD)
  clear hO hD
  clear MK
  go_upto_region 4 with (fail)
  have C1 := hid (Ce.made (w := w2) (l := [.int .i64 p.kind, .int .i64 p.life, .int .i64 p.piece, .int .i64 p.src, .int .i64 p.dst, .int .i64 p.fp, .int .i64 p.tp, .int .i64 p.flags, .int .i64 p.label, .bool p.bare, .int .i64 p.code, .slice AO p.no cO, .slice AD p.nd cD]) (T := 26) rfl)
  simp only [List.toArray] at C1
  have S3 := hid ((Below.refl w2.heap.size w2).alloc (Nat.le_refl _) (.cells #[.int .i64 p.kind, .int .i64 p.life, .int .i64 p.piece, .int .i64 p.src, .int .i64 p.dst, .int .i64 p.fp, .int .i64 p.tp, .int .i64 p.flags, .int .i64 p.label, .bool p.bare, .int .i64 p.code, .slice AO p.no cO, .slice AD p.nd cD] 26))
  generalize (w2.alloc (.cells #[.int .i64 p.kind, .int .i64 p.life, .int .i64 p.piece, .int .i64 p.src, .int .i64 p.dst, .int .i64 p.fp, .int .i64 p.tp, .int .i64 p.flags, .int .i64 p.label, .bool p.bare, .int .i64 p.code, .slice AO p.no cO, .slice AD p.nd cD] 26)) = w3 at *
  generalize hP1 : w2.heap.size = P1 at C1 ⊢
  have HP1 := hid hP1
  clear hP1
  have y1 := C1.out.2.1 1 _ rfl
  have f1 := C1.out.2.2 1
  go_wp2_with fail
  refine (Wn.out _).mono ?_
  rintro e w' ⟨rfl, rfl⟩
  go_upto_region 5 with (fail)
  clear y1 f1
  have S4 := hid ((Below.setCell (p := ⟨P1, 1, none⟩) (B := w2.heap.size) S3.out (by rw [HP1.out]; exact Nat.le_refl _) (.int .i64 n)))
  have C1N := hid (Ce.set C1.out 1 (.int .i64 n) (by simp))
  simp only [List.set_cons_zero, List.set_cons_succ] at C1N
  clear S3 C1
  have C1 := C1N
  clear C1N
  generalize (w3.setCell ⟨P1, 1, none⟩ (.int .i64 n)) = w4 at *
  have yC := (Ce.below C1.out (Below.refl _ _))
  have y0 := yC.2.1 0 _ rfl
  have y1 := yC.2.1 1 _ rfl
  have y2 := yC.2.1 2 _ rfl
  have y3 := yC.2.1 3 _ rfl
  have y4 := yC.2.1 4 _ rfl
  have y5 := yC.2.1 5 _ rfl
  have y6 := yC.2.1 6 _ rfl
  have y7 := yC.2.1 7 _ rfl
  have y8 := yC.2.1 8 _ rfl
  have y9 := yC.2.1 9 _ rfl
  have y10 := yC.2.1 10 _ rfl
  have y11 := yC.2.1 11 _ rfl
  have y12 := yC.2.1 12 _ rfl
  clear yC
  go_wp2_with fail
  refine (RB.out AO cO AD cD w4 (Sl.below RO.out S4.out (Nat.le_refl _)) (Sl.below RD.out S4.out (Nat.le_refl _))).mono ?_
  rintro e w5 ⟨A5, c5, rfl, hO, hc5, hb⟩
  have S5 := hid hb
  clear hb
  have R5 := hid (hO.sl1)
  clear hO RB
  clear y0 y1 y2 y3 y4 y5 y6 y7 y8 y9 y10 y11 y12
  go_upto_region 6 with (fail)
  have yC := (Ce.below C1.out S5.out)
  have y1 := yC.2.1 1 _ rfl
  clear yC
  go_wp2_with fail
  clear y1
  go_loopw [10, 12, 13, 14, 15, 16] (fun b n _ _ _ _ wr => ∃ (k : Int) (A : Option Addr) (c : Nat) (g : Nat → Int), 0 ≤ k ∧ k ≤ 255 ∧ n = .int .i64 k ∧ b = .slice A K c ∧ K ≤ c ∧ By wr A K g ∧ IsB g ∧ parseE g K = 0 ∧ g 1 = k ∧ Below w5.heap.size w5 wr) (fun _ n _ _ _ _ _ => (intOf n).toNat)
  case atStart => exact ⟨n, A5, c5, Z, bn1, by omega, rfl, rfl, hc5, R5.out, ZB.out, ZP.out, ZL.out, Below.refl _ _⟩
  case round =>
    obtain ⟨k, A, c, g, hk0, hk1, rfl, rfl, hc, hr, hg, hP, hl, hb⟩ := hrel
    have BR := hid hb
    have HR := hid hr
    have HG := hid hg
    have HP := hid hP
    have HL := hid hl
    clear hb hr hg hP hl
    by_cases hlt : 1 < k
    · have AQ := hid (age_q g K 0 K (ageF g) (age_yes HP.out (by rw [HL.out]; exact hlt)).symm (by simp) rfl HG.out (by omega) A c hc wr (Sl.below HR.out (Below.refl _ _) (Nat.le_refl _)))
      have GB := hid (age_isB HG.out (age_yes HP.out (by rw [HL.out]; exact hlt)))
      have GP := hid (age_parse HG.out (age_yes HP.out (by rw [HL.out]; exact hlt)))
      have G1 : Hid (ageF g 1 = k - 1) := hid (by rw [age_1, HL.out])
      have GO : Hid (∀ j, ageF g (16 + j) = g (16 + j)) := hid (fun j => age_out (by omega) (.inr (by omega)))
      generalize ageF g = z at AQ GB GP G1 GO
      go_wp2_with fail
      refine (AQ.out).mono ?_
      rintro e w7 ⟨A7, c7, rfl, hO, hc7, hb⟩
      have S6 := hid hb
      clear hb
      have R7 := hid (hO.sl1)
      clear hO AQ
      obtain ⟨q, hq⟩ : ∃ q, q = parseR z K := ⟨_, rfl⟩
      have QL : Hid (q.life = k - 1) := hid (by rw [hq, (parse_life GP.out).1, G1.out])
      go_wp2_with fail
      refine (parse_q q 0 z K hq GP.out.symm GB.out (by omega) A7 c7 hc7 w7 (Sl.below R7.out (Below.refl _ _) (Nat.le_refl _))).mono ?_
      rintro e w8 ⟨AO2, cO2, AD2, cD2, rfl, hO, hD, hb⟩
      have S7 := hid hb
      clear hb
      clear hO hD hq
      go_upto_region 11 with (fail)
      have C2 := hid (Ce.made (w := w8) (l := [.int .i64 q.kind, .int .i64 q.life, .int .i64 q.piece, .int .i64 q.src, .int .i64 q.dst, .int .i64 q.fp, .int .i64 q.tp, .int .i64 q.flags, .int .i64 q.label, .bool q.bare, .int .i64 q.code, .slice AO2 q.no cO2, .slice AD2 q.nd cD2]) (T := 26) rfl)
      simp only [List.toArray] at C2
      have S8 := hid ((Below.refl w8.heap.size w8).alloc (Nat.le_refl _) (.cells #[.int .i64 q.kind, .int .i64 q.life, .int .i64 q.piece, .int .i64 q.src, .int .i64 q.dst, .int .i64 q.fp, .int .i64 q.tp, .int .i64 q.flags, .int .i64 q.label, .bool q.bare, .int .i64 q.code, .slice AO2 q.no cO2, .slice AD2 q.nd cD2] 26))
      generalize (w8.alloc (.cells #[.int .i64 q.kind, .int .i64 q.life, .int .i64 q.piece, .int .i64 q.src, .int .i64 q.dst, .int .i64 q.fp, .int .i64 q.tp, .int .i64 q.flags, .int .i64 q.label, .bool q.bare, .int .i64 q.code, .slice AO2 q.no cO2, .slice AD2 q.nd cD2] 26)) = w9 at *
      generalize hP2 : w8.heap.size = P2 at C2 ⊢
      have HP2 := hid hP2
      clear hP2
      have y1 := C2.out.2.1 1 _ rfl
      rw [QL.out] at y1
      obtain ⟨X1, x1, s1⟩ := cut_from_b A7 K c7 16 (by omega) hc7 16 rfl
      obtain ⟨X2, x2, s2⟩ := cut_from_b A K c 16 (by omega) hc 16 rfl
      have v1 := hid (fun n => conv_str (c7 - 16) (Sl.drewN (s1 _ _ (Sl.below R7.out (then_ S7.out S8.out) (Nat.le_refl _))) n))
      have v2 := hid (fun n => conv_str (c - 16) (Sl.drewN (s2 _ _ (Sl.below HR.out (then_ (then_ S6.out S7.out) S8.out) (Nat.le_refl _))) n))
      have ev : Hid (bstr (fun j => z (16 + j)) (K - 16) = bstr (fun j => g (16 + j)) (K - 16)) := hid (bstr_ext fun j _ => GO.out j)
      rw [ev.out] at v1
      generalize bstr (fun j => g (16 + j)) (K - 16) = S at v1 v2
      clear ev s1 s2
      have ek : IntKind.i64.wrap (k - 1) = k - 1 := IntWalk.i64_in _ (by omega)
      have kq : (16 : Int) ≤ K := by omega
      have kq7 : (K : Int) ≤ c7 := by omega
      have kqc : (K : Int) ≤ c := by omega
      refine wp_region_held_drew (S := fun w' => w'.cell? ⟨P2, 1, none⟩ = some (.int .i64 (k - 1)) ∧ (convert 23 9 (.slice X1 (K - 16) (c7 - 16))).run Try.prog w' = .ok (.string S) w' ∧ (convert 23 9 (.slice X2 (K - 16) (c - 16))).run Try.prog w' = .ok (.string S) w') (by kernel_rfl) ⟨y1, v1.out 1, v2.out 1⟩ (fun hHeld => ?_)
      refine tk 0 (v := ?_) rfl (by kernel_rfl) (by kernel_rfl) (by kernel_rfl) (fun _ _ _ h => h) rfl ?_ (by assumption) ?_; rotate_left; (focus (intro w hSw; (try dsimp only at hSw); go_simp; (try with_reducible rfl))); (try simp only [Act.put, List.setIfInBounds_toArray, List.set_cons_zero, List.set_cons_succ])
      refine tk 1 (v := ?_) rfl (by kernel_rfl) (by kernel_rfl) (by kernel_rfl) (fun _ _ _ h => h) rfl ?_ (by assumption) ?_; rotate_left; (focus (intro w hSw; (try dsimp only at hSw); go_simp; (try with_reducible rfl))); (try simp only [Act.put, List.setIfInBounds_toArray, List.set_cons_zero, List.set_cons_succ])
      refine tk 2 (v := ?_) rfl (by kernel_rfl) (by kernel_rfl) (by kernel_rfl) (fun _ _ _ h => h) rfl ?_ (by assumption) ?_; rotate_left; (focus (intro w hSw; (try dsimp only at hSw); go_simp; (try with_reducible rfl))); (try simp only [Act.put, List.setIfInBounds_toArray, List.set_cons_zero, List.set_cons_succ])
      refine tk 3 (v := ?_) rfl (by kernel_rfl) (by kernel_rfl) (by kernel_rfl) (fun _ _ _ h => h) rfl ?_ (by assumption) ?_; rotate_left; (focus (intro w hSw; (try dsimp only at hSw); go_simp; (try with_reducible rfl))); (try simp only [Act.put, List.setIfInBounds_toArray, List.set_cons_zero, List.set_cons_succ])
      refine tk 4 (v := ?_) rfl (by kernel_rfl) (by kernel_rfl) (by kernel_rfl) (fun _ _ _ h => h) rfl ?_ (by assumption) ?_; rotate_left; (focus (intro w hSw; (try dsimp only at hSw); go_simp; (try with_reducible rfl))); (try simp only [Act.put, List.setIfInBounds_toArray, List.set_cons_zero, List.set_cons_succ])
      refine tk 5 (v := ?_) rfl (by kernel_rfl) (by kernel_rfl) (by kernel_rfl) (fun _ _ _ h => h) rfl ?_ (by assumption) ?_; rotate_left; (focus (intro w hSw; (try dsimp only at hSw); go_simp; (try with_reducible rfl))); (try simp only [Act.put, List.setIfInBounds_toArray, List.set_cons_zero, List.set_cons_succ])
      refine tk 6 (v := ?_) rfl (by kernel_rfl) (by kernel_rfl) (by kernel_rfl) (fun _ _ _ h => h) rfl ?_ (by assumption) ?_; rotate_left; (focus (intro w hSw; (try dsimp only at hSw); go_simp; (try with_reducible rfl))); (try simp only [Act.put, List.setIfInBounds_toArray, List.set_cons_zero, List.set_cons_succ])
      refine tk 7 (v := ?_) rfl (by kernel_rfl) (by kernel_rfl) (by kernel_rfl) (fun _ _ _ h => h) rfl ?_ (by assumption) ?_; rotate_left; (focus (intro w hSw; (try dsimp only at hSw); go_simp; (try with_reducible rfl))); (try simp only [Act.put, List.setIfInBounds_toArray, List.set_cons_zero, List.set_cons_succ])
      refine tk 8 (v := ?_) rfl (by kernel_rfl) (by kernel_rfl) (by kernel_rfl) (fun _ _ _ h => h) rfl ?_ (by assumption) ?_; rotate_left; (focus (intro w hSw; (try dsimp only at hSw); go_simp; (try with_reducible rfl))); (try simp only [Act.put, List.setIfInBounds_toArray, List.set_cons_zero, List.set_cons_succ])
      refine tk 9 (v := ?_) rfl (by kernel_rfl) (by kernel_rfl) (by kernel_rfl) (fun _ _ _ h => h) rfl ?_ (by assumption) ?_; rotate_left; (focus (intro w hSw; (try dsimp only at hSw); go_simp; (try with_reducible rfl))); (try simp only [Act.put, List.setIfInBounds_toArray, List.set_cons_zero, List.set_cons_succ])
      refine tk 10 (v := ?_) rfl (by kernel_rfl) (by kernel_rfl) (by kernel_rfl) (fun _ _ _ h => h) rfl ?_ (by assumption) ?_; rotate_left; (focus (intro w hSw; (try dsimp only at hSw); go_simp; (try with_reducible rfl))); (try simp only [Act.put, List.setIfInBounds_toArray, List.set_cons_zero, List.set_cons_succ])
      refine tk 11 (v := ?_) rfl (by kernel_rfl) (by kernel_rfl) (by kernel_rfl) (fun _ _ _ h => h) rfl ?_ (by assumption) ?_; rotate_left; (focus (intro w hSw; (try dsimp only at hSw); go_simp; (try with_reducible rfl))); (try simp only [Act.put, List.setIfInBounds_toArray, List.set_cons_zero, List.set_cons_succ])
      refine tk 12 (v := ?_) rfl (by kernel_rfl) (by kernel_rfl) (by kernel_rfl) (fun _ _ _ h => h) rfl ?_ (by assumption) ?_; rotate_left; (focus (intro w hSw; (try dsimp only at hSw); go_simp; (try with_reducible rfl))); (try simp only [Act.put, List.setIfInBounds_toArray, List.set_cons_zero, List.set_cons_succ])
      refine tk 13 (v := ?_) rfl (by kernel_rfl) (by kernel_rfl) (by kernel_rfl) (fun _ _ _ h => h) rfl ?_ (by assumption) ?_; rotate_left; (focus (intro w hSw; (try dsimp only at hSw); go_simp; (try with_reducible rfl))); (try simp only [Act.put, List.setIfInBounds_toArray, List.set_cons_zero, List.set_cons_succ])
      refine tk 14 (v := ?_) rfl (by kernel_rfl) (by kernel_rfl) (by kernel_rfl) (fun _ _ _ h => h) rfl ?_ (by assumption) ?_; rotate_left; (focus (intro w hSw; (try dsimp only at hSw); go_simp; (try with_reducible rfl))); (try simp only [Act.put, List.setIfInBounds_toArray, List.set_cons_zero, List.set_cons_succ])
      refine tk 15 (v := ?_) rfl (by kernel_rfl) (by kernel_rfl) (by kernel_rfl) (fun _ _ _ h => h) rfl ?_ (by assumption) ?_; rotate_left; (focus (intro w hSw; (try dsimp only at hSw); go_simp; (try with_reducible rfl))); (try simp only [Act.put, List.setIfInBounds_toArray, List.set_cons_zero, List.set_cons_succ])
      refine tk 16 (v := ?_) rfl (by kernel_rfl) (by kernel_rfl) (by kernel_rfl) (fun _ _ _ h => h) rfl ?_ (by assumption) ?_; rotate_left; (focus (intro w hSw; (try dsimp only at hSw); go_simp; (try with_reducible rfl))); (try simp only [Act.put, List.setIfInBounds_toArray, List.set_cons_zero, List.set_cons_succ])
      refine tk 17 (v := ?_) rfl (by kernel_rfl) (by kernel_rfl) (by kernel_rfl) (fun _ _ _ h => h) rfl ?_ (by assumption) ?_; rotate_left; (focus (intro w hSw; (try dsimp only at hSw); go_simp; (try with_reducible rfl))); (try simp only [Act.put, List.setIfInBounds_toArray, List.set_cons_zero, List.set_cons_succ])
      refine tk 18 (v := ?_) rfl (by kernel_rfl) (by kernel_rfl) (by kernel_rfl) (fun _ _ _ h => h) rfl ?_ (by assumption) ?_; rotate_left; (focus (intro w hSw; (try dsimp only at hSw); go_simp; (try with_reducible rfl))); (try simp only [Act.put, List.setIfInBounds_toArray, List.set_cons_zero, List.set_cons_succ])
      refine tk 19 (v := ?_) rfl (by kernel_rfl) (by kernel_rfl) (by kernel_rfl) (fun _ _ _ h => h) rfl ?_ (by assumption) ?_; rotate_left; (focus (intro w hSw; (try dsimp only at hSw); go_simp; (try with_reducible rfl))); (try simp only [Act.put, List.setIfInBounds_toArray, List.set_cons_zero, List.set_cons_succ])
      refine tk 20 (v := ?_) rfl (by kernel_rfl) (by kernel_rfl) (by kernel_rfl) (fun _ _ _ h => h) rfl ?_ (by assumption) ?_; rotate_left; (focus (intro w hSw; (try dsimp only at hSw); go_simp; (try with_reducible rfl))); (try simp only [Act.put, List.setIfInBounds_toArray, List.set_cons_zero, List.set_cons_succ])
      refine tk 21 (v := ?_) rfl (by kernel_rfl) (by kernel_rfl) (by kernel_rfl) (fun _ _ _ h => h) rfl ?_ (by assumption) ?_; rotate_left; (focus (intro w hSw; (try dsimp only at hSw); go_simp; (try with_reducible rfl))); (try simp only [Act.put, List.setIfInBounds_toArray, List.set_cons_zero, List.set_cons_succ])
      refine tk 22 (v := ?_) rfl (by kernel_rfl) (by kernel_rfl) (by kernel_rfl) (fun _ _ _ h => h) rfl ?_ (by assumption) ?_; rotate_left; (focus (intro w hSw; (try dsimp only at hSw); go_simp; (try with_reducible rfl))); (try simp only [Act.put, List.setIfInBounds_toArray, List.set_cons_zero, List.set_cons_succ])
      refine tk 23 (v := ?_) rfl (by kernel_rfl) (by kernel_rfl) (by kernel_rfl) (fun _ _ _ h => h) rfl ?_ (by assumption) ?_; rotate_left; (focus (intro w hSw; (try dsimp only at hSw); go_simp; (try with_reducible rfl))); (try simp only [Act.put, List.setIfInBounds_toArray, List.set_cons_zero, List.set_cons_succ])
      refine tk 24 (v := ?_) rfl (by kernel_rfl) (by kernel_rfl) (by kernel_rfl) (fun _ _ _ h => h) rfl ?_ (by assumption) ?_; rotate_left; (focus (intro w hSw; (try dsimp only at hSw); go_simp; (try with_reducible rfl))); (try simp only [Act.put, List.setIfInBounds_toArray, List.set_cons_zero, List.set_cons_succ])
      refine tk 25 (v := ?_) rfl (by kernel_rfl) (by kernel_rfl) (by kernel_rfl) (fun _ _ _ h => h) rfl ?_ (by assumption) ?_; rotate_left; (focus (intro w hSw; (try dsimp only at hSw); go_simp; (try with_reducible rfl))); (try simp only [Act.put, List.setIfInBounds_toArray, List.set_cons_zero, List.set_cons_succ])
      refine tk 26 (v := ?_) rfl (by kernel_rfl) (by kernel_rfl) (by kernel_rfl) (fun _ _ _ h => h) rfl ?_ (by assumption) ?_; rotate_left; (focus (intro w hSw; (try dsimp only at hSw); go_simp; (try with_reducible rfl))); (try simp only [Act.put, List.setIfInBounds_toArray, List.set_cons_zero, List.set_cons_succ])
      refine tk 27 (v := ?_) rfl (by kernel_rfl) (by kernel_rfl) (by kernel_rfl) (fun _ _ _ h => h) rfl ?_ (by assumption) ?_; rotate_left; (focus (intro w hSw; (try dsimp only at hSw); go_simp; (try with_reducible rfl))); (try simp only [Act.put, List.setIfInBounds_toArray, List.set_cons_zero, List.set_cons_succ])
      refine tk 28 (v := ?_) rfl (by kernel_rfl) (by kernel_rfl) (by kernel_rfl) (fun _ _ _ h => h) rfl ?_ (by assumption) ?_; rotate_left; (focus (intro w hSw; (try dsimp only at hSw); go_simp; (try with_reducible rfl))); (try simp only [Act.put, List.setIfInBounds_toArray, List.set_cons_zero, List.set_cons_succ])
      refine wpAnyH_done (by kernel_rfl) ?_ _
      clear y1 v1 v2 x1 x2 hHeld ek
      go_wp2_with fail
      go_roundw
      case rel => exact ⟨k - 1, A7, c7, z, by omega, by omega, rfl, rfl, hc7, Sl.drew (Sl.below R7.out (then_ S7.out S8.out) (Nat.le_refl _)), GB.out, GP.out, G1.out, Below.drew (then_ (then_ (then_ BR.out S6.out) S7.out) S8.out)⟩
      case measure => simp [intOf]; omega
    · have AQ := hid (age_q g K 7 0 (ageF g) (age_no HP.out (by rw [HL.out]; omega)).symm (by simp) rfl HG.out (by omega) A c hc wr (Sl.below HR.out (Below.refl _ _) (Nat.le_refl _)))
      have hnl : ¬ 1 < k := hlt
      go_wp2_with fail
      refine (AQ.out).mono ?_
      rintro e w7 ⟨A7, c7, rfl, hO, hc7, hb⟩
      have S6 := hid hb
      clear hb
      clear hO AQ
      go_wp2_with fail
      go_ret
      exact ⟨rfl, (then_ (then_ (then_ (then_ (then_ S1.out S2.out) S4.out) S5.out) BR.out) S6.out)⟩

set_option maxRecDepth 100000 in
theorem lifted (os : Os) (started : os.Started) (H : Type) (enc : TypeId × Value → H) :
    ReturnsInHanded {} Try.checked os 11 .any (Rows.wireAgesSpec.pre6 enc Try.prog Try.f11 [] false) (Rows.wireAgesSpec.post enc Try.prog Try.f11 false true false false) :=
  law_step (s := Rows.wireAgesSpec) started (by kernel_rfl) Try.func11
    (ChangeSpec.witness6 (s := Rows.wireAgesSpec) (enc := enc) (C := Try.checked) false ⟨#[], #[.int .i64 0, .slice none 0 0, .slice none 0 0, .int .i64 0], []⟩ 8 (by kernel_rfl) (by kernel_rfl) (by kernel_rfl) (by kernel_rfl))
    rfl (by rw [Try.params11]; decide +kernel) rfl Try.underlying4
    (fun ds h => by
      rw [Try.params11] at h
      match ds, h with
      | [_, _, _, _], _ => rfl)
    (fun W base args ds ps hval hA hsz => by
      rw [Try.params11] at hA hval hsz
      obtain ⟨v0, vs0, d0, ds0, p0, q0, hargs, rfl, rfl, h0, r0⟩ := trodAll_cons hA
      obtain ⟨v1, vs1, d1, ds1, p1, q1, rfl, rfl, rfl, h1, r1⟩ := trodAll_cons r0
      obtain ⟨v2, vs2, d2, ds2, p2, q2, rfl, rfl, rfl, h2, r2⟩ := trodAll_cons r1
      obtain ⟨v3, vs3, d3, ds3, p3, q3, rfl, rfl, rfl, h3, r3⟩ := trodAll_cons r2
      obtain ⟨rfl, rfl, rfl⟩ := trodAll_nil r3
      obtain rfl : args = #[v0, v1, v2, v3] := by cases args; simp_all
      obtain ⟨a0, rfl, rfl, rfl, w0⟩ := open_int Try.underlying3 (hval 0 3 v0 rfl rfl) h0
      obtain ⟨A1, n1, c1, g1, rfl, hn1, hc1, hs1, hw1, hl1, hd1⟩ := open_row Try.underlying22 Try.underlying3 (by kernel_rfl) (hval 1 22 v1 rfl rfl) h1
      have re1 : c1 * 8 ≤ 140737488351232 := by
        rcases hd1 with ⟨_, h0⟩ | ⟨xs, ys, h1, h2⟩
        · omega
        · have := sized_slice hsz (j := 1) (t := 22) (e := 3) rfl (by rw [h1]; rfl) Try.underlying22
          rw [h2, show Try.prog.bytesOf 3 = 8 from by kernel_rfl] at this
          simpa [reachBytes] using this
      obtain ⟨A2, n2, c2, g2, rfl, hn2, hc2, hs2, hw2, hl2, hd2⟩ := open_row Try.underlying23 Try.underlying5 (by kernel_rfl) (hval 2 23 v2 rfl rfl) h2
      have re2 : c2 * 1 ≤ 140737488351232 := by
        rcases hd2 with ⟨_, h0⟩ | ⟨xs, ys, h1, h2⟩
        · omega
        · have := sized_slice hsz (j := 2) (t := 23) (e := 5) rfl (by rw [h1]; rfl) Try.underlying23
          rw [h2, show Try.prog.bytesOf 5 = 1 from by kernel_rfl] at this
          simpa [reachBytes] using this
      obtain ⟨a3, rfl, rfl, rfl, w3⟩ := open_int Try.underlying3 (hval 3 3 v3 rfl rfl) h3
      exact walk W a0 (bounds_i64 w0) A1 n1 c1 g1 hn1 hc1 hs1 (fun j => bounds_i64 (hw1 j)) hl1 re1 A2 n2 c2 g2 hn2 hc2 hs2 (fun j => bounds_u8 (hw2 j)) hl2 re2 a3 (bounds_i64 w3))

theorem proved : Rows.WireAgesSaid :=
  OpenClaim.holds_of_wide 11 Try.f11 rfl rfl rfl rfl rfl rfl rfl ⟨rfl, rfl, rfl, rfl, rfl⟩ rfl rfl rfl rfl rfl (by kernel_rfl) Try.func11 (by kernel_rfl)
    (of_decide_eq_true (by kernel_rfl)) (by unfold Func.isWrapper; first | (rw [if_pos (by decide +kernel)]; kernel_rfl) | (rw [if_neg (by decide +kernel)]; exact ⟨rfl, rfl⟩))
    (fun os started H enc _ => lifted os started H enc)
end Go.Proofs.Ytjljaecjnpmdoaa.wireAges
