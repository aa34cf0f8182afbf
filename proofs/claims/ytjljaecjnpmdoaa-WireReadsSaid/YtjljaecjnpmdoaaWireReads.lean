/- roundhouselaw3.WireReads answers true for any kind, any numbers, any bytes; no condition. -/
import Derived.Test.YtjljaecjnpmdoaaWirLaw
import Derived.Test.YtjljaecjnpmdoaaWirLawP
import Derived.Test.YtjljaecjnpmdoaaTakes
import Derived.Test.YtjljaecjnpmdoaaWirMkb
import Derived.Test.YtjljaecjnpmdoaaWirFl
import Derived.Deep.CutBlock
import Derived.Deep.CutRange
import Derived.Deep.LoopGhost
import Derived.BigQuiet
import Derived.Deep.RegionHeld3
import Derived.Deep.Cut
namespace Go.Proofs.Ytjljaecjnpmdoaa.wireReads
set_option linter.unusedVariables false
set_option linter.unusedSimpArgs false
open Go.RowKit Go.ChangeShapes Go.WideShapes Go.ChangeAt

set_option maxRecDepth 100000 in
set_option maxHeartbeats 4000000 in
theorem walk (W : World) (a0 : Int) (r_a0 : -9223372036854775808 ≤ a0 ∧ a0 ≤ 9223372036854775807) (A1 : Option Addr) (n1 c1 : Nat) (g1 : Nat → Int) (hn1 : n1 ≤ c1) (hc1 : c1 ≤ maxLen) (hr1 : Is W A1 n1 g1) (hg1 : IsI g1) (hl1 : ∀ ad, A1 = some ad → 0 < n1 → ad.block < W.heap.size) (re1 : c1 * 8 ≤ 140737488351232) (A2 : Option Addr) (n2 c2 : Nat) (g2 : Nat → Int) (hn2 : n2 ≤ c2) (hc2 : c2 ≤ maxLen) (hr2 : By W A2 n2 g2) (hg2 : IsB g2) (hl2 : ∀ ad, A2 = some ad → 0 < n2 → ad.block < W.heap.size) (re2 : c2 * 1 ≤ 140737488351232) (a3 : Int) (r_a3 : -9223372036854775808 ≤ a3 ∧ a3 ≤ 9223372036854775807) (a4 : Int) (r_a4 : 0 ≤ a4 ∧ a4 ≤ 255) (a5 : Int) (r_a5 : -9223372036854775808 ≤ a5 ∧ a5 ≤ 9223372036854775807) (A6 : Option Addr) (n6 c6 : Nat) (g6 : Nat → Int) (hn6 : n6 ≤ c6) (hc6 : c6 ≤ maxLen) (hr6 : By W A6 n6 g6) (hg6 : IsB g6) (hl6 : ∀ ad, A6 = some ad → 0 < n6 → ad.block < W.heap.size) (re6 : c6 * 1 ≤ 140737488351232) (a7 : Bool) :
    Calls Try.prog 4 #[.int .i64 a0, .slice A1 n1 c1, .slice A2 n2 c2, .int .i64 a3, .int .u8 a4, .int .i64 a5, .slice A6 n6 c6, .bool a7] W fun e w' => e = .returned (.bool true) ∧ Below W.heap.size W w' := by
  have HG := hid hg2
  have m1 : (n1 : Int) ≤ 9223372036854775807 := by unfold maxLen at hc1; omega
  have m2 : (n2 : Int) ≤ 9223372036854775807 := by unfold maxLen at hc2; omega
  have H1 := hid (hr1)
  have H2 := hid (hr2)
  obtain ⟨p, hp⟩ : ∃ p, p = mkPk a0 (nv g1 n1) g2 n2 := ⟨_, rfl⟩
  obtain ⟨L, hL⟩ : ∃ L, L = lenP p := ⟨_, rfl⟩
  obtain ⟨F, hF⟩ : ∃ F, F = builtF p := ⟨_, rfl⟩
  have M := mk_all hp HG.out hL hF
  have MK := hid (make_p p a0 A1 n1 c1 g1 A2 n2 c2 g2 hp HG.out m1 hn2 m2)
  have BU := hid (build_p p L F hL hF M.E M.go M.gd (Nat.le_trans M.no (by decide)) (Nat.le_trans M.nd (by decide)))
  have RB := hid (rbuild_p p L F hL hF M.E M.go M.gd (Nat.le_trans M.no (by decide)) (Nat.le_trans M.nd (by decide)))
  have HM := hid M
  have L0 := M.L0
  have L1 := M.L1
  have LN : L ≤ 1000000 := by omega
  clear M
  clear hp hL hF hr1 hr2 hg1 hg2 hl1 hl2 re1 re2 hc1 hc2 m1 m2
  clear BU
  have H6 := hid (hr6)
  have HG6 := hid hg6
  clear hr6 hg6 hl6 re6 hc6
  have by_ := r_a4
  obtain ⟨i, hi⟩ : ∃ x, x = wi a3 (L : Int) := ⟨_, rfl⟩
  have bi := wi_bd a3 (L : Int) (by omega)
  rw [← hi] at bi
  have Wi := hid (fun w => re_i64 (within_any a3 (L : Int) w (by omega) (by omega)) hi.symm)
  clear hi
  obtain ⟨bi1, bi2⟩ := bi
  obtain ⟨k, hk⟩ : ∃ x, x = wi a5 ((L : Int) + 1) := ⟨_, rfl⟩
  have bk := wi_bd a5 ((L : Int) + 1) (by omega)
  rw [← hk] at bk
  have Wk := hid (fun w => re_i64 (within_any a5 ((L : Int) + 1) w (by omega) (by omega)) hk.symm)
  clear hk
  obtain ⟨bk1, bk2⟩ := bk
  obtain ⟨i, rfl⟩ := Int.eq_ofNat_of_zero_le bi1
  obtain ⟨k, rfl⟩ := Int.eq_ofNat_of_zero_le bk1
  go_enter Try.func4, Try.ntmps4
  go_wp2_with fail
  refine (known_any _).mono ?_
  rintro e w1 ⟨rfl, hb⟩
  have S1 := hid hb
  clear hb
  have ck : (1600 : Int) < (n6 : Int) ∨ ¬ (1600 : Int) < (n6 : Int) := by omega
  rcases ck with ck | ck
  · go_wp2_with fail
    go_ret
    exact ⟨rfl, S1.out⟩
  · go_wp2_with fail
    refine (MK.out w1 (Sl.below H1.out S1.out (Nat.le_refl _)) (Sl.below H2.out S1.out (Nat.le_refl _))).mono ?_
    rintro e w2 ⟨AO, cO, AD, cD, rfl, hO, hD, hb⟩
    have S2 := hid hb
    clear hb
    have RO := hid (hO)
    have RD := hid (hD)
    clear hO hD
    clear MK
    go_wp2_with fail
    refine (RB.out AO cO AD cD w2 (Sl.below RO.out (Below.refl _ _) (Nat.le_refl _)) (Sl.below RD.out (Below.refl _ _) (Nat.le_refl _))).mono ?_
    rintro e w3 ⟨A4, c4, rfl, hO, hc4, hb⟩
    have S3 := hid hb
    clear hb
    have O4 := hid hO
    clear hO RB
    clear RO
    clear RD
    have R4 := hid (O4.out.sl1)
    clear O4
    have EO : ∀ f, Ow (w3.alloc (.cells #[] 5)) w3.heap.size 5 1 (.slice (some ⟨w3.heap.size, 0, none⟩) 0 0) 0 f := fun f => Ow.new' rfl
    replace EO := hid EO
    go_upto_region 7 with (at_builtin; refine wp_app_b0 rfl (.tmp 42) (.tmp 43) rfl w3.heap.size _ rfl EO.out A4 L c4 F rfl (R4.out.below ((Below.refl w3.heap.size w3).alloc (Nat.le_refl _) _) (Nat.le_refl _)) (by omega) (by simp) ?_; intro AX cx w4 h1 h2 h3 h4 h5 h6; have OX := hid (show OB w4 w3.heap.size (.slice AX L cx) L F from h1); have hcx := h2; have SX := hid (((Below.refl w3.heap.size w3).alloc (Nat.le_refl _) (.cells #[] 5)).trans h4); clear h1 h2 h3 h4 h5 h6)
    clear EO
    obtain ⟨G, eG, hGB, hGs, hce, hfr⟩ := Ow.block_ OX.out (by omega)
    subst eG
    have c1 := hce i (by omega)
    have f1 := hfr i
    obtain ⟨y, hy⟩ : ∃ y, IntKind.u8.wrap (F i + a4) = y := ⟨_, rfl⟩
    have yb : 0 ≤ y ∧ y ≤ 255 := by rw [← hy, IntKind.wrap_u8]; omega
    clear hce hfr
    go_wp2_with fail
    refine (Wi.out _).mono ?_
    rintro e w' ⟨rfl, rfl⟩
    go_upto_region 8 with (fail)
    have OZ := hid (OB.store OX.out i y)
    have ZB := hid (show IsB (set1 F i y) from set1_B HM.out.B i y yb.1 yb.2)
    have SZ := hid (Below.setCell (p := ⟨G, i, none⟩) (B := w3.heap.size) SX.out hGB (.int .u8 y))
    clear c1 f1 hy yb SX OX hGB hGs
    generalize (w4.setCell ⟨G, i, none⟩ (.int .u8 y)) = w5 at *
    generalize set1 F i y = Z at OZ ZB
    have RZ := hid (OZ.out.sl1)
    clear OZ
    go_wp2_with fail
    refine (Wk.out _).mono ?_
    rintro e w' ⟨rfl, rfl⟩
    have m1 := cut_to_b A4 L c4 k (by omega) hc4 (k : Int) rfl
    go_upto_region 9 with (fail)
    refine wp_region_held_drew (S := fun _ => True) (by kernel_rfl) trivial (fun hHeld => ?_)
    refine tk 0 (v := ?_) rfl (by kernel_rfl) (by kernel_rfl) (by kernel_rfl) (fun _ _ _ h => h) rfl ?_ trivial ?_; rotate_left; (focus (intro w hSw; (try dsimp only at hSw);  go_simp; (try with_reducible rfl))); (try simp only [Act.put, List.setIfInBounds_toArray, List.set_cons_zero, List.set_cons_succ])
    refine tk 1 (v := ?_) rfl (by kernel_rfl) (by kernel_rfl) (by kernel_rfl) (fun _ _ _ h => h) rfl ?_ trivial ?_; rotate_left; (focus (intro w hSw; (try dsimp only at hSw);  go_simp; (try with_reducible rfl))); (try simp only [Act.put, List.setIfInBounds_toArray, List.set_cons_zero, List.set_cons_succ])
    refine tk 2 (v := ?_) rfl (by kernel_rfl) (by kernel_rfl) (by kernel_rfl) (fun _ _ _ h => h) rfl ?_ trivial ?_; rotate_left; (focus (intro w hSw; (try dsimp only at hSw);  go_simp; (try with_reducible rfl))); (try simp only [Act.put, List.setIfInBounds_toArray, List.set_cons_zero, List.set_cons_succ])
    refine tk 3 (v := ?_) rfl (by kernel_rfl) (by kernel_rfl) (by kernel_rfl) (fun _ _ _ h => h) rfl ?_ trivial ?_; rotate_left; (focus (intro w hSw; (try dsimp only at hSw);  go_simp; (try with_reducible rfl))); (try simp only [Act.put, List.setIfInBounds_toArray, List.set_cons_zero, List.set_cons_succ])
    refine tk 5 (v := ?_) rfl (by kernel_rfl) (by kernel_rfl) (by kernel_rfl) (fun _ _ _ h => h) rfl ?_ trivial ?_; rotate_left; (focus (intro w hSw; (try dsimp only at hSw);  go_simp; (try with_reducible rfl))); (try simp only [Act.put, List.setIfInBounds_toArray, List.set_cons_zero, List.set_cons_succ])
    refine tk 7 (v := ?_) rfl (by kernel_rfl) (by kernel_rfl) (by kernel_rfl) (fun _ _ _ h => h) rfl ?_ trivial ?_; rotate_left; (focus (intro w hSw; (try dsimp only at hSw);  go_simp; (try with_reducible rfl))); (try simp only [Act.put, List.setIfInBounds_toArray, List.set_cons_zero, List.set_cons_succ])
    refine tk 9 (v := ?_) rfl (by kernel_rfl) (by kernel_rfl) (by kernel_rfl) (fun _ _ _ h => h) rfl ?_ trivial ?_; rotate_left; (focus (intro w hSw; (try dsimp only at hSw);  go_simp; (try with_reducible rfl))); (try simp only [Act.put, List.setIfInBounds_toArray, List.set_cons_zero, List.set_cons_succ])
    refine tk 11 (v := ?_) rfl (by kernel_rfl) (by kernel_rfl) (by kernel_rfl) (fun _ _ _ h => h) rfl ?_ trivial ?_; rotate_left; (focus (intro w hSw; (try dsimp only at hSw);  go_simp; (try with_reducible rfl))); (try simp only [Act.put, List.setIfInBounds_toArray, List.set_cons_zero, List.set_cons_succ])
    have S4 := hid (Below.drew (Below.refl w5.heap.size w5))
    clear hHeld m1
    generalize w5.drew = v0 at *
    have FB := hid (Sl.below R4.out (then_ SZ.out S4.out) (Nat.le_refl _))
    have ZR := hid (Sl.below RZ.out S4.out (Nat.le_refl _))
    have GR := hid (Sl.below H6.out (then_ (then_ (then_ (then_ S1.out S2.out) S3.out) SZ.out) S4.out) (Nat.le_refl _))
    refine float_at (J := fun a0 l a w => ∃ (u64 u66 u68 u70 u72 u73 u74 u75 u21 rA rB : Value) (nA nB : Nat) (fA fB : Nat → Int), a = (Act.put (Act.put (Act.put (Act.put (Act.put (Act.put (Act.put (Act.put (Act.put a0 (some 64) u64) (some 66) u66) (some 68) u68) (some 70) u70) (some 72) u72) (some 73) u73) (some 74) u74) (some 75) u75) (some 21) u21) ∧ (∀ i, i < 17 → i ∉ [4, 6, 8, 10, 12, 13, 14, 15, 16] → l i = true) ∧ StC l 4 6 8 u64 u66 u68 rA nA fA L F (L + n6) (fun j => if j < L then F j else g6 (j - L)) ∧ StC l 10 12 14 u70 u72 u74 rB nB fB L Z (L + 1) (fun j => if j < L then Z j else 0) ∧ WF v0 w (l 4) rA nA fA (l 10) rB nB fB (l 13) u73 ∧ (l 15 = true → l 8 = true ∧ l 14 = true ∧ ∃ P : Nat, u75 = .slice (some ⟨P, 0, none⟩) 5 5 ∧ Ce w P [.slice (some ⟨G, 0, none⟩) L cx, .slice A4 k c4, u68, .slice A6 n6 c6, u74]) ∧ (l 16 = true → u21 = u75 ∧ l 15 = true) ∧ (l 14 = true → l 13 = true)) [4, 6, 8, 10, 12, 13, 14, 15, 16] (by decide +kernel) (by decide +kernel) (by decide +kernel) ?_ ?_ ?_ ?_
    · intro l a w hJ i hi hn
      obtain ⟨u64, u66, u68, u70, u72, u73, u74, u75, u21, rA, rB, nA, nB, fA, fB, rfl, hT, hA, hB, hW, hE, hZ, hN⟩ := hJ
      exact hT i hi hn
    · refine ⟨undef, undef, undef, undef, undef, undef, undef, undef, undef, undef, undef, 0, 0, fun _ => 0, fun _ => 0, by simp only [Act.put, List.setIfInBounds_toArray, List.set_cons_zero, List.set_cons_succ], ?_, .inl ⟨by decide +kernel, by decide +kernel, by decide +kernel⟩, .inl ⟨by decide +kernel, by decide +kernel, by decide +kernel⟩, ⟨Below.refl _ _, fun h => absurd h (by decide +kernel), fun h => absurd h (by decide +kernel), fun h => absurd h (by decide +kernel), fun h => absurd h (by decide +kernel)⟩, fun h => absurd h (by decide +kernel), fun h => absurd h (by decide +kernel), fun h => absurd h (by decide +kernel)⟩
      decide +kernel
    · refine all_cons (step_at 4 rfl rfl fun l a w hJ hL hP K hK => ?_) (all_cons (step_at 6 rfl rfl fun l a w hJ hL hP K hK => ?_) (all_cons (step_at 8 rfl rfl fun l a w hJ hL hP K hK => ?_) (all_cons (step_at 10 rfl rfl fun l a w hJ hL hP K hK => ?_) (all_cons (step_at 12 rfl rfl fun l a w hJ hL hP K hK => ?_) (all_cons (step_at 13 rfl rfl fun l a w hJ hL hP K hK => ?_) (all_cons (step_at 14 rfl rfl fun l a w hJ hL hP K hK => ?_) (all_cons (step_at 15 rfl rfl fun l a w hJ hL hP K hK => ?_) (all_cons (step_at 16 rfl rfl fun l a w hJ hL hP K hK => ?_) all_nil))))))))
      · obtain ⟨u64, u66, u68, u70, u72, u73, u74, u75, u21, rA, rB, nA, nB, fA, fB, rfl, hT, hA, hB, hW, hE, hZ, hN⟩ := hJ
        rcases hA with ⟨x0, x1, x2⟩ | ⟨x0, _⟩ | ⟨x0, _⟩ | ⟨x0, _⟩
        rotate_left
        (iterate 3 (rw [hL] at x0; cases x0))
        have n15 : l 15 = false := by
          cases e : l 15
          · rfl
          · exact absurd (hE e).1 (by rw [x2]; decide)
        have n16 : l 16 = false := by
          cases e : l 16
          · rfl
          · exact absurd (hZ e).2 (by rw [n15]; decide)
        rw [hL] at hW
        simp only [Act.put, List.setIfInBounds_toArray, List.set_cons_zero, List.set_cons_succ]
        go_simp
        skip
        refine hK.out _ _ trivial ⟨_, u66, u68, u70, u72, u73, u74, u75, u21, (.slice (some ⟨w.heap.size, 0, none⟩) 0 0), rB, 0, nB, fA, fB, by simp only [Act.put, List.setIfInBounds_toArray, List.set_cons_zero, List.set_cons_succ], fun j hj hn => by rw [up_ne (show j ≠ 4 from fun e => hn (by subst e; simp))]; exact hT j hj hn, .inr (.inl ⟨up_self _ _, (up_ne (by decide)).trans x1, (up_ne (by decide)).trans x2, rfl, rfl⟩), hB.up_ (by decide) (by decide) (by decide), ?_, (fun h => by rw [up_ne (show 15 ≠ 4 by decide), n15] at h; cases h), (fun h => by rw [up_ne (show 16 ≠ 4 by decide), n16] at h; cases h), fun h => by rw [up_ne (show 13 ≠ 4 by decide)]; exact hN (by rwa [up_ne (show 14 ≠ 4 by decide)] at h)⟩
        rw [up_self, up_ne (show 10 ≠ 4 by decide), up_ne (show 13 ≠ 4 by decide)]
        exact hW.empty
      · obtain ⟨u64, u66, u68, u70, u72, u73, u74, u75, u21, rA, rB, nA, nB, fA, fB, rfl, hT, hA, hB, hW, hE, hZ, hN⟩ := hJ
        have p := hP { on := 4, ground := .data } (by simp) rfl
        rcases hA with ⟨x0, _⟩ | ⟨x0, x1, x2, rfl, rfl⟩ | ⟨_, x0, _⟩ | ⟨_, x0, _⟩
        (rw [p] at x0; cases x0)
        rotate_left
        (iterate 2 (rw [hL] at x0; cases x0))
        have n15 : l 15 = false := by
          cases e : l 15
          · rfl
          · exact absurd (hE e).1 (by rw [x2]; decide)
        have n16 : l 16 = false := by
          cases e : l 16
          · rfl
          · exact absurd (hZ e).2 (by rw [n15]; decide)
        rw [x0] at hW
        have hO := hW.2.1 rfl
        simp only [Act.put, List.setIfInBounds_toArray, List.set_cons_zero, List.set_cons_succ]
        refine wpo_app_g rfl (.tmp 64) (.tmp 65) rfl v0.heap.size _ 0 _ rfl hO A4 L c4 F rfl (Sl.below FB.out hW.1 (Nat.le_refl _)) (by omega) hW.1.size ?_
        intro A' c' w' h1 h2 h3 h4 h5
        rw [Nat.zero_add] at h1 h2 h5 ⊢
        have h6 := OB.as2 h1 (g' := F) (fun j hj => by simp)
        refine hK.out _ _ trivial ⟨u64, _, u68, u70, u72, u73, u74, u75, u21, (.slice A' L c'), rB, L, nB, F, fB, by simp only [Act.put, List.setIfInBounds_toArray, List.set_cons_zero, List.set_cons_succ], fun j hj hn => by rw [up_ne (show j ≠ 6 from fun e => hn (by subst e; simp))]; exact hT j hj hn, .inr (.inr (.inl ⟨(up_ne (by decide)).trans x0, up_self _ _, (up_ne (by decide)).trans x2, rfl, rfl, rfl⟩)), hB.up_ (by decide) (by decide) (by decide), ?_, (fun h => by rw [up_ne (show 15 ≠ 6 by decide), n15] at h; cases h), (fun h => by rw [up_ne (show 16 ≠ 6 by decide), n16] at h; cases h), fun h => by rw [up_ne (show 13 ≠ 6 by decide)]; exact hN (by rwa [up_ne (show 14 ≠ 6 by decide)] at h)⟩
        rw [up_ne (show 4 ≠ 6 by decide), up_ne (show 10 ≠ 6 by decide), up_ne (show 13 ≠ 6 by decide), x0]
        exact hW.grown h6 h3 h4 h5
      · obtain ⟨u64, u66, u68, u70, u72, u73, u74, u75, u21, rA, rB, nA, nB, fA, fB, rfl, hT, hA, hB, hW, hE, hZ, hN⟩ := hJ
        have p := hP { on := 6, ground := .data } (by simp) rfl
        rcases hA with ⟨_, x0, _⟩ | ⟨_, x0, _⟩ | ⟨x0, x1, x2, rfl, rfl, rfl⟩ | ⟨_, _, x0, _⟩
        (rw [p] at x0; cases x0)
        (rw [p] at x0; cases x0)
        rotate_left
        (rw [hL] at x0; cases x0)
        have n15 : l 15 = false := by
          cases e : l 15
          · rfl
          · exact absurd (hE e).1 (by rw [x2]; decide)
        have n16 : l 16 = false := by
          cases e : l 16
          · rfl
          · exact absurd (hZ e).2 (by rw [n15]; decide)
        rw [x0] at hW
        have hO := hW.2.1 rfl
        simp only [Act.put, List.setIfInBounds_toArray, List.set_cons_zero, List.set_cons_succ]
        refine wpo_app_g rfl (.tmp 66) (.tmp 67) rfl v0.heap.size _ L _ rfl hO A6 n6 c6 g6 rfl (Sl.below GR.out hW.1 (Nat.le_refl _)) (by omega) hW.1.size ?_
        intro A' c' w' h1 h2 h3 h4 h5
        have h6 := OB.as2 h1 (g' := (fun j => if j < L then F j else g6 (j - L))) (fun j hj => by rfl)
        refine hK.out _ _ trivial ⟨u64, u66, _, u70, u72, u73, u74, u75, u21, (.slice A' (L + n6) c'), rB, (L + n6), nB, (fun j => if j < L then F j else g6 (j - L)), fB, by simp only [Act.put, List.setIfInBounds_toArray, List.set_cons_zero, List.set_cons_succ], fun j hj hn => by rw [up_ne (show j ≠ 8 from fun e => hn (by subst e; simp))]; exact hT j hj hn, .inr (.inr (.inr ⟨(up_ne (by decide)).trans x0, (up_ne (by decide)).trans x1, up_self _ _, rfl, rfl, rfl⟩)), hB.up_ (by decide) (by decide) (by decide), ?_, (fun h => by rw [up_ne (show 15 ≠ 8 by decide), n15] at h; cases h), (fun h => by rw [up_ne (show 16 ≠ 8 by decide), n16] at h; cases h), fun h => by rw [up_ne (show 13 ≠ 8 by decide)]; exact hN (by rwa [up_ne (show 14 ≠ 8 by decide)] at h)⟩
        rw [up_ne (show 4 ≠ 8 by decide), up_ne (show 10 ≠ 8 by decide), up_ne (show 13 ≠ 8 by decide), x0]
        exact hW.grown h6 h3 h4 h5
      · obtain ⟨u64, u66, u68, u70, u72, u73, u74, u75, u21, rA, rB, nA, nB, fA, fB, rfl, hT, hA, hB, hW, hE, hZ, hN⟩ := hJ
        rcases hB with ⟨x0, x1, x2⟩ | ⟨x0, _⟩ | ⟨x0, _⟩ | ⟨x0, _⟩
        rotate_left
        (iterate 3 (rw [hL] at x0; cases x0))
        have n15 : l 15 = false := by
          cases e : l 15
          · rfl
          · exact absurd (hE e).2.1 (by rw [x2]; decide)
        have n16 : l 16 = false := by
          cases e : l 16
          · rfl
          · exact absurd (hZ e).2 (by rw [n15]; decide)
        rw [hL] at hW
        simp only [Act.put, List.setIfInBounds_toArray, List.set_cons_zero, List.set_cons_succ]
        go_simp
        skip
        refine hK.out _ _ trivial ⟨u64, u66, u68, _, u72, u73, u74, u75, u21, rA, (.slice (some ⟨w.heap.size, 0, none⟩) 0 0), nA, 0, fA, fB, by simp only [Act.put, List.setIfInBounds_toArray, List.set_cons_zero, List.set_cons_succ], fun j hj hn => by rw [up_ne (show j ≠ 10 from fun e => hn (by subst e; simp))]; exact hT j hj hn, hA.up_ (by decide) (by decide) (by decide), .inr (.inl ⟨up_self _ _, (up_ne (by decide)).trans x1, (up_ne (by decide)).trans x2, rfl, rfl⟩), ?_, (fun h => by rw [up_ne (show 15 ≠ 10 by decide), n15] at h; cases h), (fun h => by rw [up_ne (show 16 ≠ 10 by decide), n16] at h; cases h), fun h => by rw [up_ne (show 13 ≠ 10 by decide)]; exact hN (by rwa [up_ne (show 14 ≠ 10 by decide)] at h)⟩
        rw [up_self, up_ne (show 4 ≠ 10 by decide), up_ne (show 13 ≠ 10 by decide)]
        exact hW.swap.empty.swap
      · obtain ⟨u64, u66, u68, u70, u72, u73, u74, u75, u21, rA, rB, nA, nB, fA, fB, rfl, hT, hA, hB, hW, hE, hZ, hN⟩ := hJ
        have p := hP { on := 10, ground := .data } (by simp) rfl
        rcases hB with ⟨x0, _⟩ | ⟨x0, x1, x2, rfl, rfl⟩ | ⟨_, x0, _⟩ | ⟨_, x0, _⟩
        (rw [p] at x0; cases x0)
        rotate_left
        (iterate 2 (rw [hL] at x0; cases x0))
        have n15 : l 15 = false := by
          cases e : l 15
          · rfl
          · exact absurd (hE e).2.1 (by rw [x2]; decide)
        have n16 : l 16 = false := by
          cases e : l 16
          · rfl
          · exact absurd (hZ e).2 (by rw [n15]; decide)
        rw [x0] at hW
        have hO := hW.2.2.1 rfl
        simp only [Act.put, List.setIfInBounds_toArray, List.set_cons_zero, List.set_cons_succ]
        refine wpo_app_g rfl (.tmp 70) (.tmp 71) rfl v0.heap.size _ 0 _ rfl hO (some ⟨G, 0, none⟩) L cx Z rfl (Sl.below ZR.out hW.1 (Nat.le_refl _)) (by omega) hW.1.size ?_
        intro A' c' w' h1 h2 h3 h4 h5
        rw [Nat.zero_add] at h1 h2 h5 ⊢
        have h6 := OB.as2 h1 (g' := Z) (fun j hj => by simp)
        refine hK.out _ _ trivial ⟨u64, u66, u68, u70, _, u73, u74, u75, u21, rA, (.slice A' L c'), nA, L, fA, Z, by simp only [Act.put, List.setIfInBounds_toArray, List.set_cons_zero, List.set_cons_succ], fun j hj hn => by rw [up_ne (show j ≠ 12 from fun e => hn (by subst e; simp))]; exact hT j hj hn, hA.up_ (by decide) (by decide) (by decide), .inr (.inr (.inl ⟨(up_ne (by decide)).trans x0, up_self _ _, (up_ne (by decide)).trans x2, rfl, rfl, rfl⟩)), ?_, (fun h => by rw [up_ne (show 15 ≠ 12 by decide), n15] at h; cases h), (fun h => by rw [up_ne (show 16 ≠ 12 by decide), n16] at h; cases h), fun h => by rw [up_ne (show 13 ≠ 12 by decide)]; exact hN (by rwa [up_ne (show 14 ≠ 12 by decide)] at h)⟩
        rw [up_ne (show 4 ≠ 12 by decide), up_ne (show 10 ≠ 12 by decide), up_ne (show 13 ≠ 12 by decide), x0]
        exact (hW.swap.grown h6 h3 h4 h5).swap
      · obtain ⟨u64, u66, u68, u70, u72, u73, u74, u75, u21, rA, rB, nA, nB, fA, fB, rfl, hT, hA, hB, hW, hE, hZ, hN⟩ := hJ
        have n14 : l 14 = false := by
          cases e : l 14
          · rfl
          · exact absurd (hN e) (by rw [hL]; decide)
        have n15 : l 15 = false := by
          cases e : l 15
          · rfl
          · exact absurd (hE e).2.1 (by rw [n14]; decide)
        have n16 : l 16 = false := by
          cases e : l 16
          · rfl
          · exact absurd (hZ e).2 (by rw [n15]; decide)
        rw [hL] at hW
        simp only [Act.put, List.setIfInBounds_toArray, List.set_cons_zero, List.set_cons_succ]
        go_simp
        refine hK.out _ _ trivial ⟨u64, u66, u68, u70, u72, (.slice (some ⟨w.heap.size, 0, none⟩) 1 1), u74, u75, u21, rA, rB, nA, nB, fA, fB, by simp only [Act.put, List.setIfInBounds_toArray, List.set_cons_zero, List.set_cons_succ], fun j hj hn => by rw [up_ne (show j ≠ 13 from fun e => hn (by subst e; simp))]; exact hT j hj hn, hA.up_ (by decide) (by decide) (by decide), hB.up_ (by decide) (by decide) (by decide), ?_, (fun h => by rw [up_ne (show 15 ≠ 13 by decide), n15] at h; cases h), (fun h => by rw [up_ne (show 16 ≠ 13 by decide), n16] at h; cases h), fun _ => up_self _ _⟩
        rw [up_self, up_ne (show 4 ≠ 13 by decide), up_ne (show 10 ≠ 13 by decide)]
        exact hW.one
      · obtain ⟨u64, u66, u68, u70, u72, u73, u74, u75, u21, rA, rB, nA, nB, fA, fB, rfl, hT, hA, hB, hW, hE, hZ, hN⟩ := hJ
        have p := hP { on := 12, ground := .data } (by simp) rfl
        rcases hB with ⟨_, x0, _⟩ | ⟨_, x0, _⟩ | ⟨x0, x1, x2, rfl, rfl, rfl⟩ | ⟨_, _, x0, _⟩
        (rw [p] at x0; cases x0)
        (rw [p] at x0; cases x0)
        rotate_left
        (rw [hL] at x0; cases x0)
        have n15 : l 15 = false := by
          cases e : l 15
          · rfl
          · exact absurd (hE e).2.1 (by rw [x2]; decide)
        have n16 : l 16 = false := by
          cases e : l 16
          · rfl
          · exact absurd (hZ e).2 (by rw [n15]; decide)
        rw [x0] at hW
        have hO := hW.2.2.1 rfl
        have p13 := hP { on := 13, ground := .data } (by simp) rfl
        rw [p13] at hW
        obtain ⟨gx, rfl, hyx⟩ := hW.by_
        simp only [Act.put, List.setIfInBounds_toArray, List.set_cons_zero, List.set_cons_succ]
        refine wpo_app_g rfl (.tmp 72) (.tmp 73) rfl v0.heap.size _ L _ rfl hO (some ⟨gx, 0, none⟩) 1 1 (fun _ => 0) rfl hyx (by omega) hW.1.size ?_
        intro A' c' w' h1 h2 h3 h4 h5
        have h6 := OB.as2 h1 (g' := (fun j => if j < L then Z j else 0)) (fun j hj => by rfl)
        refine hK.out _ _ trivial ⟨u64, u66, u68, u70, u72, (.slice (some ⟨gx, 0, none⟩) 1 1), _, u75, u21, rA, (.slice A' (L + 1) c'), nA, (L + 1), fA, (fun j => if j < L then Z j else 0), by simp only [Act.put, List.setIfInBounds_toArray, List.set_cons_zero, List.set_cons_succ], fun j hj hn => by rw [up_ne (show j ≠ 14 from fun e => hn (by subst e; simp))]; exact hT j hj hn, hA.up_ (by decide) (by decide) (by decide), .inr (.inr (.inr ⟨(up_ne (by decide)).trans x0, (up_ne (by decide)).trans x1, up_self _ _, rfl, rfl, rfl⟩)), ?_, (fun h => by rw [up_ne (show 15 ≠ 14 by decide), n15] at h; cases h), (fun h => by rw [up_ne (show 16 ≠ 14 by decide), n16] at h; cases h), fun _ => by rw [up_ne (show 13 ≠ 14 by decide)]; exact p13⟩
        rw [up_ne (show 4 ≠ 14 by decide), up_ne (show 10 ≠ 14 by decide), up_ne (show 13 ≠ 14 by decide), x0, p13]
        exact (hW.swap.grown h6 h3 h4 h5).swap
      · obtain ⟨u64, u66, u68, u70, u72, u73, u74, u75, u21, rA, rB, nA, nB, fA, fB, rfl, hT, hA, hB, hW, hE, hZ, hN⟩ := hJ
        have p8 := hP { on := 8, ground := .data } (by simp) rfl
        have p14 := hP { on := 14, ground := .data } (by simp) rfl
        have n16 : l 16 = false := by
          cases e : l 16
          · rfl
          · exact absurd (hZ e).2 (by rw [hL]; decide)
        rcases hA with ⟨_, _, x0⟩ | ⟨_, _, x0, _⟩ | ⟨_, _, x0, _⟩ | ⟨a4, a6, a8, rfl, rfl, rfl⟩
        (iterate 3 (rw [p8] at x0; cases x0))
        skip
        rcases hB with ⟨_, _, x0⟩ | ⟨_, _, x0, _⟩ | ⟨_, _, x0, _⟩ | ⟨b0, b2, b4, rfl, rfl, rfl⟩
        (iterate 3 (rw [p14] at x0; cases x0))
        obtain ⟨AA, cA, rfl, _, _, _⟩ := (hW.2.1 a4).form_
        obtain ⟨AB, cB, rfl, _, _, _⟩ := (hW.2.2.1 b0).form_
        simp only [Act.put, List.setIfInBounds_toArray, List.set_cons_zero, List.set_cons_succ]
        go_simp
        refine hK.out _ _ trivial ⟨u64, u66, (.slice AA (L + n6) cA), u70, u72, u73, (.slice AB (L + 1) cB), (.slice (some ⟨w.heap.size, 0, none⟩) 5 5), u21, (.slice AA (L + n6) cA), (.slice AB (L + 1) cB), _, _, _, _, by simp only [Act.put, List.setIfInBounds_toArray, List.set_cons_zero, List.set_cons_succ], fun j hj hn => by rw [up_ne (show j ≠ 15 from fun e => hn (by subst e; simp))]; exact hT j hj hn, .inr (.inr (.inr ⟨(up_ne (by decide)).trans a4, (up_ne (by decide)).trans a6, (up_ne (by decide)).trans a8, rfl, rfl, rfl⟩)), .inr (.inr (.inr ⟨(up_ne (by decide)).trans b0, (up_ne (by decide)).trans b2, (up_ne (by decide)).trans b4, rfl, rfl, rfl⟩)), ?_, fun _ => ⟨(up_ne (by decide)).trans p8, (up_ne (by decide)).trans p14, w.heap.size, rfl, Ce.made rfl⟩, (fun h => by rw [up_ne (show 16 ≠ 15 by decide), n16] at h; cases h), fun h => by rw [up_ne (show 13 ≠ 15 by decide)]; exact hN (by rwa [up_ne (show 14 ≠ 15 by decide)] at h)⟩
        rw [up_ne (show 4 ≠ 15 by decide), up_ne (show 10 ≠ 15 by decide), up_ne (show 13 ≠ 15 by decide)]
        exact hW.alloc _
      · obtain ⟨u64, u66, u68, u70, u72, u73, u74, u75, u21, rA, rB, nA, nB, fA, fB, rfl, hT, hA, hB, hW, hE, hZ, hN⟩ := hJ
        have p15 := hP { on := 15, ground := .data } (by simp) rfl
        obtain ⟨x8, x14, P, rfl, hC⟩ := hE p15
        simp only [Act.put, List.setIfInBounds_toArray, List.set_cons_zero, List.set_cons_succ]
        go_simp
        refine hK.out _ _ trivial ⟨u64, u66, u68, u70, u72, u73, u74, (.slice (some ⟨P, 0, none⟩) 5 5), (.slice (some ⟨P, 0, none⟩) 5 5), rA, rB, nA, nB, fA, fB, by simp only [Act.put, List.setIfInBounds_toArray, List.set_cons_zero, List.set_cons_succ], fun j hj hn => by rw [up_ne (show j ≠ 16 from fun e => hn (by subst e; simp))]; exact hT j hj hn, hA.up_ (by decide) (by decide) (by decide), hB.up_ (by decide) (by decide) (by decide), ?_, fun _ => ⟨(up_ne (by decide)).trans x8, (up_ne (by decide)).trans x14, P, rfl, hC⟩, fun _ => ⟨rfl, (up_ne (by decide)).trans p15⟩, fun h => by rw [up_ne (show 13 ≠ 16 by decide)]; exact hN (by rwa [up_ne (show 14 ≠ 16 by decide)] at h)⟩
        rw [up_ne (show 4 ≠ 16 by decide), up_ne (show 10 ≠ 16 by decide), up_ne (show 13 ≠ 16 by decide)]
        exact hW
    · intro l a w hJ hall
      obtain ⟨u64, u66, u68, u70, u72, u73, u74, u75, u21, rA, rB, nA, nB, fA, fB, rfl, hT, hA, hB, hW, hE, hZ, hN⟩ := hJ
      clear hT hN
      obtain ⟨rfl, _⟩ := hZ (hall 16 (by decide))
      obtain ⟨_, _, P, rfl, hC⟩ := hE (hall 15 (by decide))
      have t4 := hall 4 (by decide)
      have t10 := hall 10 (by decide)
      have t8 := hall 8 (by decide)
      have t14 := hall 14 (by decide)
      rcases hA with ⟨_, _, x0⟩ | ⟨_, _, x0, _⟩ | ⟨_, _, x0, _⟩ | ⟨a4, a6, a8, rfl, rfl, rfl⟩
      (iterate 3 (rw [t8] at x0; cases x0))
      rcases hB with ⟨_, _, x0⟩ | ⟨_, _, x0, _⟩ | ⟨_, _, x0, _⟩ | ⟨b0, b2, b4, rfl, rfl, rfl⟩
      (iterate 3 (rw [t14] at x0; cases x0))
      have OA := hW.2.1 a4
      have OBB := hW.2.2.1 b0
      obtain ⟨AA, cA, rfl, hcA, _, _⟩ := OA.form_
      obtain ⟨AB, cB, rfl, hcB, _, _⟩ := OBB.form_
      have RA := hid OA.sl1
      have RB_ := hid OBB.sl1
      have CP := hid hC
      have SW := hid hW.1
      clear hE hZ hC hW OA OBB t4 t10 t8 t14 a4 a6 a8 b0 b2 b4 hall
      simp only [Act.put, List.setIfInBounds_toArray, List.set_cons_zero, List.set_cons_succ]
      obtain ⟨v1, rfl⟩ : ∃ wo : World, wo = w := ⟨_, rfl⟩
      have ZF := hid (show IsB (fun j => if j < L then F j else g6 (j - L)) from fun j => by dsimp only; split; exact HM.out.B j; exact HG6.out _)
      have Z0B := hid (show IsB (fun j => if j < L then Z j else 0) from fun j => by dsimp only; split; exact ZB.out j; exact ⟨by decide, by decide⟩)
      go_wp2_with fail
      go_loopg [22, 23, 24, 25, 26, 27, 28] 5 (fun gh i _ _ _ _ _ _ wr => ∃ q : Nat, gh = 5 - q ∧ q ≤ 5 ∧ i = .int .i64 (q : Int) ∧ Below v1.heap.size v1 wr)
      case atStart => exact ⟨0, rfl, by omega, rfl, Below.refl _ _⟩
      case round =>
        obtain ⟨q, hgh, hq, rfl, hb⟩ := hrel
        have BR := hid hb
        clear hb
        have q0 : (0 : Int) ≤ q := by omega
        by_cases hlt : q < 5
        · have q1 : (q : Int) < 5 := by omega
          obtain ⟨X, m, d, h, hx, hB, hm, hmL⟩ : ∃ (X : Option Addr) (m d : Nat) (h : Nat → Int), (∀ w', Below wr.heap.size wr w' → w'.cell? ⟨P, q, none⟩ = some (.slice X m d) ∧ By w' X m h) ∧ IsB h ∧ m ≤ d ∧ m ≤ 100000 := by
            have h2 : q = 0 ∨ q = 1 ∨ q = 2 ∨ q = 3 ∨ q = 4 := by omega
            rcases h2 with rfl | rfl | rfl | rfl | rfl
            · exact ⟨(some ⟨G, 0, none⟩), L, cx, Z, fun w' hb => ⟨(Ce.below (Ce.below CP.out BR.out) hb).2.1 0 _ rfl, Sl.below (Sl.below RZ.out (then_ (then_ S4.out SW.out) BR.out) (Nat.le_refl _)) hb (Nat.le_refl _)⟩, ZB.out, hcx, by omega⟩
            · exact ⟨A4, k, c4, F, fun w' hb => ⟨(Ce.below (Ce.below CP.out BR.out) hb).2.1 1 _ rfl, (Sl.below (Sl.below R4.out (then_ (then_ (then_ SZ.out S4.out) SW.out) BR.out) (Nat.le_refl _)) hb (Nat.le_refl _)).less (by omega)⟩, HM.out.B, by omega, by omega⟩
            · exact ⟨AA, (L + n6), cA, (fun j => if j < L then F j else g6 (j - L)), fun w' hb => ⟨(Ce.below (Ce.below CP.out BR.out) hb).2.1 2 _ rfl, Sl.below (Sl.below RA.out BR.out (Nat.le_refl _)) hb (Nat.le_refl _)⟩, ZF.out, hcA, by omega⟩
            · exact ⟨A6, n6, c6, g6, fun w' hb => ⟨(Ce.below (Ce.below CP.out BR.out) hb).2.1 3 _ rfl, Sl.below (Sl.below H6.out (then_ (then_ (then_ (then_ (then_ (then_ S1.out S2.out) S3.out) SZ.out) S4.out) SW.out) BR.out) (Nat.le_refl _)) hb (Nat.le_refl _)⟩, HG6.out, hn6, by omega⟩
            · exact ⟨AB, (L + 1), cB, (fun j => if j < L then Z j else 0), fun w' hb => ⟨(Ce.below (Ce.below CP.out BR.out) hb).2.1 4 _ rfl, Sl.below (Sl.below RB_.out BR.out (Nat.le_refl _)) hb (Nat.le_refl _)⟩, Z0B.out, hcB, by omega⟩
          have HX := hid hx
          have HB := hid hB
          clear hx hB
          clear H1
          clear H2
          clear H6
          clear R4
          clear RZ
          clear RA
          clear RB_
          clear CP
          clear ZF
          clear Z0B
          clear HG6
          clear ZB
          clear ZR
          clear GR
          clear FB
          have y1 := (HX.out _ ((Below.refl wr.heap.size wr).alloc (Nat.le_refl _) (.cells #[] 5))).1
          have EO : ∀ f, Ow (wr.alloc (.cells #[] 5)) wr.heap.size 5 1 (.slice (some ⟨wr.heap.size, 0, none⟩) 0 0) 0 f := fun f => Ow.new' rfl
          replace EO := hid EO
          go_upto_region 14 with (at_builtin; refine wp_app_b0 rfl (.tmp 82) (.tmp 86) rfl wr.heap.size _ rfl EO.out X m d h rfl (HX.out _ ((Below.refl wr.heap.size wr).alloc (Nat.le_refl _) _)).2 (by omega) (by simp) ?_; intro AR cr w1' h1 h2 h3 h4 h5 h6; have OR := hid (show OB w1' wr.heap.size (.slice AR m cr) m h from h1); have hcr := h2; have SR := hid (((Below.refl wr.heap.size wr).alloc (Nat.le_refl _) (.cells #[] 5)).trans h4); clear h1 h2 h3 h4 h5 h6 y1)
          clear EO HX
          go_cut [93] from 76 to 146 (fun s wx => wx = w1' ∧ ∃ b : Bool, s = .bool b ∧ (b = true → 16 ≤ m))
          case first =>
            cases a7
            · go_wp2_with fail
              go_meet
              exact ⟨rfl, false, rfl, fun h => by cases h⟩
            · by_cases h16 : (16 : Int) ≤ (m : Int)
              · go_wp2_with fail
                go_meet
                exact ⟨rfl, true, rfl, fun _ => by omega⟩
              · go_wp2_with fail
                go_meet
                exact ⟨rfl, false, rfl, fun h => by cases h⟩
          case rest =>
            obtain ⟨rfl, sb, rfl, hsb⟩ := hcut
            have HSB := hid hsb
            clear hsb
            go_upto_if 93 with (fail)
            go_cut [24] from 76 to 146 (fun _ wx => ∃ h' : Nat → Int, OB wx wr.heap.size (.slice AR m cr) m h' ∧ IsB h' ∧ Below wr.heap.size wr wx)
            case first =>
              cases sb
              · go_wp2_with fail
                go_meet
                exact ⟨h, OR.out, HB.out, SR.out⟩
              · have h16 := HSB.out rfl
                obtain ⟨R, eR, hRB, _, _, _⟩ := Ow.block_ OR.out (by omega)
                subst eR
                have m63 : (m : Int) ≤ 100000 := by omega
                obtain ⟨R', eR, _, _, hce, hfr⟩ := Ow.block_ OR.out (by omega)
                obtain rfl : R = R' := by simpa using eR
                clear eR
                have c1 := hce 2 (by omega)
                have f1 := hfr 2
                have c2 := hce 3 (by omega)
                have f2 := hfr 3
                clear hce hfr
                go_upto_region 16 with (fail)
                clear c1 f1 c2 f2
                have OR2 := hid (OB.store (OB.store OR.out 2 ((m : Int) / 256 % 256)) 3 ((m : Int) % 256))
                have SR2 := hid (Below.setCell (p := ⟨R, 3, none⟩) (Below.setCell (p := ⟨R, 2, none⟩) SR.out hRB (.int .u8 ((m : Int) / 256 % 256))) hRB (.int .u8 ((m : Int) % 256)))
                have HB2 := hid (set1_B (set1_B HB.out 2 ((m : Int) / 256 % 256) (by omega) (by omega)) 3 ((m : Int) % 256) (by omega) (by omega))
                clear OR SR HB
                have OR := OR2
                have SR := SR2
                have HB := HB2
                clear OR2 SR2 HB2
                generalize set1 (set1 h 2 ((m : Int) / 256 % 256)) 3 ((m : Int) % 256) = h2 at OR HB
                generalize (wc.setCell ⟨R, 2, none⟩ (.int .u8 ((m : Int) / 256 % 256))).setCell ⟨R, 3, none⟩ (.int .u8 ((m : Int) % 256)) = x2 at *
                obtain ⟨R', eR, _, _, hce, hfr⟩ := Ow.block_ OR.out (by omega)
                obtain rfl : R = R' := by simpa using eR
                clear eR
                have c1 := hce 14 (by omega)
                have f1 := hfr 14
                have c2 := hce 15 (by omega)
                have f2 := hfr 15
                clear hce hfr
                go_upto_region 17 with (fail)
                clear c1 f1 c2 f2
                have OR2 := hid (OB.store (OB.store OR.out 14 (0)) 15 (0))
                have SR2 := hid (Below.setCell (p := ⟨R, 15, none⟩) (Below.setCell (p := ⟨R, 14, none⟩) SR.out hRB (.int .u8 (0))) hRB (.int .u8 (0)))
                have HB2 := hid (set1_B (set1_B HB.out 14 (0) (by omega) (by omega)) 15 (0) (by omega) (by omega))
                clear OR SR HB
                have OR := OR2
                have SR := SR2
                have HB := HB2
                clear OR2 SR2 HB2
                generalize set1 (set1 h2 14 (0)) 15 (0) = h3 at OR HB
                generalize (x2.setCell ⟨R, 14, none⟩ (.int .u8 (0))).setCell ⟨R, 15, none⟩ (.int .u8 (0)) = x3 at *
                have m1 := cut_to_b (some ⟨R, 0, none⟩) m cr 16 (by omega) hcr 16 rfl
                obtain ⟨sv, hsv⟩ : ∃ s, s = 65535 - norm (tot h3 16) := ⟨_, rfl⟩
                have svb := norm_bd (tot h3 16)
                have sv0 : 0 ≤ sv := by omega
                have sv1 : sv ≤ 65535 := by omega
                have OF := hid (re_i64 (rof_any (some ⟨R, 0, none⟩) 16 cr h3 x3 ((Ow.sl1 OR.out).less (by omega)) HB.out (by omega)) hsv.symm)
                clear hsv svb
                go_wp2_with fail
                refine (OF.out).mono ?_
                rintro e w' ⟨rfl, rfl⟩
                clear OF m1
                obtain ⟨R', eR, _, _, hce, hfr⟩ := Ow.block_ OR.out (by omega)
                obtain rfl : R = R' := by simpa using eR
                clear eR
                have c1 := hce 14 (by omega)
                have f1 := hfr 14
                have c2 := hce 15 (by omega)
                have f2 := hfr 15
                clear hce hfr
                go_wp2_with fail
                go_meet
                exact ⟨_, OB.store (OB.store OR.out 14 _) 15 _, set1_B (set1_B HB.out 14 _ (by omega) (by omega)) 15 _ (by omega) (by omega), Below.setCell (p := ⟨R, 15, none⟩) (Below.setCell (p := ⟨R, 14, none⟩) SR.out hRB _) hRB _⟩
            case rest =>
              clear OR HB SR HSB
              obtain ⟨h', hO, hB', hb⟩ := hcut
              have RR := hid hO.sl1
              have HB := hid hB'
              have SR := hid hb
              clear hO hB' hb
              obtain ⟨V1, rfl⟩ : ∃ wo : World, wo = wc := ⟨_, rfl⟩
              have mL : m ≤ 1000000 := by omega
              obtain ⟨p1, hp1⟩ : ∃ p1, p1 = parseR h' m := ⟨_, rfl⟩
              obtain ⟨E1, hE1⟩ : ∃ E, E = parseE h' m := ⟨_, rfl⟩
              obtain ⟨wb, hwb⟩ : ∃ b, b = wholeB h' m := ⟨_, rfl⟩
              have T := hid (parse_q p1 E1 h' m hp1 hE1 HB.out mL AR cr hcr)
              have V := hid (rparse_q p1 E1 h' m hp1 hE1 HB.out mL AR cr hcr)
              have HW := hid hwb
              have SA := hid (same_p p1)
              clear hp1 hE1 hwb
              go_wp2_with fail
              refine (T.out V1 (Sl.below RR.out (Below.refl _ _) (Nat.le_refl _))).mono ?_
              rintro e V2 ⟨AO3, cO3, AD3, cD3, rfl, hO, hD, hb⟩
              have S5 := hid hb
              clear hb
              have O3 := hid (hO.sl1)
              have D3 := hid (hD.sl1)
              clear hO hD T
              go_upto_region 20 with (fail)
              have C3 := hid (Ce.made (w := V2) (l := [.int .i64 p1.kind, .int .i64 p1.life, .int .i64 p1.piece, .int .i64 p1.src, .int .i64 p1.dst, .int .i64 p1.fp, .int .i64 p1.tp, .int .i64 p1.flags, .int .i64 p1.label, .bool p1.bare, .int .i64 p1.code, .slice AO3 p1.no cO3, .slice AD3 p1.nd cD3]) (T := 26) rfl)
              simp only [List.toArray] at C3
              have S6 := hid ((Below.refl V2.heap.size V2).alloc (Nat.le_refl _) (.cells #[.int .i64 p1.kind, .int .i64 p1.life, .int .i64 p1.piece, .int .i64 p1.src, .int .i64 p1.dst, .int .i64 p1.fp, .int .i64 p1.tp, .int .i64 p1.flags, .int .i64 p1.label, .bool p1.bare, .int .i64 p1.code, .slice AO3 p1.no cO3, .slice AD3 p1.nd cD3] 26))
              generalize (V2.alloc (.cells #[.int .i64 p1.kind, .int .i64 p1.life, .int .i64 p1.piece, .int .i64 p1.src, .int .i64 p1.dst, .int .i64 p1.fp, .int .i64 p1.tp, .int .i64 p1.flags, .int .i64 p1.label, .bool p1.bare, .int .i64 p1.code, .slice AO3 p1.no cO3, .slice AD3 p1.nd cD3] 26)) = V3 at *
              generalize hQ3 : V2.heap.size = Q3 at C3 ⊢
              have HQ3 := hid hQ3
              clear hQ3
              go_wp2_with fail
              refine (V.out V3 (Sl.below RR.out (then_ S5.out S6.out) (Nat.le_refl _))).mono ?_
              rintro e V4 ⟨AO4, cO4, AD4, cD4, rfl, hO, hD, hb⟩
              have S7 := hid hb
              clear hb
              have O4 := hid (hO.sl1)
              have D4 := hid (hD.sl1)
              clear hO hD V
              go_upto_region 21 with (fail)
              have C4 := hid (Ce.made (w := V4) (l := [.int .i64 p1.kind, .int .i64 p1.life, .int .i64 p1.piece, .int .i64 p1.src, .int .i64 p1.dst, .int .i64 p1.fp, .int .i64 p1.tp, .int .i64 p1.flags, .int .i64 p1.label, .bool p1.bare, .int .i64 p1.code, .slice AO4 p1.no cO4, .slice AD4 p1.nd cD4]) (T := 26) rfl)
              simp only [List.toArray] at C4
              have S8 := hid ((Below.refl V4.heap.size V4).alloc (Nat.le_refl _) (.cells #[.int .i64 p1.kind, .int .i64 p1.life, .int .i64 p1.piece, .int .i64 p1.src, .int .i64 p1.dst, .int .i64 p1.fp, .int .i64 p1.tp, .int .i64 p1.flags, .int .i64 p1.label, .bool p1.bare, .int .i64 p1.code, .slice AO4 p1.no cO4, .slice AD4 p1.nd cD4] 26))
              generalize (V4.alloc (.cells #[.int .i64 p1.kind, .int .i64 p1.life, .int .i64 p1.piece, .int .i64 p1.src, .int .i64 p1.dst, .int .i64 p1.fp, .int .i64 p1.tp, .int .i64 p1.flags, .int .i64 p1.label, .bool p1.bare, .int .i64 p1.code, .slice AO4 p1.no cO4, .slice AD4 p1.nd cD4] 26)) = V5 at *
              generalize hQ4 : V4.heap.size = Q4 at C4 ⊢
              have HQ4 := hid hQ4
              clear hQ4
              have yC := (Ce.below C3.out (then_ S7.out S8.out))
              have y0 := yC.2.1 0 _ rfl
              have y1 := yC.2.1 1 _ rfl
              have y2 := yC.2.1 2 _ rfl
              have y3 := yC.2.1 3 _ rfl
              have y4 := yC.2.1 4 _ rfl
              have y5 := yC.2.1 5 _ rfl
              have y6 := yC.2.1 6 _ rfl
              have y7 := yC.2.1 7 _ rfl
              have y8 := yC.2.1 8 _ rfl
              have y9 := yC.2.1 9 _ rfl
              have y10 := yC.2.1 10 _ rfl
              have y11 := yC.2.1 11 _ rfl
              have y12 := yC.2.1 12 _ rfl
              clear yC
              have zC := (Ce.below C4.out (Below.refl _ _))
              have z0 := zC.2.1 0 _ rfl
              have z1 := zC.2.1 1 _ rfl
              have z2 := zC.2.1 2 _ rfl
              have z3 := zC.2.1 3 _ rfl
              have z4 := zC.2.1 4 _ rfl
              have z5 := zC.2.1 5 _ rfl
              have z6 := zC.2.1 6 _ rfl
              have z7 := zC.2.1 7 _ rfl
              have z8 := zC.2.1 8 _ rfl
              have z9 := zC.2.1 9 _ rfl
              have z10 := zC.2.1 10 _ rfl
              have z11 := zC.2.1 11 _ rfl
              have z12 := zC.2.1 12 _ rfl
              clear zC
              go_wp2_with fail
              refine (SA.out AO3 AD3 AO4 AD4 cO3 cD3 cO4 cD4 V5 (Sl.below O3.out (then_ (then_ S6.out S7.out) S8.out) (Nat.le_refl _)) (Sl.below D3.out (then_ (then_ S6.out S7.out) S8.out) (Nat.le_refl _)) (Sl.below O4.out S8.out (Nat.le_refl _)) (Sl.below D4.out S8.out (Nat.le_refl _))).mono ?_
              rintro e V6 ⟨rfl, hb⟩
              have S9 := hid hb
              clear hb
              clear y0 y1 y2 y3 y4 y5 y6 y7 y8 y9 y10 y11 y12
              clear z0 z1 z2 z3 z4 z5 z6 z7 z8 z9 z10 z11 z12
              go_wp2_with fail
              refine (re_bool (whole_any AR m cr h' V6 (Sl.below RR.out (then_ (then_ (then_ (then_ S5.out S6.out) S7.out) S8.out) S9.out) (Nat.le_refl _)) HB.out hcr mL) HW.out.symm).mono ?_
              rintro e V7 ⟨rfl, hb⟩
              have S10 := hid hb
              clear hb
              go_wp2_with fail
              refine (re_bool (rwhole_any AR m cr h' V7 (Sl.below RR.out (then_ (then_ (then_ (then_ (then_ S5.out S6.out) S7.out) S8.out) S9.out) S10.out) (Nat.le_refl _)) HB.out hcr mL) HW.out.symm).mono ?_
              rintro e V8 ⟨rfl, hb⟩
              have S11 := hid hb
              clear hb
              go_wp2_with fail
              go_roundg (5 - (q + 1))
              case measure => omega
              case rel => exact ⟨q + 1, rfl, by omega, by go_num, (then_ (then_ (then_ (then_ (then_ (then_ (then_ (then_ BR.out SR.out) S5.out) S6.out) S7.out) S8.out) S9.out) S10.out) S11.out)⟩
        · have q1 : ¬ (q : Int) < 5 := by omega
          go_wp2_with fail
          go_ret
          exact ⟨rfl, (then_ (then_ (then_ (then_ (then_ (then_ S1.out S2.out) S3.out) SZ.out) S4.out) SW.out) BR.out)⟩

set_option maxRecDepth 100000 in
theorem lifted (os : Os) (started : os.Started) (H : Type) (enc : TypeId × Value → H) :
    ReturnsInHanded {} Try.checked os 4 .any (Rows.wireReadsSpec.pre6 enc Try.prog Try.f4 [] false) (Rows.wireReadsSpec.post enc Try.prog Try.f4 false true false false) :=
  law_step (s := Rows.wireReadsSpec) started (by kernel_rfl) Try.func4
    (ChangeSpec.witness6 (s := Rows.wireReadsSpec) (enc := enc) (C := Try.checked) false ⟨#[], #[.int .i64 0, .slice none 0 0, .slice none 0 0, .int .i64 0, .int .u8 0, .int .i64 0, .slice none 0 0, .bool false], []⟩ 8 (by kernel_rfl) (by kernel_rfl) (by kernel_rfl) (by kernel_rfl))
    rfl (by rw [Try.params4]; decide +kernel) rfl Try.underlying4
    (fun ds h => by
      rw [Try.params4] at h
      match ds, h with
      | [_, _, _, _, _, _, _, _], _ => rfl)
    (fun W base args ds ps hval hA hsz => by
      rw [Try.params4] at hA hval hsz
      obtain ⟨v0, vs0, d0, ds0, p0, q0, hargs, rfl, rfl, h0, r0⟩ := trodAll_cons hA
      obtain ⟨v1, vs1, d1, ds1, p1, q1, rfl, rfl, rfl, h1, r1⟩ := trodAll_cons r0
      obtain ⟨v2, vs2, d2, ds2, p2, q2, rfl, rfl, rfl, h2, r2⟩ := trodAll_cons r1
      obtain ⟨v3, vs3, d3, ds3, p3, q3, rfl, rfl, rfl, h3, r3⟩ := trodAll_cons r2
      obtain ⟨v4, vs4, d4, ds4, p4, q4, rfl, rfl, rfl, h4, r4⟩ := trodAll_cons r3
      obtain ⟨v5, vs5, d5, ds5, p5, q5, rfl, rfl, rfl, h5, r5⟩ := trodAll_cons r4
      obtain ⟨v6, vs6, d6, ds6, p6, q6, rfl, rfl, rfl, h6, r6⟩ := trodAll_cons r5
      obtain ⟨v7, vs7, d7, ds7, p7, q7, rfl, rfl, rfl, h7, r7⟩ := trodAll_cons r6
      obtain ⟨rfl, rfl, rfl⟩ := trodAll_nil r7
      obtain rfl : args = #[v0, v1, v2, v3, v4, v5, v6, v7] := by cases args; simp_all
      obtain ⟨a0, rfl, rfl, rfl, w0⟩ := open_int Try.underlying3 (hval 0 3 v0 rfl rfl) h0
      obtain ⟨A1, n1, c1, g1, rfl, hn1, hc1, hs1, hw1, hl1, hd1⟩ := open_row Try.underlying22 Try.underlying3 (by kernel_rfl) (hval 1 22 v1 rfl rfl) h1
      have re1 : c1 * 8 ≤ 140737488351232 := by
        rcases hd1 with ⟨_, h0⟩ | ⟨xs, ys, h1, h2⟩
        · omega
        · have := sized_slice hsz (j := 1) (t := 22) (e := 3) rfl (by rw [h1]; rfl) Try.underlying22
          rw [h2, show Try.prog.bytesOf 3 = 8 from by kernel_rfl] at this
          simpa [reachBytes] using this
      obtain ⟨A2, n2, c2, g2, rfl, hn2, hc2, hs2, hw2, hl2, hd2⟩ := open_row Try.underlying23 Try.underlying5 (by kernel_rfl) (hval 2 23 v2 rfl rfl) h2
      have re2 : c2 * 1 ≤ 140737488351232 := by
        rcases hd2 with ⟨_, h0⟩ | ⟨xs, ys, h1, h2⟩
        · omega
        · have := sized_slice hsz (j := 2) (t := 23) (e := 5) rfl (by rw [h1]; rfl) Try.underlying23
          rw [h2, show Try.prog.bytesOf 5 = 1 from by kernel_rfl] at this
          simpa [reachBytes] using this
      obtain ⟨a3, rfl, rfl, rfl, w3⟩ := open_int Try.underlying3 (hval 3 3 v3 rfl rfl) h3
      obtain ⟨a4, rfl, rfl, rfl, w4⟩ := open_int Try.underlying5 (hval 4 5 v4 rfl rfl) h4
      obtain ⟨a5, rfl, rfl, rfl, w5⟩ := open_int Try.underlying3 (hval 5 3 v5 rfl rfl) h5
      obtain ⟨A6, n6, c6, g6, rfl, hn6, hc6, hs6, hw6, hl6, hd6⟩ := open_row Try.underlying23 Try.underlying5 (by kernel_rfl) (hval 6 23 v6 rfl rfl) h6
      have re6 : c6 * 1 ≤ 140737488351232 := by
        rcases hd6 with ⟨_, h0⟩ | ⟨xs, ys, h1, h2⟩
        · omega
        · have := sized_slice hsz (j := 6) (t := 23) (e := 5) rfl (by rw [h1]; rfl) Try.underlying23
          rw [h2, show Try.prog.bytesOf 5 = 1 from by kernel_rfl] at this
          simpa [reachBytes] using this
      obtain ⟨a7, rfl, rfl, rfl⟩ := open_bool Try.underlying4 (hval 7 4 v7 rfl rfl) h7
      exact walk W a0 (bounds_i64 w0) A1 n1 c1 g1 hn1 hc1 hs1 (fun j => bounds_i64 (hw1 j)) hl1 re1 A2 n2 c2 g2 hn2 hc2 hs2 (fun j => bounds_u8 (hw2 j)) hl2 re2 a3 (bounds_i64 w3) a4 (bounds_u8 w4) a5 (bounds_i64 w5) A6 n6 c6 g6 hn6 hc6 hs6 (fun j => bounds_u8 (hw6 j)) hl6 re6 a7)

theorem proved : Rows.WireReadsSaid :=
  OpenClaim.holds_of_wide 4 Try.f4 rfl rfl rfl rfl rfl rfl rfl ⟨rfl, rfl, rfl, rfl, rfl⟩ rfl rfl rfl rfl rfl (by kernel_rfl) Try.func4 (by kernel_rfl)
    (of_decide_eq_true (by kernel_rfl)) (by unfold Func.isWrapper; first | (rw [if_pos (by decide +kernel)]; kernel_rfl) | (rw [if_neg (by decide +kernel)]; exact ⟨rfl, rfl⟩))
    (fun os started H enc _ => lifted os started H enc)
end Go.Proofs.Ytjljaecjnpmdoaa.wireReads
