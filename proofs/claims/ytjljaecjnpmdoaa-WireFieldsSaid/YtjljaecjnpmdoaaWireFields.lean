/- roundhouselaw3.WireFields answers true for any kind, any numbers, any bytes; no condition. -/
import Derived.Test.YtjljaecjnpmdoaaWirLaw
import Derived.Test.YtjljaecjnpmdoaaWirLawP
import Derived.BigQuiet
import Derived.Deep.RegionHeld3
import Derived.Deep.Cut
namespace Go.Proofs.Ytjljaecjnpmdoaa.wireFields
set_option linter.unusedVariables false
set_option linter.unusedSimpArgs false
open Go.RowKit Go.ChangeShapes Go.WideShapes Go.ChangeAt

set_option maxRecDepth 100000 in
set_option maxHeartbeats 4000000 in
theorem walk (W : World) (a0 : Int) (r_a0 : -9223372036854775808 ≤ a0 ∧ a0 ≤ 9223372036854775807) (A1 : Option Addr) (n1 c1 : Nat) (g1 : Nat → Int) (hn1 : n1 ≤ c1) (hc1 : c1 ≤ maxLen) (hr1 : Is W A1 n1 g1) (hg1 : IsI g1) (hl1 : ∀ ad, A1 = some ad → 0 < n1 → ad.block < W.heap.size) (re1 : c1 * 8 ≤ 140737488351232) (A2 : Option Addr) (n2 c2 : Nat) (g2 : Nat → Int) (hn2 : n2 ≤ c2) (hc2 : c2 ≤ maxLen) (hr2 : By W A2 n2 g2) (hg2 : IsB g2) (hl2 : ∀ ad, A2 = some ad → 0 < n2 → ad.block < W.heap.size) (re2 : c2 * 1 ≤ 140737488351232) (a3 : Int) (r_a3 : -9223372036854775808 ≤ a3 ∧ a3 ≤ 9223372036854775807) (a4 : Int) (r_a4 : -9223372036854775808 ≤ a4 ∧ a4 ≤ 9223372036854775807) (a5 : Int) (r_a5 : -9223372036854775808 ≤ a5 ∧ a5 ≤ 9223372036854775807) :
    Calls Try.prog 9 #[.int .i64 a0, .slice A1 n1 c1, .slice A2 n2 c2, .int .i64 a3, .int .i64 a4, .int .i64 a5] W fun e w' => e = .returned (.bool true) ∧ Below W.heap.size W w' := by
  have HG := hid hg2
  have m1 : (n1 : Int) ≤ 9223372036854775807 := by unfold maxLen at hc1; omega
  have m2 : (n2 : Int) ≤ 9223372036854775807 := by unfold maxLen at hc2; omega
  have H1 := hid (hr1)
  have H2 := hid (hr2)
  obtain ⟨p, hp⟩ : ∃ p, p = mkPk a0 (nv g1 n1) g2 n2 := ⟨_, rfl⟩
  obtain ⟨L, hL⟩ : ∃ L, L = lenP p := ⟨_, rfl⟩
  obtain ⟨F, hF⟩ : ∃ F, F = builtF p := ⟨_, rfl⟩
  have M := mk_all hp HG.out hL hF
  have MK := hid (make_p p a0 A1 n1 c1 g1 A2 n2 c2 g2 hp HG.out m1 hn2 m2)
  have BU := hid (build_p p L F hL hF M.E M.go M.gd (Nat.le_trans M.no (by decide)) (Nat.le_trans M.nd (by decide)))
  have RB := hid (rbuild_p p L F hL hF M.E M.go M.gd (Nat.le_trans M.no (by decide)) (Nat.le_trans M.nd (by decide)))
  have HM := hid M
  have L0 := M.L0
  have L1 := M.L1
  have LN : L ≤ 1000000 := by omega
  clear M
  clear hp hL hF hr1 hr2 hg1 hg2 hl1 hl2 re1 re2 hc1 hc2 m1 m2
  clear BU
  obtain ⟨j, hj⟩ : ∃ x, x = wi a4 3 := ⟨_, rfl⟩
  have bj := wi_bd a4 3 (by omega)
  rw [← hj] at bj
  have Wj := hid (fun w => re_i64 (within_any a4 3 w (by omega) (by omega)) hj.symm)
  clear hj
  obtain ⟨bj1, bj2⟩ := bj
  obtain ⟨i, hi⟩ : ∃ x, x = wi a3 (L : Int) := ⟨_, rfl⟩
  have bi := wi_bd a3 (L : Int) (by omega)
  rw [← hi] at bi
  have Wi := hid (fun w => re_i64 (within_any a3 (L : Int) w (by omega) (by omega)) hi.symm)
  clear hi
  obtain ⟨bi1, bi2⟩ := bi
  obtain ⟨x, hx⟩ : ∃ x, x = wi a5 256 := ⟨_, rfl⟩
  have bx := wi_bd a5 256 (by omega)
  rw [← hx] at bx
  have Wx := hid (fun w => re_i64 (within_any a5 256 w (by omega) (by omega)) hx.symm)
  clear hx
  obtain ⟨bx1, bx2⟩ := bx
  obtain ⟨i, rfl⟩ := Int.eq_ofNat_of_zero_le bi1
  go_enter Try.func9, Try.ntmps9
  go_wp2_with fail
  refine (known_any _).mono ?_
  rintro e w1 ⟨rfl, hb⟩
  have S1 := hid hb
  clear hb
  go_wp2_with fail
  refine (MK.out w1 (Sl.below H1.out S1.out (Nat.le_refl _)) (Sl.below H2.out S1.out (Nat.le_refl _))).mono ?_
  rintro e w2 ⟨AO, cO, AD, cD, rfl, hO, hD, hb⟩
  have S2 := hid hb
  clear hb
  have RO := hid (hO)
  have RD := hid (hD)
  clear hO hD
  clear MK
  go_wp2_with fail
  refine (RB.out AO cO AD cD w2 (Sl.below RO.out (Below.refl _ _) (Nat.le_refl _)) (Sl.below RD.out (Below.refl _ _) (Nat.le_refl _))).mono ?_
  rintro e w3 ⟨A4, c4, rfl, hO, hc4, hb⟩
  have S3 := hid hb
  clear hb
  have O4 := hid hO
  clear hO RB
  clear RO
  clear RD
  go_upto_region 4 with (fail)
  go_wp2_with fail
  refine (Wj.out _).mono ?_
  rintro e w' ⟨rfl, rfl⟩
  go_upto_region 5 with (fail)
  obtain ⟨m, hm⟩ : ∃ v : Int, v = [1, 2, 4].getD j.toNat 0 := ⟨_, rfl⟩
  have hq : ([.int .i64 1, .int .i64 2, .int .i64 4] : List Value)[j.toNat]'(by simp only [List.length_cons, List.length_nil]; omega) = .int .i64 m := by
    rw [hm]
    have h5 : j = 0 ∨ j = 1 ∨ j = 2 := by omega
    rcases h5 with rfl | rfl | rfl <;> rfl
  simp only [hq]
  clear hq
  have SB := hid ((Below.refl w3.heap.size w3).alloc (Nat.le_refl _) (.cells #[.int .i64 1, .int .i64 2, .int .i64 4] 3))
  generalize (w3.alloc (.cells #[.int .i64 1, .int .i64 2, .int .i64 4] 3)) = w4 at *
  have hm3 : m = 1 ∨ m = 2 ∨ m = 4 := by
    have h5 : j = 0 ∨ j = 1 ∨ j = 2 := by omega
    rw [hm]
    rcases h5 with rfl | rfl | rfl <;> simp
  clear hm
  obtain ⟨m, rfl⟩ := Int.eq_ofNat_of_zero_le (show 0 ≤ m by omega)
  have hm4 : m = 1 ∨ m = 2 ∨ m = 4 := by omega
  have H4 := hid hm4
  have hml : m ≤ 4 := by omega
  have hm0 : 0 < m := by omega
  clear hm3 hm4
  go_wp2_with fail
  refine (Wi.out _).mono ?_
  rintro e w' ⟨rfl, rfl⟩
  go_wp2_with fail
  refine (Wx.out _).mono ?_
  rintro e w' ⟨rfl, rfl⟩
  have HX : Hid (0 ≤ x ∧ x ≤ 255) := hid ⟨bx1, by omega⟩
  obtain ⟨G4, eG, _, _, _, _⟩ := Ow.block_ O4.out (by omega)
  subst eG
  have R4 := hid (Sl.below O4.out.sl1 SB.out (Nat.le_refl _))
  by_cases hr : (L : Int) < 24 + (i : Int) + (m : Int)
  · have T := hid (write_q F L (24 + (i : Int)) (m : Int) x 14 0 _ (wrE_no HM.out.P (may_no (by omega))).symm (by simp) rfl HM.out.B LN (by omega))
    obtain ⟨G, hG⟩ : ∃ G, G = wrF F L (24 + (i : Int)).toNat (m : Int).toNat x := ⟨_, rfl⟩
    rw [← hG] at T
    go_wp2_with fail
    refine (T.out _ c4 hc4 w4 (Sl.below R4.out (Below.refl _ _) (Nat.le_refl _))).mono ?_
    rintro e w5 ⟨A7, c7, rfl, hO, hc7, hb⟩
    have S4 := hid hb
    clear hb
    have O7 := hid hO
    clear hO T
    clear hG
    go_wp2_with fail
    go_ret
    exact ⟨rfl, (then_ (then_ (then_ (then_ S1.out S2.out) S3.out) SB.out) S4.out)⟩
  · have T := hid (write_q F L (24 + (i : Int)) (m : Int) x 0 L _ (wrE_yes HM.out.P (may_yes (by have := H4.out; have := HX.out; omega) bx1 (by omega) (by omega) (.inr (by have := kind_num F; omega)))).symm (by simp) rfl HM.out.B LN (by omega))
    obtain ⟨G, hG⟩ : ∃ G, G = wrF F L (24 + (i : Int)).toNat (m : Int).toNat x := ⟨_, rfl⟩
    rw [← hG] at T
    go_wp2_with fail
    refine (T.out _ c4 hc4 w4 (Sl.below R4.out (Below.refl _ _) (Nat.le_refl _))).mono ?_
    rintro e w5 ⟨A7, c7, rfl, hO, hc7, hb⟩
    have S4 := hid hb
    clear hb
    have O7 := hid hO
    clear hO T
    obtain ⟨G7, eG, _, _, _, _⟩ := Ow.block_ O7.out (by omega)
    subst eG
    have R7 := hid (O7.out.sl1)
    have GB : Hid (IsB G) := hid (by rw [hG]; exact wr_B HM.out.B _ _ _ _)
    have GN : Hid (num G (24 + i) m = x) := hid (by rw [hG, show (24 + (i : Int)).toNat = 24 + i from by omega, Int.toNat_natCast]; exact wr_num (by omega) H4.out HX.out.1 HX.out.2)
    have GO : Hid (∀ q, (q < sumA (F 0) ∨ sumA (F 0) + 2 ≤ q) → (q < 24 + i ∨ 24 + i + m ≤ q) → G q = F q) := hid (fun q h1 h2 => by rw [hG, show (24 + (i : Int)).toNat = 24 + i from by omega, Int.toNat_natCast]; exact wr_out h2 h1 (by omega))
    clear hG
    have ck : (F 0 == 3) = true ∨ (F 0 == 3) = false := by cases (F 0 == 3) <;> simp
    rcases ck with ck | ck
    · have HS : Hid (sumA (F 0) = 18) := hid (by unfold sumA; rw [if_pos (by simpa using ck)])
      have y0 := Sl.at_ (Sl.below R4.out S4.out (Nat.le_refl _)) (j := 0) (by omega)
      rw [Nat.zero_add] at y0
      go_wp2_with fail
      clear y0
      go_loopw [21] (fun q wr => ∃ k : Nat, k ≤ L ∧ q = .int .i64 (k : Int) ∧ Below w5.heap.size w5 wr) (fun q _ => L - (intOf q).toNat)
      case atStart => exact ⟨0, by omega, rfl, Below.refl _ _⟩
      case round =>
        obtain ⟨k, hk, rfl, hb⟩ := hrel
        have BR := hid hb
        clear hb
        have k0 : (0 : Int) ≤ k := by omega
        by_cases hlt : k < L
        · have k1 : (k : Int) < L := by omega
          have y1 : wr.cell? ⟨G4, k, none⟩ = some (.int .u8 (F k)) := by have := Sl.at_ (Sl.below R4.out (then_ S4.out BR.out) (Nat.le_refl _)) (j := k) hlt; rwa [Nat.zero_add] at this
          have z1 : wr.cell? ⟨G7, k, none⟩ = some (.int .u8 (G k)) := by have := Sl.at_ (Sl.below R7.out BR.out (Nat.le_refl _)) (j := k) hlt; rwa [Nat.zero_add] at this
          by_cases hs1 : 18 ≤ k ∧ k ≤ 19
          · have d1 : decide ((k : Int) < 18) = false := by simp; omega
            have d2 : decide ((19 : Int) < (k : Int)) = false := by simp; omega
            go_wp2_with fail
            go_quiet (fail)
            rename_i nq
            go_wp2_with fail
            go_roundw
            case rel => exact ⟨k + 1, by omega, by go_num, by exact below_drewN BR.out _⟩
            case measure => simp [intOf]; omega
          · by_cases hs2 : 24 + i ≤ k ∧ k < 24 + i + m
            · have d3 : decide ((k : Int) < 24 + (i : Int)) = false := by simp; omega
              have d4 : decide (24 + (i : Int) + (m : Int) ≤ (k : Int)) = false := by simp; omega
              by_cases hs3 : k < 18
              · have d1 : (k : Int) < 18 := by omega
                go_wp2_with fail
                go_quiet (fail)
                rename_i nq
                go_wp2_with fail
                go_roundw
                case rel => exact ⟨k + 1, by omega, by go_num, by exact below_drewN BR.out _⟩
                case measure => simp [intOf]; omega
              · have d1 : decide ((k : Int) < 18) = false := by simp; omega
                have d2 : (19 : Int) < (k : Int) := by omega
                go_wp2_with fail
                go_quiet (fail)
                rename_i nq
                go_wp2_with fail
                go_roundw
                case rel => exact ⟨k + 1, by omega, by go_num, by exact below_drewN BR.out _⟩
                case measure => simp [intOf]; omega
            · have e1 := GO.out k (by rw [HS.out]; omega) (by omega)
              rw [e1] at z1
              clear e1
              by_cases hs4 : k < 24 + i
              · have d3 : (k : Int) < 24 + (i : Int) := by omega
                by_cases hs3 : k < 18
                · have d1 : (k : Int) < 18 := by omega
                  go_wp2_with fail
                  go_quiet (fail)
                  rename_i nq
                  go_wp2_with fail
                  go_roundw
                  case rel => exact ⟨k + 1, by omega, by go_num, by exact below_drewN BR.out _⟩
                  case measure => simp [intOf]; omega
                · have d1 : decide ((k : Int) < 18) = false := by simp; omega
                  have d2 : (19 : Int) < (k : Int) := by omega
                  go_wp2_with fail
                  go_quiet (fail)
                  rename_i nq
                  go_wp2_with fail
                  go_roundw
                  case rel => exact ⟨k + 1, by omega, by go_num, by exact below_drewN BR.out _⟩
                  case measure => simp [intOf]; omega
              · have d3 : decide ((k : Int) < 24 + (i : Int)) = false := by simp; omega
                have d4 : 24 + (i : Int) + (m : Int) ≤ (k : Int) := by omega
                by_cases hs3 : k < 18
                · have d1 : (k : Int) < 18 := by omega
                  go_wp2_with fail
                  go_quiet (fail)
                  rename_i nq
                  go_wp2_with fail
                  go_roundw
                  case rel => exact ⟨k + 1, by omega, by go_num, by exact below_drewN BR.out _⟩
                  case measure => simp [intOf]; omega
                · have d1 : decide ((k : Int) < 18) = false := by simp; omega
                  have d2 : (19 : Int) < (k : Int) := by omega
                  go_wp2_with fail
                  go_quiet (fail)
                  rename_i nq
                  go_wp2_with fail
                  go_roundw
                  case rel => exact ⟨k + 1, by omega, by go_num, by exact below_drewN BR.out _⟩
                  case measure => simp [intOf]; omega
        · have k1 : ¬ (k : Int) < L := by omega
          go_wp2_with fail
          refine (re_i64 (rnum_any (some ⟨G7, 0, none⟩) L c7 G wr (Sl.below R7.out BR.out (Nat.le_refl _)) GB.out (24 + i) m hml (by omega) LN) GN.out).mono ?_
          rintro e w' ⟨rfl, rfl⟩
          go_wp2_with fail
          go_ret
          exact ⟨rfl, (then_ (then_ (then_ (then_ (then_ S1.out S2.out) S3.out) SB.out) S4.out) BR.out)⟩
    · have HS : Hid (sumA (F 0) = 22) := hid (by unfold sumA; rw [if_neg (by simpa using ck)])
      have y0 := Sl.at_ (Sl.below R4.out S4.out (Nat.le_refl _)) (j := 0) (by omega)
      rw [Nat.zero_add] at y0
      go_wp2_with fail
      clear y0
      go_loopw [21] (fun q wr => ∃ k : Nat, k ≤ L ∧ q = .int .i64 (k : Int) ∧ Below w5.heap.size w5 wr) (fun q _ => L - (intOf q).toNat)
      case atStart => exact ⟨0, by omega, rfl, Below.refl _ _⟩
      case round =>
        obtain ⟨k, hk, rfl, hb⟩ := hrel
        have BR := hid hb
        clear hb
        have k0 : (0 : Int) ≤ k := by omega
        by_cases hlt : k < L
        · have k1 : (k : Int) < L := by omega
          have y1 : wr.cell? ⟨G4, k, none⟩ = some (.int .u8 (F k)) := by have := Sl.at_ (Sl.below R4.out (then_ S4.out BR.out) (Nat.le_refl _)) (j := k) hlt; rwa [Nat.zero_add] at this
          have z1 : wr.cell? ⟨G7, k, none⟩ = some (.int .u8 (G k)) := by have := Sl.at_ (Sl.below R7.out BR.out (Nat.le_refl _)) (j := k) hlt; rwa [Nat.zero_add] at this
          by_cases hs1 : 22 ≤ k ∧ k ≤ 23
          · have d1 : decide ((k : Int) < 22) = false := by simp; omega
            have d2 : decide ((23 : Int) < (k : Int)) = false := by simp; omega
            go_wp2_with fail
            go_quiet (fail)
            rename_i nq
            go_wp2_with fail
            go_roundw
            case rel => exact ⟨k + 1, by omega, by go_num, by exact below_drewN BR.out _⟩
            case measure => simp [intOf]; omega
          · by_cases hs2 : 24 + i ≤ k ∧ k < 24 + i + m
            · have d3 : decide ((k : Int) < 24 + (i : Int)) = false := by simp; omega
              have d4 : decide (24 + (i : Int) + (m : Int) ≤ (k : Int)) = false := by simp; omega
              by_cases hs3 : k < 22
              · have d1 : (k : Int) < 22 := by omega
                go_wp2_with fail
                go_quiet (fail)
                rename_i nq
                go_wp2_with fail
                go_roundw
                case rel => exact ⟨k + 1, by omega, by go_num, by exact below_drewN BR.out _⟩
                case measure => simp [intOf]; omega
              · have d1 : decide ((k : Int) < 22) = false := by simp; omega
                have d2 : (23 : Int) < (k : Int) := by omega
                go_wp2_with fail
                go_quiet (fail)
                rename_i nq
                go_wp2_with fail
                go_roundw
                case rel => exact ⟨k + 1, by omega, by go_num, by exact below_drewN BR.out _⟩
                case measure => simp [intOf]; omega
            · have e1 := GO.out k (by rw [HS.out]; omega) (by omega)
              rw [e1] at z1
              clear e1
              by_cases hs4 : k < 24 + i
              · have d3 : (k : Int) < 24 + (i : Int) := by omega
                by_cases hs3 : k < 22
                · have d1 : (k : Int) < 22 := by omega
                  go_wp2_with fail
                  go_quiet (fail)
                  rename_i nq
                  go_wp2_with fail
                  go_roundw
                  case rel => exact ⟨k + 1, by omega, by go_num, by exact below_drewN BR.out _⟩
                  case measure => simp [intOf]; omega
                · have d1 : decide ((k : Int) < 22) = false := by simp; omega
                  have d2 : (23 : Int) < (k : Int) := by omega
                  go_wp2_with fail
                  go_quiet (fail)
                  rename_i nq
                  go_wp2_with fail
                  go_roundw
                  case rel => exact ⟨k + 1, by omega, by go_num, by exact below_drewN BR.out _⟩
                  case measure => simp [intOf]; omega
              · have d3 : decide ((k : Int) < 24 + (i : Int)) = false := by simp; omega
                have d4 : 24 + (i : Int) + (m : Int) ≤ (k : Int) := by omega
                by_cases hs3 : k < 22
                · have d1 : (k : Int) < 22 := by omega
                  go_wp2_with fail
                  go_quiet (fail)
                  rename_i nq
                  go_wp2_with fail
                  go_roundw
                  case rel => exact ⟨k + 1, by omega, by go_num, by exact below_drewN BR.out _⟩
                  case measure => simp [intOf]; omega
                · have d1 : decide ((k : Int) < 22) = false := by simp; omega
                  have d2 : (23 : Int) < (k : Int) := by omega
                  go_wp2_with fail
                  go_quiet (fail)
                  rename_i nq
                  go_wp2_with fail
                  go_roundw
                  case rel => exact ⟨k + 1, by omega, by go_num, by exact below_drewN BR.out _⟩
                  case measure => simp [intOf]; omega
        · have k1 : ¬ (k : Int) < L := by omega
          go_wp2_with fail
          refine (re_i64 (rnum_any (some ⟨G7, 0, none⟩) L c7 G wr (Sl.below R7.out BR.out (Nat.le_refl _)) GB.out (24 + i) m hml (by omega) LN) GN.out).mono ?_
          rintro e w' ⟨rfl, rfl⟩
          go_wp2_with fail
          go_ret
          exact ⟨rfl, (then_ (then_ (then_ (then_ (then_ S1.out S2.out) S3.out) SB.out) S4.out) BR.out)⟩

set_option maxRecDepth 100000 in
theorem lifted (os : Os) (started : os.Started) (H : Type) (enc : TypeId × Value → H) :
    ReturnsInHanded {} Try.checked os 9 .any (Rows.wireFieldsSpec.pre6 enc Try.prog Try.f9 [] false) (Rows.wireFieldsSpec.post enc Try.prog Try.f9 false true false false) :=
  law_step (s := Rows.wireFieldsSpec) started (by kernel_rfl) Try.func9
    (ChangeSpec.witness6 (s := Rows.wireFieldsSpec) (enc := enc) (C := Try.checked) false ⟨#[], #[.int .i64 0, .slice none 0 0, .slice none 0 0, .int .i64 0, .int .i64 0, .int .i64 0], []⟩ 8 (by kernel_rfl) (by kernel_rfl) (by kernel_rfl) (by kernel_rfl))
    rfl (by rw [Try.params9]; decide +kernel) rfl Try.underlying4
    (fun ds h => by
      rw [Try.params9] at h
      match ds, h with
      | [_, _, _, _, _, _], _ => rfl)
    (fun W base args ds ps hval hA hsz => by
      rw [Try.params9] at hA hval hsz
      obtain ⟨v0, vs0, d0, ds0, p0, q0, hargs, rfl, rfl, h0, r0⟩ := trodAll_cons hA
      obtain ⟨v1, vs1, d1, ds1, p1, q1, rfl, rfl, rfl, h1, r1⟩ := trodAll_cons r0
      obtain ⟨v2, vs2, d2, ds2, p2, q2, rfl, rfl, rfl, h2, r2⟩ := trodAll_cons r1
      obtain ⟨v3, vs3, d3, ds3, p3, q3, rfl, rfl, rfl, h3, r3⟩ := trodAll_cons r2
      obtain ⟨v4, vs4, d4, ds4, p4, q4, rfl, rfl, rfl, h4, r4⟩ := trodAll_cons r3
      obtain ⟨v5, vs5, d5, ds5, p5, q5, rfl, rfl, rfl, h5, r5⟩ := trodAll_cons r4
      obtain ⟨rfl, rfl, rfl⟩ := trodAll_nil r5
      obtain rfl : args = #[v0, v1, v2, v3, v4, v5] := by cases args; simp_all
      obtain ⟨a0, rfl, rfl, rfl, w0⟩ := open_int Try.underlying3 (hval 0 3 v0 rfl rfl) h0
      obtain ⟨A1, n1, c1, g1, rfl, hn1, hc1, hs1, hw1, hl1, hd1⟩ := open_row Try.underlying22 Try.underlying3 (by kernel_rfl) (hval 1 22 v1 rfl rfl) h1
      have re1 : c1 * 8 ≤ 140737488351232 := by
        rcases hd1 with ⟨_, h0⟩ | ⟨xs, ys, h1, h2⟩
        · omega
        · have := sized_slice hsz (j := 1) (t := 22) (e := 3) rfl (by rw [h1]; rfl) Try.underlying22
          rw [h2, show Try.prog.bytesOf 3 = 8 from by kernel_rfl] at this
          simpa [reachBytes] using this
      obtain ⟨A2, n2, c2, g2, rfl, hn2, hc2, hs2, hw2, hl2, hd2⟩ := open_row Try.underlying23 Try.underlying5 (by kernel_rfl) (hval 2 23 v2 rfl rfl) h2
      have re2 : c2 * 1 ≤ 140737488351232 := by
        rcases hd2 with ⟨_, h0⟩ | ⟨xs, ys, h1, h2⟩
        · omega
        · have := sized_slice hsz (j := 2) (t := 23) (e := 5) rfl (by rw [h1]; rfl) Try.underlying23
          rw [h2, show Try.prog.bytesOf 5 = 1 from by kernel_rfl] at this
          simpa [reachBytes] using this
      obtain ⟨a3, rfl, rfl, rfl, w3⟩ := open_int Try.underlying3 (hval 3 3 v3 rfl rfl) h3
      obtain ⟨a4, rfl, rfl, rfl, w4⟩ := open_int Try.underlying3 (hval 4 3 v4 rfl rfl) h4
      obtain ⟨a5, rfl, rfl, rfl, w5⟩ := open_int Try.underlying3 (hval 5 3 v5 rfl rfl) h5
      exact walk W a0 (bounds_i64 w0) A1 n1 c1 g1 hn1 hc1 hs1 (fun j => bounds_i64 (hw1 j)) hl1 re1 A2 n2 c2 g2 hn2 hc2 hs2 (fun j => bounds_u8 (hw2 j)) hl2 re2 a3 (bounds_i64 w3) a4 (bounds_i64 w4) a5 (bounds_i64 w5))

theorem proved : Rows.WireFieldsSaid :=
  OpenClaim.holds_of_wide 9 Try.f9 rfl rfl rfl rfl rfl rfl rfl ⟨rfl, rfl, rfl, rfl, rfl⟩ rfl rfl rfl rfl rfl (by kernel_rfl) Try.func9 (by kernel_rfl)
    (of_decide_eq_true (by kernel_rfl)) (by unfold Func.isWrapper; first | (rw [if_pos (by decide +kernel)]; kernel_rfl) | (rw [if_neg (by decide +kernel)]; exact ⟨rfl, rfl⟩))
    (fun os started H enc _ => lifted os started H enc)
end Go.Proofs.Ytjljaecjnpmdoaa.wireFields
