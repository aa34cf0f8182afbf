/- roundhouselaw3.WireBuilds answers true for any kind, any numbers, any bytes, any field turned; no condition. -/
import Derived.Test.YtjljaecjnpmdoaaWirLaw
import Derived.Test.YtjljaecjnpmdoaaWirLawP
import Derived.Test.YtjljaecjnpmdoaaWirClone
import Derived.Deep.CutBlock
import Derived.Deep.CutRange
import Derived.BigQuiet
import Derived.Deep.RegionHeld3
import Derived.Deep.Cut
namespace Go.Proofs.Ytjljaecjnpmdoaa.wireBuilds
set_option linter.unusedVariables false
set_option linter.unusedSimpArgs false
open Go.RowKit Go.ChangeShapes Go.WideShapes Go.ChangeAt

set_option maxRecDepth 100000 in
set_option maxHeartbeats 4000000 in
theorem rbuild0_any (p : Pk) (AO : Option Addr) (cO : Nat) (AD : Option Addr) (cD : Nat) (w : World) (hk : isK p.kind = false) :
    Calls Try.prog 18 #[.agg #[.int .i64 p.kind, .int .i64 p.life, .int .i64 p.piece, .int .i64 p.src, .int .i64 p.dst, .int .i64 p.fp, .int .i64 p.tp, .int .i64 p.flags, .int .i64 p.label, .bool p.bare, .int .i64 p.code, .slice AO p.no cO, .slice AD p.nd cD]] w (Outd w (buildE p) (lenP p) (builtF p)) := by
  have e2 : Hid (buildE p = 2) := hid (by unfold buildE; rw [if_pos hk])
  have CE := hid (Ce.made (w := w) (l := [.int .i64 p.kind, .int .i64 p.life, .int .i64 p.piece, .int .i64 p.src, .int .i64 p.dst, .int .i64 p.fp, .int .i64 p.tp, .int .i64 p.flags, .int .i64 p.label, .bool p.bare, .int .i64 p.code, .slice AO p.no cO, .slice AD p.nd cD]) (T := 26) rfl)
  have B0 := hid ((Below.refl w.heap.size w).alloc (Nat.le_refl _) (.cells #[.int .i64 p.kind, .int .i64 p.life, .int .i64 p.piece, .int .i64 p.src, .int .i64 p.dst, .int .i64 p.fp, .int .i64 p.tp, .int .i64 p.flags, .int .i64 p.label, .bool p.bare, .int .i64 p.code, .slice AO p.no cO, .slice AD p.nd cD] 26))
  simp only [List.toArray] at CE
  unfold isK at hk
  by_cases h1 : p.kind < 1
  · clear hk
    go_enter Try.func18, Try.ntmps18
    go_upto_region 1 with (fail)
    generalize (w.alloc (.cells #[.int .i64 p.kind, .int .i64 p.life, .int .i64 p.piece, .int .i64 p.src, .int .i64 p.dst, .int .i64 p.fp, .int .i64 p.tp, .int .i64 p.flags, .int .i64 p.label, .bool p.bare, .int .i64 p.code, .slice AO p.no cO, .slice AD p.nd cD] 26)) = w1 at *
    have y0 := CE.out.2.1 0 _ rfl
    go_wp2_with fail
    refine bodyPost_ret (v := .tuple #[.slice none 0 0, .int .i64 2]) (by simp [results, Try.results18, go_sem]) rfl ?_
    rw [e2.out]
    exact outd_no (by decide) B0.out
  · have d1 : decide (p.kind < 1) = false := by simp; omega
    have h3 : 3 < p.kind := by simp at hk; omega
    clear hk h1
    go_enter Try.func18, Try.ntmps18
    go_upto_region 1 with (fail)
    generalize (w.alloc (.cells #[.int .i64 p.kind, .int .i64 p.life, .int .i64 p.piece, .int .i64 p.src, .int .i64 p.dst, .int .i64 p.fp, .int .i64 p.tp, .int .i64 p.flags, .int .i64 p.label, .bool p.bare, .int .i64 p.code, .slice AO p.no cO, .slice AD p.nd cD] 26)) = w1 at *
    have y0 := CE.out.2.1 0 _ rfl
    go_wp2_with fail
    refine bodyPost_ret (v := .tuple #[.slice none 0 0, .int .i64 2]) (by simp [results, Try.results18, go_sem]) rfl ?_
    rw [e2.out]
    exact outd_no (by decide) B0.out

theorem rbuild_x (p : Pk) (AO : Option Addr) (cO : Nat) (AD : Option Addr) (cD : Nat) (w : World) (HO : By w AO p.no p.go) (HD : By w AD p.nd p.gd) (hgo : IsB p.go) (hgd : IsB p.gd) (h1 : p.no ≤ 1000000) (h2 : p.nd ≤ 1000000) :
    Calls Try.prog 18 #[.agg #[.int .i64 p.kind, .int .i64 p.life, .int .i64 p.piece, .int .i64 p.src, .int .i64 p.dst, .int .i64 p.fp, .int .i64 p.tp, .int .i64 p.flags, .int .i64 p.label, .bool p.bare, .int .i64 p.code, .slice AO p.no cO, .slice AD p.nd cD]] w (Outd w (buildE p) (lenP p) (builtF p)) := by
  cases hk : isK p.kind
  · exact rbuild0_any p AO cO AD cD w hk
  · exact rbuild_any p AO cO AD cD w HO HD hgo hgd h1 h2 hk
/-- What the law builds: in memory, as numbers. -/
def Bx (w : World) (P : Nat) (p : Pk) (AO : Option Addr) (cO : Nat) (AD : Option Addr) (cD : Nat) : Prop := Ce w P [.int .i64 p.kind, .int .i64 p.life, .int .i64 p.piece, .int .i64 p.src, .int .i64 p.dst, .int .i64 p.fp, .int .i64 p.tp, .int .i64 p.flags, .int .i64 p.label, .bool p.bare, .int .i64 p.code, .slice AO p.no cO, .slice AD p.nd cD] ∧ By w AO p.no p.go ∧ By w AD p.nd p.gd ∧ IsB p.go ∧ IsB p.gd ∧ p.no ≤ 1000000 ∧ p.nd ≤ 1000000
theorem build_x (p : Pk) (E : Int) (n : Nat) (G : Nat → Int) (hE : E = buildE p) (hn : n = if E = 0 then lenP p else 0) (hG : G = builtF p) (hgo : IsB p.go) (hgd : IsB p.gd) (h1 : p.no ≤ 1000000) (h2 : p.nd ≤ 1000000) (AO : Option Addr) (cO : Nat) (AD : Option Addr) (cD : Nat) (w : World) (HO : By w AO p.no p.go) (HD : By w AD p.nd p.gd) :
    Calls Try.prog 17 #[.agg #[.int .i64 p.kind, .int .i64 p.life, .int .i64 p.piece, .int .i64 p.src, .int .i64 p.dst, .int .i64 p.fp, .int .i64 p.tp, .int .i64 p.flags, .int .i64 p.label, .bool p.bare, .int .i64 p.code, .slice AO p.no cO, .slice AD p.nd cD]] w fun e w' => ∃ A' c', e = .returned (.tuple #[.slice A' n c', .int .i64 E]) ∧ OB w' w.heap.size (.slice A' n c') n G ∧ n ≤ c' ∧ Below w.heap.size w w' := by
  subst hE
  exact (build_any p AO cO AD cD w HO HD hgo hgd h1 h2).mono fun e w' h => outd_q hn hG h
theorem rbuild_z (p : Pk) (E : Int) (n : Nat) (G : Nat → Int) (hE : E = buildE p) (hn : n = if E = 0 then lenP p else 0) (hG : G = builtF p) (hgo : IsB p.go) (hgd : IsB p.gd) (h1 : p.no ≤ 1000000) (h2 : p.nd ≤ 1000000) (AO : Option Addr) (cO : Nat) (AD : Option Addr) (cD : Nat) (w : World) (HO : By w AO p.no p.go) (HD : By w AD p.nd p.gd) :
    Calls Try.prog 18 #[.agg #[.int .i64 p.kind, .int .i64 p.life, .int .i64 p.piece, .int .i64 p.src, .int .i64 p.dst, .int .i64 p.fp, .int .i64 p.tp, .int .i64 p.flags, .int .i64 p.label, .bool p.bare, .int .i64 p.code, .slice AO p.no cO, .slice AD p.nd cD]] w fun e w' => ∃ A' c', e = .returned (.tuple #[.slice A' n c', .int .i64 E]) ∧ OB w' w.heap.size (.slice A' n c') n G ∧ n ≤ c' ∧ Below w.heap.size w w' := by
  subst hE
  exact (rbuild_x p AO cO AD cD w HO HD hgo hgd h1 h2).mono fun e w' h => outd_q hn hG h
set_option maxRecDepth 100000 in
set_option maxHeartbeats 4000000 in
theorem walk (W : World) (a0 : Int) (r_a0 : -9223372036854775808 ≤ a0 ∧ a0 ≤ 9223372036854775807) (A1 : Option Addr) (n1 c1 : Nat) (g1 : Nat → Int) (hn1 : n1 ≤ c1) (hc1 : c1 ≤ maxLen) (hr1 : Is W A1 n1 g1) (hg1 : IsI g1) (hl1 : ∀ ad, A1 = some ad → 0 < n1 → ad.block < W.heap.size) (re1 : c1 * 8 ≤ 140737488351232) (A2 : Option Addr) (n2 c2 : Nat) (g2 : Nat → Int) (hn2 : n2 ≤ c2) (hc2 : c2 ≤ maxLen) (hr2 : By W A2 n2 g2) (hg2 : IsB g2) (hl2 : ∀ ad, A2 = some ad → 0 < n2 → ad.block < W.heap.size) (re2 : c2 * 1 ≤ 140737488351232) (a3 : Int) (r_a3 : -9223372036854775808 ≤ a3 ∧ a3 ≤ 9223372036854775807) (a4 : Int) (r_a4 : -9223372036854775808 ≤ a4 ∧ a4 ≤ 9223372036854775807) (a5 : Int) (r_a5 : -9223372036854775808 ≤ a5 ∧ a5 ≤ 9223372036854775807) :
    Calls Try.prog 5 #[.int .i64 a0, .slice A1 n1 c1, .slice A2 n2 c2, .int .i64 a3, .int .i64 a4, .int .i64 a5] W fun e w' => e = .returned (.bool true) ∧ Below W.heap.size W w' := by
  have HG := hid hg2
  have m1 : (n1 : Int) ≤ 9223372036854775807 := by unfold maxLen at hc1; omega
  have m2 : (n2 : Int) ≤ 9223372036854775807 := by unfold maxLen at hc2; omega
  have H1 := hid (hr1)
  have H2 := hid (hr2)
  obtain ⟨p, hp⟩ : ∃ p, p = mkPk a0 (nv g1 n1) g2 n2 := ⟨_, rfl⟩
  obtain ⟨L, hL⟩ : ∃ L, L = lenP p := ⟨_, rfl⟩
  obtain ⟨F, hF⟩ : ∃ F, F = builtF p := ⟨_, rfl⟩
  have M := mk_all hp HG.out hL hF
  have MK := hid (make_p p a0 A1 n1 c1 g1 A2 n2 c2 g2 hp HG.out m1 hn2 m2)
  have BU := hid (build_p p L F hL hF M.E M.go M.gd (Nat.le_trans M.no (by decide)) (Nat.le_trans M.nd (by decide)))
  have RB := hid (rbuild_p p L F hL hF M.E M.go M.gd (Nat.le_trans M.no (by decide)) (Nat.le_trans M.nd (by decide)))
  have HM := hid M
  have L0 := M.L0
  have L1 := M.L1
  have LN : L ≤ 1000000 := by omega
  clear M
  clear hp hL hF hr1 hr2 hg1 hg2 hl1 hl2 re1 re2 hc1 hc2 m1 m2
  clear BU RB
  obtain ⟨j, hj⟩ : ∃ x, x = wi a4 11 := ⟨_, rfl⟩
  have bj := wi_bd a4 11 (by omega)
  rw [← hj] at bj
  have Wj := hid (fun w => re_i64 (within_any a4 11 w (by omega) (by omega)) hj.symm)
  clear hj
  obtain ⟨bj1, bj2⟩ := bj
  obtain ⟨c, hc⟩ : ∃ x, x = wi a3 13 := ⟨_, rfl⟩
  have bc := wi_bd a3 13 (by omega)
  rw [← hc] at bc
  have Wc := hid (fun w => re_i64 (within_any a3 13 w (by omega) (by omega)) hc.symm)
  clear hc
  obtain ⟨bc1, bc2⟩ := bc
  obtain ⟨s5, hs5⟩ : ∃ x, x = wi a5 5 := ⟨_, rfl⟩
  have bs5 := wi_bd a5 5 (by omega)
  rw [← hs5] at bs5
  have Ws5 := hid (fun w => re_i64 (within_any a5 5 w (by omega) (by omega)) hs5.symm)
  clear hs5
  obtain ⟨bs51, bs52⟩ := bs5
  obtain ⟨s8, hs8⟩ : ∃ x, x = wi a5 8 := ⟨_, rfl⟩
  have bs8 := wi_bd a5 8 (by omega)
  rw [← hs8] at bs8
  have Ws8 := hid (fun w => re_i64 (within_any a5 8 w (by omega) (by omega)) hs8.symm)
  clear hs8
  obtain ⟨bs81, bs82⟩ := bs8
  obtain ⟨s20, hs20⟩ : ∃ x, x = wi a5 20 := ⟨_, rfl⟩
  have bs20 := wi_bd a5 20 (by omega)
  rw [← hs20] at bs20
  have Ws20 := hid (fun w => re_i64 (within_any a5 20 w (by omega) (by omega)) hs20.symm)
  clear hs20
  obtain ⟨bs201, bs202⟩ := bs20
  obtain ⟨s5, rfl⟩ := Int.eq_ofNat_of_zero_le bs51
  obtain ⟨s8, rfl⟩ := Int.eq_ofNat_of_zero_le bs81
  obtain ⟨s20, rfl⟩ := Int.eq_ofNat_of_zero_le bs201
  go_enter Try.func5, Try.ntmps5
  go_wp2_with fail
  refine (known_any _).mono ?_
  rintro e w1 ⟨rfl, hb⟩
  have S1 := hid hb
  clear hb
  go_wp2_with fail
  refine (MK.out w1 (Sl.below H1.out S1.out (Nat.le_refl _)) (Sl.below H2.out S1.out (Nat.le_refl _))).mono ?_
  rintro e w2 ⟨AO, cO, AD, cD, rfl, hO, hD, hb⟩
  have S2 := hid hb
  clear hb
  have RO := hid (hO)
  have RD := hid (hD)
  clear hO hD
  clear MK
  go_upto_region 4 with (fail)
  have C1 := hid (Ce.made (w := w2) (l := [.int .i64 p.kind, .int .i64 p.life, .int .i64 p.piece, .int .i64 p.src, .int .i64 p.dst, .int .i64 p.fp, .int .i64 p.tp, .int .i64 p.flags, .int .i64 p.label, .bool p.bare, .int .i64 p.code, .slice AO p.no cO, .slice AD p.nd cD]) (T := 26) rfl)
  simp only [List.toArray] at C1
  have S3 := hid ((Below.refl w2.heap.size w2).alloc (Nat.le_refl _) (.cells #[.int .i64 p.kind, .int .i64 p.life, .int .i64 p.piece, .int .i64 p.src, .int .i64 p.dst, .int .i64 p.fp, .int .i64 p.tp, .int .i64 p.flags, .int .i64 p.label, .bool p.bare, .int .i64 p.code, .slice AO p.no cO, .slice AD p.nd cD] 26))
  generalize (w2.alloc (.cells #[.int .i64 p.kind, .int .i64 p.life, .int .i64 p.piece, .int .i64 p.src, .int .i64 p.dst, .int .i64 p.fp, .int .i64 p.tp, .int .i64 p.flags, .int .i64 p.label, .bool p.bare, .int .i64 p.code, .slice AO p.no cO, .slice AD p.nd cD] 26)) = w3 at *
  generalize hP1 : w2.heap.size = P1 at C1 ⊢
  have HP1 := hid hP1
  clear hP1
  go_wp2_with fail
  refine (Wj.out _).mono ?_
  rintro e w' ⟨rfl, rfl⟩
  go_upto_region 5 with (fail)
  obtain ⟨x, hx⟩ : ∃ v : Int, v = [-1, 0, 15, 16, 255, 256, 65535, 65536, 4294967295, 4294967296, a4].getD j.toNat 0 := ⟨_, rfl⟩
  have hq : ([.int .i64 (-1), .int .i64 0, .int .i64 15, .int .i64 16, .int .i64 255, .int .i64 256, .int .i64 65535, .int .i64 65536, .int .i64 4294967295, .int .i64 4294967296, .int .i64 a4] : List Value)[j.toNat]'(by simp only [List.length_cons, List.length_nil]; omega) = .int .i64 x := by
    rw [hx]
    have h5 : j = 0 ∨ j = 1 ∨ j = 2 ∨ j = 3 ∨ j = 4 ∨ j = 5 ∨ j = 6 ∨ j = 7 ∨ j = 8 ∨ j = 9 ∨ j = 10 := by omega
    rcases h5 with rfl | rfl | rfl | rfl | rfl | rfl | rfl | rfl | rfl | rfl | rfl <;> rfl
  simp only [hq]
  clear hq
  have SB := hid ((Below.refl w3.heap.size w3).alloc (Nat.le_refl _) (.cells #[.int .i64 (-1), .int .i64 0, .int .i64 15, .int .i64 16, .int .i64 255, .int .i64 256, .int .i64 65535, .int .i64 65536, .int .i64 4294967295, .int .i64 4294967296, .int .i64 a4] 3))
  generalize (w3.alloc (.cells #[.int .i64 (-1), .int .i64 0, .int .i64 15, .int .i64 16, .int .i64 255, .int .i64 256, .int .i64 65535, .int .i64 65536, .int .i64 4294967295, .int .i64 4294967296, .int .i64 a4] 3)) = w4 at *
  clear hx
  go_wp2_with fail
  refine (Wc.out _).mono ?_
  rintro e w' ⟨rfl, rfl⟩
  have C4 := hid (Ce.below C1.out SB.out)
  have B4 := hid (then_ S3.out SB.out)
  have hZ := hid (show w2.heap.size ≤ P1 by rw [HP1.out]; exact Nat.le_refl _)
  have gN := hid HM.out.no
  have gD := hid HM.out.nd
  have gO := hid HM.out.go
  have gE := hid HM.out.gd
  go_upto_block 0 with (fail)
  go_cut [] from 33 (fun wx => ∃ (q : Pk) (AO' : Option Addr) (cO' : Nat) (AD' : Option Addr) (cD' : Nat), Bx wx P1 q AO' cO' AD' cD' ∧ Below w2.heap.size w2 wx)
  case first =>
    have hc13 : c = 0 ∨ c = 1 ∨ c = 2 ∨ c = 3 ∨ c = 4 ∨ c = 5 ∨ c = 6 ∨ c = 7 ∨ c = 8 ∨ c = 9 ∨ c = 10 ∨ c = 11 ∨ c = 12 := by omega
    clear Wc Wj
    rcases hc13 with rfl | rfl | rfl | rfl | rfl | rfl | rfl | rfl | rfl | rfl | rfl | rfl | rfl
    · have y1 := C4.out.2.1 0 _ rfl
      have f1 := C4.out.2.2 0
      go_wp2_with fail
      go_meet
      have B5 := hid (B4.out.setCell (p := ⟨P1, 0, none⟩) hZ.out (.int .i64 x))
      exact ⟨{ p with kind := x }, AO, cO, AD, cD, ⟨Ce.set C4.out 0 (.int .i64 x) (by simp), (Sl.below RO.out B5.out (Nat.le_refl _)), (Sl.below RD.out B5.out (Nat.le_refl _)), gO.out, gE.out, by have := gN.out; dsimp only; omega, by have := gD.out; dsimp only; omega⟩, B5.out⟩
    · have y1 := C4.out.2.1 1 _ rfl
      have f1 := C4.out.2.2 1
      go_wp2_with fail
      go_meet
      have B5 := hid (B4.out.setCell (p := ⟨P1, 1, none⟩) hZ.out (.int .i64 x))
      exact ⟨{ p with life := x }, AO, cO, AD, cD, ⟨Ce.set C4.out 1 (.int .i64 x) (by simp), (Sl.below RO.out B5.out (Nat.le_refl _)), (Sl.below RD.out B5.out (Nat.le_refl _)), gO.out, gE.out, by have := gN.out; dsimp only; omega, by have := gD.out; dsimp only; omega⟩, B5.out⟩
    · have y1 := C4.out.2.1 2 _ rfl
      have f1 := C4.out.2.2 2
      go_wp2_with fail
      go_meet
      have B5 := hid (B4.out.setCell (p := ⟨P1, 2, none⟩) hZ.out (.int .i64 x))
      exact ⟨{ p with piece := x }, AO, cO, AD, cD, ⟨Ce.set C4.out 2 (.int .i64 x) (by simp), (Sl.below RO.out B5.out (Nat.le_refl _)), (Sl.below RD.out B5.out (Nat.le_refl _)), gO.out, gE.out, by have := gN.out; dsimp only; omega, by have := gD.out; dsimp only; omega⟩, B5.out⟩
    · have y1 := C4.out.2.1 3 _ rfl
      have f1 := C4.out.2.2 3
      go_wp2_with fail
      go_meet
      have B5 := hid (B4.out.setCell (p := ⟨P1, 3, none⟩) hZ.out (.int .i64 x))
      exact ⟨{ p with src := x }, AO, cO, AD, cD, ⟨Ce.set C4.out 3 (.int .i64 x) (by simp), (Sl.below RO.out B5.out (Nat.le_refl _)), (Sl.below RD.out B5.out (Nat.le_refl _)), gO.out, gE.out, by have := gN.out; dsimp only; omega, by have := gD.out; dsimp only; omega⟩, B5.out⟩
    · have y1 := C4.out.2.1 4 _ rfl
      have f1 := C4.out.2.2 4
      go_wp2_with fail
      go_meet
      have B5 := hid (B4.out.setCell (p := ⟨P1, 4, none⟩) hZ.out (.int .i64 x))
      exact ⟨{ p with dst := x }, AO, cO, AD, cD, ⟨Ce.set C4.out 4 (.int .i64 x) (by simp), (Sl.below RO.out B5.out (Nat.le_refl _)), (Sl.below RD.out B5.out (Nat.le_refl _)), gO.out, gE.out, by have := gN.out; dsimp only; omega, by have := gD.out; dsimp only; omega⟩, B5.out⟩
    · have y1 := C4.out.2.1 5 _ rfl
      have f1 := C4.out.2.2 5
      go_wp2_with fail
      go_meet
      have B5 := hid (B4.out.setCell (p := ⟨P1, 5, none⟩) hZ.out (.int .i64 x))
      exact ⟨{ p with fp := x }, AO, cO, AD, cD, ⟨Ce.set C4.out 5 (.int .i64 x) (by simp), (Sl.below RO.out B5.out (Nat.le_refl _)), (Sl.below RD.out B5.out (Nat.le_refl _)), gO.out, gE.out, by have := gN.out; dsimp only; omega, by have := gD.out; dsimp only; omega⟩, B5.out⟩
    · have y1 := C4.out.2.1 6 _ rfl
      have f1 := C4.out.2.2 6
      go_wp2_with fail
      go_meet
      have B5 := hid (B4.out.setCell (p := ⟨P1, 6, none⟩) hZ.out (.int .i64 x))
      exact ⟨{ p with tp := x }, AO, cO, AD, cD, ⟨Ce.set C4.out 6 (.int .i64 x) (by simp), (Sl.below RO.out B5.out (Nat.le_refl _)), (Sl.below RD.out B5.out (Nat.le_refl _)), gO.out, gE.out, by have := gN.out; dsimp only; omega, by have := gD.out; dsimp only; omega⟩, B5.out⟩
    · have y1 := C4.out.2.1 7 _ rfl
      have f1 := C4.out.2.2 7
      go_wp2_with fail
      go_meet
      have B5 := hid (B4.out.setCell (p := ⟨P1, 7, none⟩) hZ.out (.int .i64 x))
      exact ⟨{ p with flags := x }, AO, cO, AD, cD, ⟨Ce.set C4.out 7 (.int .i64 x) (by simp), (Sl.below RO.out B5.out (Nat.le_refl _)), (Sl.below RD.out B5.out (Nat.le_refl _)), gO.out, gE.out, by have := gN.out; dsimp only; omega, by have := gD.out; dsimp only; omega⟩, B5.out⟩
    · have y1 := C4.out.2.1 8 _ rfl
      have f1 := C4.out.2.2 8
      go_wp2_with fail
      go_meet
      have B5 := hid (B4.out.setCell (p := ⟨P1, 8, none⟩) hZ.out (.int .i64 x))
      exact ⟨{ p with label := x }, AO, cO, AD, cD, ⟨Ce.set C4.out 8 (.int .i64 x) (by simp), (Sl.below RO.out B5.out (Nat.le_refl _)), (Sl.below RD.out B5.out (Nat.le_refl _)), gO.out, gE.out, by have := gN.out; dsimp only; omega, by have := gD.out; dsimp only; omega⟩, B5.out⟩
    · have y1 := C4.out.2.1 10 _ rfl
      have f1 := C4.out.2.2 10
      go_wp2_with fail
      go_meet
      have B5 := hid (B4.out.setCell (p := ⟨P1, 10, none⟩) hZ.out (.int .i64 x))
      exact ⟨{ p with code := x }, AO, cO, AD, cD, ⟨Ce.set C4.out 10 (.int .i64 x) (by simp), (Sl.below RO.out B5.out (Nat.le_refl _)), (Sl.below RD.out B5.out (Nat.le_refl _)), gO.out, gE.out, by have := gN.out; dsimp only; omega, by have := gD.out; dsimp only; omega⟩, B5.out⟩
    · have hs : (s5 : Int) ≤ 20 := by omega
      go_wp2_with fail
      refine (Ws5.out _).mono ?_
      rintro e w' ⟨rfl, rfl⟩
      have qs : IntKind.i64.wrap (38 + (s5 : Int)) = 38 + (s5 : Int) := IntWalk.i64_in _ (by omega)
      go_wp2_with (at_make; refine wp_make_b rfl (.tmp 77) (.tmp 77) rfl w4.heap.size (38 + s5) _ _ rfl rfl ?_ ?_ (by omega) (Nat.le_refl _) ?_; (focus omega); (focus omega); intro w5 hO hb2; have HO := hid hO; have C5 := hid (C4.out.below hb2); have B4b := hid (B4.out.trans (hb2.mono B4.out.size)); have y1 := C5.out.2.1 11 _ rfl; have f1 := C5.out.2.2 11; have ne := hid (show w4.heap.size ≠ P1 from fun e => by have := C4.out.1; omega); clear hO hb2)
      go_meet
      have B5 := hid (B4b.out.setCell (p := ⟨P1, 11, none⟩) hZ.out (.slice (some ⟨w4.heap.size, 0, none⟩) (38 + s5) (38 + s5)))
      have O6 := hid (show By _ _ _ _ from Ow.sl1 (OB.grown (g := fun _ => 0) HO.out (grown_set w5 ⟨P1, 11, none⟩ (.slice (some ⟨w4.heap.size, 0, none⟩) (38 + s5) (38 + s5))) (fun e => ne.out (by simpa [Value.ownBlock] using e))))
      exact ⟨{ p with no := 38 + s5, go := fun _ => 0 }, _, _, AD, cD, ⟨Ce.set C5.out 11 (.slice (some ⟨w4.heap.size, 0, none⟩) (38 + s5) (38 + s5)) (by simp), O6.out, (Sl.below RD.out B5.out (Nat.le_refl _)), fun j => ⟨by simp, by simp⟩, gE.out, by dsimp only; omega, by have := gD.out; dsimp only; omega⟩, B5.out⟩
    · have hs : (s8 : Int) ≤ 20 := by omega
      go_wp2_with fail
      refine (Ws8.out _).mono ?_
      rintro e w' ⟨rfl, rfl⟩
      have qs : IntKind.i64.wrap (20 + (s8 : Int)) = 20 + (s8 : Int) := IntWalk.i64_in _ (by omega)
      go_wp2_with (at_make; refine wp_make_b rfl (.tmp 84) (.tmp 84) rfl w4.heap.size (20 + s8) _ _ rfl rfl ?_ ?_ (by omega) (Nat.le_refl _) ?_; (focus omega); (focus omega); intro w5 hO hb2; have HO := hid hO; have C5 := hid (C4.out.below hb2); have B4b := hid (B4.out.trans (hb2.mono B4.out.size)); have y1 := C5.out.2.1 12 _ rfl; have f1 := C5.out.2.2 12; have ne := hid (show w4.heap.size ≠ P1 from fun e => by have := C4.out.1; omega); clear hO hb2)
      go_meet
      have B5 := hid (B4b.out.setCell (p := ⟨P1, 12, none⟩) hZ.out (.slice (some ⟨w4.heap.size, 0, none⟩) (20 + s8) (20 + s8)))
      have O6 := hid (show By _ _ _ _ from Ow.sl1 (OB.grown (g := fun _ => 0) HO.out (grown_set w5 ⟨P1, 12, none⟩ (.slice (some ⟨w4.heap.size, 0, none⟩) (20 + s8) (20 + s8))) (fun e => ne.out (by simpa [Value.ownBlock] using e))))
      exact ⟨{ p with nd := 20 + s8, gd := fun _ => 0 }, AO, cO, _, _, ⟨Ce.set C5.out 12 (.slice (some ⟨w4.heap.size, 0, none⟩) (20 + s8) (20 + s8)) (by simp), (Sl.below RO.out B5.out (Nat.le_refl _)), O6.out, gO.out, fun j => ⟨by simp, by simp⟩, by have := gN.out; dsimp only; omega, by dsimp only; omega⟩, B5.out⟩
    · have hs : (s20 : Int) ≤ 20 := by omega
      go_wp2_with fail
      refine (Ws20.out _).mono ?_
      rintro e w' ⟨rfl, rfl⟩
      have qs : IntKind.i64.wrap (1470 + (s20 : Int)) = 1470 + (s20 : Int) := IntWalk.i64_in _ (by omega)
      go_wp2_with (at_make; refine wp_make_b rfl (.tmp 91) (.tmp 91) rfl w4.heap.size (1470 + s20) _ _ rfl rfl ?_ ?_ (by omega) (Nat.le_refl _) ?_; (focus omega); (focus omega); intro w5 hO hb2; have HO := hid hO; have C5 := hid (C4.out.below hb2); have B4b := hid (B4.out.trans (hb2.mono B4.out.size)); have y1 := C5.out.2.1 12 _ rfl; have f1 := C5.out.2.2 12; have ne := hid (show w4.heap.size ≠ P1 from fun e => by have := C4.out.1; omega); clear hO hb2)
      go_meet
      have B5 := hid (B4b.out.setCell (p := ⟨P1, 12, none⟩) hZ.out (.slice (some ⟨w4.heap.size, 0, none⟩) (1470 + s20) (1470 + s20)))
      have O6 := hid (show By _ _ _ _ from Ow.sl1 (OB.grown (g := fun _ => 0) HO.out (grown_set w5 ⟨P1, 12, none⟩ (.slice (some ⟨w4.heap.size, 0, none⟩) (1470 + s20) (1470 + s20))) (fun e => ne.out (by simpa [Value.ownBlock] using e))))
      exact ⟨{ p with nd := 1470 + s20, gd := fun _ => 0 }, AO, cO, _, _, ⟨Ce.set C5.out 12 (.slice (some ⟨w4.heap.size, 0, none⟩) (1470 + s20) (1470 + s20)) (by simp), (Sl.below RO.out B5.out (Nat.le_refl _)), O6.out, gO.out, fun j => ⟨by simp, by simp⟩, by have := gN.out; dsimp only; omega, by dsimp only; omega⟩, B5.out⟩
  case rest =>
    obtain ⟨q, AO2, cO2, AD2, cD2, ⟨hC, hO, hD, hgo, hgd, h1, h2⟩, hb⟩ := hcut
    have SC := hid hb
    have CQ := hid hC
    have QO := hid hO
    have QD := hid hD
    have HGO := hid hgo
    have HGD := hid hgd
    clear hb hC hO hD hgo hgd C4 B4 gN gD gO gE RO RD HM
    obtain ⟨E, hE⟩ : ∃ E, E = buildE q := ⟨_, rfl⟩
    obtain ⟨N, hN⟩ : ∃ N, N = if E = 0 then lenP q else 0 := ⟨_, rfl⟩
    obtain ⟨G, hG⟩ : ∃ G, G = builtF q := ⟨_, rfl⟩
    have TB := hid (build_x q E N G hE hN hG HGO.out HGD.out h1 h2)
    have VB := hid (rbuild_z q E N G hE hN hG HGO.out HGD.out h1 h2)
    clear hE hN hG h1 h2
    have yC := (Ce.below CQ.out (Below.refl _ _))
    have y0 := yC.2.1 0 _ rfl
    have y1 := yC.2.1 1 _ rfl
    have y2 := yC.2.1 2 _ rfl
    have y3 := yC.2.1 3 _ rfl
    have y4 := yC.2.1 4 _ rfl
    have y5 := yC.2.1 5 _ rfl
    have y6 := yC.2.1 6 _ rfl
    have y7 := yC.2.1 7 _ rfl
    have y8 := yC.2.1 8 _ rfl
    have y9 := yC.2.1 9 _ rfl
    have y10 := yC.2.1 10 _ rfl
    have y11 := yC.2.1 11 _ rfl
    have y12 := yC.2.1 12 _ rfl
    clear yC
    go_wp2_with fail
    refine (TB.out AO2 cO2 AD2 cD2 wc (Sl.below QO.out (Below.refl _ _) (Nat.le_refl _)) (Sl.below QD.out (Below.refl _ _) (Nat.le_refl _))).mono ?_
    rintro e u0 ⟨X0, d0, rfl, hO, _, hb⟩
    have S4 := hid hb
    clear hb
    have Y0 := hid (hO.sl1)
    clear hO TB
    clear y0 y1 y2 y3 y4 y5 y6 y7 y8 y9 y10 y11 y12
    go_upto_region 33 with (fail)
    have yC := (Ce.below CQ.out S4.out)
    have y0 := yC.2.1 0 _ rfl
    have y1 := yC.2.1 1 _ rfl
    have y2 := yC.2.1 2 _ rfl
    have y3 := yC.2.1 3 _ rfl
    have y4 := yC.2.1 4 _ rfl
    have y5 := yC.2.1 5 _ rfl
    have y6 := yC.2.1 6 _ rfl
    have y7 := yC.2.1 7 _ rfl
    have y8 := yC.2.1 8 _ rfl
    have y9 := yC.2.1 9 _ rfl
    have y10 := yC.2.1 10 _ rfl
    have y11 := yC.2.1 11 _ rfl
    have y12 := yC.2.1 12 _ rfl
    clear yC
    go_wp2_with fail
    refine (VB.out AO2 cO2 AD2 cD2 u0 (Sl.below QO.out S4.out (Nat.le_refl _)) (Sl.below QD.out S4.out (Nat.le_refl _))).mono ?_
    rintro e u1 ⟨X1, d1, rfl, hO, _, hb⟩
    have S5 := hid hb
    clear hb
    have Y1 := hid (hO.sl1)
    clear hO VB
    clear y0 y1 y2 y3 y4 y5 y6 y7 y8 y9 y10 y11 y12
    go_upto_region 34 with (fail)
    have x0 := conv_str d0 (Sl.below Y0.out S5.out (Nat.le_refl _))
    have x1 := conv_str d1 (Sl.below Y1.out (Below.refl _ _) (Nat.le_refl _))
    go_wp2_with fail
    go_ret
    exact ⟨rfl, (then_ (then_ (then_ (then_ S1.out S2.out) SC.out) S4.out) S5.out)⟩

set_option maxRecDepth 100000 in
theorem lifted (os : Os) (started : os.Started) (H : Type) (enc : TypeId × Value → H) :
    ReturnsInHanded {} Try.checked os 5 .any (Rows.wireBuildsSpec.pre6 enc Try.prog Try.f5 [] false) (Rows.wireBuildsSpec.post enc Try.prog Try.f5 false true false false) :=
  law_step (s := Rows.wireBuildsSpec) started (by kernel_rfl) Try.func5
    (ChangeSpec.witness6 (s := Rows.wireBuildsSpec) (enc := enc) (C := Try.checked) false ⟨#[], #[.int .i64 0, .slice none 0 0, .slice none 0 0, .int .i64 0, .int .i64 0, .int .i64 0], []⟩ 8 (by kernel_rfl) (by kernel_rfl) (by kernel_rfl) (by kernel_rfl))
    rfl (by rw [Try.params5]; decide +kernel) rfl Try.underlying4
    (fun ds h => by
      rw [Try.params5] at h
      match ds, h with
      | [_, _, _, _, _, _], _ => rfl)
    (fun W base args ds ps hval hA hsz => by
      rw [Try.params5] at hA hval hsz
      obtain ⟨v0, vs0, d0, ds0, p0, q0, hargs, rfl, rfl, h0, r0⟩ := trodAll_cons hA
      obtain ⟨v1, vs1, d1, ds1, p1, q1, rfl, rfl, rfl, h1, r1⟩ := trodAll_cons r0
      obtain ⟨v2, vs2, d2, ds2, p2, q2, rfl, rfl, rfl, h2, r2⟩ := trodAll_cons r1
      obtain ⟨v3, vs3, d3, ds3, p3, q3, rfl, rfl, rfl, h3, r3⟩ := trodAll_cons r2
      obtain ⟨v4, vs4, d4, ds4, p4, q4, rfl, rfl, rfl, h4, r4⟩ := trodAll_cons r3
      obtain ⟨v5, vs5, d5, ds5, p5, q5, rfl, rfl, rfl, h5, r5⟩ := trodAll_cons r4
      obtain ⟨rfl, rfl, rfl⟩ := trodAll_nil r5
      obtain rfl : args = #[v0, v1, v2, v3, v4, v5] := by cases args; simp_all
      obtain ⟨a0, rfl, rfl, rfl, w0⟩ := open_int Try.underlying3 (hval 0 3 v0 rfl rfl) h0
      obtain ⟨A1, n1, c1, g1, rfl, hn1, hc1, hs1, hw1, hl1, hd1⟩ := open_row Try.underlying22 Try.underlying3 (by kernel_rfl) (hval 1 22 v1 rfl rfl) h1
      have re1 : c1 * 8 ≤ 140737488351232 := by
        rcases hd1 with ⟨_, h0⟩ | ⟨xs, ys, h1, h2⟩
        · omega
        · have := sized_slice hsz (j := 1) (t := 22) (e := 3) rfl (by rw [h1]; rfl) Try.underlying22
          rw [h2, show Try.prog.bytesOf 3 = 8 from by kernel_rfl] at this
          simpa [reachBytes] using this
      obtain ⟨A2, n2, c2, g2, rfl, hn2, hc2, hs2, hw2, hl2, hd2⟩ := open_row Try.underlying23 Try.underlying5 (by kernel_rfl) (hval 2 23 v2 rfl rfl) h2
      have re2 : c2 * 1 ≤ 140737488351232 := by
        rcases hd2 with ⟨_, h0⟩ | ⟨xs, ys, h1, h2⟩
        · omega
        · have := sized_slice hsz (j := 2) (t := 23) (e := 5) rfl (by rw [h1]; rfl) Try.underlying23
          rw [h2, show Try.prog.bytesOf 5 = 1 from by kernel_rfl] at this
          simpa [reachBytes] using this
      obtain ⟨a3, rfl, rfl, rfl, w3⟩ := open_int Try.underlying3 (hval 3 3 v3 rfl rfl) h3
      obtain ⟨a4, rfl, rfl, rfl, w4⟩ := open_int Try.underlying3 (hval 4 3 v4 rfl rfl) h4
      obtain ⟨a5, rfl, rfl, rfl, w5⟩ := open_int Try.underlying3 (hval 5 3 v5 rfl rfl) h5
      exact walk W a0 (bounds_i64 w0) A1 n1 c1 g1 hn1 hc1 hs1 (fun j => bounds_i64 (hw1 j)) hl1 re1 A2 n2 c2 g2 hn2 hc2 hs2 (fun j => bounds_u8 (hw2 j)) hl2 re2 a3 (bounds_i64 w3) a4 (bounds_i64 w4) a5 (bounds_i64 w5))

theorem proved : Rows.WireBuildsSaid :=
  OpenClaim.holds_of_wide 5 Try.f5 rfl rfl rfl rfl rfl rfl rfl ⟨rfl, rfl, rfl, rfl, rfl⟩ rfl rfl rfl rfl rfl (by kernel_rfl) Try.func5 (by kernel_rfl)
    (of_decide_eq_true (by kernel_rfl)) (by unfold Func.isWrapper; first | (rw [if_pos (by decide +kernel)]; kernel_rfl) | (rw [if_neg (by decide +kernel)]; exact ⟨rfl, rfl⟩))
    (fun os started H enc _ => lifted os started H enc)
end Go.Proofs.Ytjljaecjnpmdoaa.wireBuilds
