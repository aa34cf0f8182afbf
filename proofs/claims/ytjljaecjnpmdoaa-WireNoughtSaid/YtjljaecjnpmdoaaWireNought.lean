/- roundhouselaw3.WireNought answers true for any numbers, any bytes; no condition. -/
import Derived.Test.YtjljaecjnpmdoaaWirLaw
import Derived.Test.YtjljaecjnpmdoaaWirLawP
import Derived.Test.YtjljaecjnpmdoaaTakes
import Derived.BigQuiet
import Derived.Deep.RegionHeld3
import Derived.Deep.Cut
namespace Go.Proofs.Ytjljaecjnpmdoaa.wireNought
set_option linter.unusedVariables false
set_option linter.unusedSimpArgs false
open Go.RowKit Go.ChangeShapes Go.WideShapes Go.ChangeAt

theorem gram_E {p : Pk} {q : Pk} (h : buildE p = 0) (hk : p.kind = 2) (hn : p.nd ≤ 200) (e1 : q.kind = 2) (e2 : q.life = p.life) (e3 : q.piece = p.piece) (e4 : q.src = p.src) (e5 : q.dst = p.dst) (e6 : q.fp = p.fp) (e7 : q.tp = p.tp) (e8 : q.label = p.label) (e9 : q.nd = p.nd + 4) : buildE q = 0 := by
  have e := buildE_0 h
  obtain ⟨x1, x2, _⟩ := e
  refine buildE_ok' (by rw [e1]; rfl) ?_ (fun k => by have := k.1; omega) (fun k => ?_)
  · unfold rangeB at x2 ⊢
    rw [if_neg (by omega), if_pos hk] at x2
    rw [if_neg (by omega), if_pos e1, e2, e3, e4, e5, e6, e7, e8]
    exact x2
  · rcases k with k | k
    · have := k.1; omega
    · unfold lenP at k; rw [if_neg (by omega), if_pos e1] at k; omega
theorem mk_kind (k : Int) (v g2 : Nat → Int) (n2 : Nat) : (mkPk k v g2 n2).kind = 1 + wi k 3 ∧ (mkPk k v g2 n2).nd ≤ 200 ∨ (mkPk k v g2 n2).kind = 3 := by
  rcases wi3 k with h | h | h
  · left; unfold mkPk; rw [h, if_neg (by decide), if_neg (by decide)]; exact ⟨rfl, Nat.min_le_right _ _⟩
  · left; unfold mkPk; rw [h, if_neg (by decide), if_pos rfl]; exact ⟨rfl, Nat.min_le_right _ _⟩
  · right; unfold mkPk; rw [h, if_pos rfl]

theorem mk_gram (v g2 : Nat → Int) (n2 : Nat) : (mkPk 1 v g2 n2).kind = 2 ∧ (mkPk 1 v g2 n2).nd ≤ 200 := by
  unfold mkPk
  rw [if_neg (by decide), if_pos (by decide)]
  exact ⟨rfl, Nat.min_le_right _ _⟩
theorem make_o (p : Pk) (A1 : Option Addr) (n1 c1 : Nat) (g1 : Nat → Int) (A2 : Option Addr) (n2 c2 : Nat) (g2 : Nat → Int) (hp : p = mkPk 1 (nv g1 n1) g2 n2) (hg2 : IsB g2) (hn1 : (n1 : Int) ≤ 9223372036854775807) (hn2 : n2 ≤ c2) (hn3 : (n2 : Int) ≤ 9223372036854775807) (w : World) (hr1 : Is w A1 n1 g1) (hr2 : By w A2 n2 g2) :
    Calls Try.prog 16 #[.int .i64 1, .slice A1 n1 c1, .slice A2 n2 c2] w fun e w' => ∃ AO cO AD cD, e = .returned (.agg #[.int .i64 p.kind, .int .i64 p.life, .int .i64 p.piece, .int .i64 p.src, .int .i64 p.dst, .int .i64 p.fp, .int .i64 p.tp, .int .i64 p.flags, .int .i64 p.label, .bool p.bare, .int .i64 p.code, .slice AO p.no cO, .slice AD p.nd cD]) ∧ OB w' w.heap.size (.slice AD p.nd cD) p.nd p.gd ∧ Below w.heap.size w w' := by
  subst hp
  refine (make_any 1 A1 n1 c1 g1 A2 n2 c2 g2 w hr1 hr2 hg2 hn1 hn2 hn3).mono ?_
  rintro e w' ⟨O, D, rfl, hO, hD, hb⟩
  obtain ⟨AO, cO, rfl, _, _, _⟩ := hO.form_
  obtain ⟨AD, cD, rfl, _, _, _⟩ := hD.form_
  exact ⟨AO, cO, AD, cD, rfl, hD, hb⟩
theorem bare_2 {g : Nat → Int} {b : Bool} (h0 : g 0 = 2) (hb : bareF g = b) : (num g 22 2 == 0) = b := by
  rw [← hb]; unfold bareF; rw [h0]; simp
theorem wr_0 {g : Nat → Int} {L a m : Nat} {v : Int} (ha : 16 ≤ a) : wrF g L a m v 0 = g 0 := wr_out (.inl (by omega)) (.inl (by have := kind_num g; omega)) ha

set_option maxRecDepth 100000 in
set_option maxHeartbeats 4000000 in
theorem walk (W : World) (A0 : Option Addr) (n0 c0 : Nat) (g0 : Nat → Int) (hn0 : n0 ≤ c0) (hc0 : c0 ≤ maxLen) (hr0 : Is W A0 n0 g0) (hg0 : IsI g0) (hl0 : ∀ ad, A0 = some ad → 0 < n0 → ad.block < W.heap.size) (re0 : c0 * 8 ≤ 140737488351232) (A1 : Option Addr) (n1 c1 : Nat) (g1 : Nat → Int) (hn1 : n1 ≤ c1) (hc1 : c1 ≤ maxLen) (hr1 : By W A1 n1 g1) (hg1 : IsB g1) (hl1 : ∀ ad, A1 = some ad → 0 < n1 → ad.block < W.heap.size) (re1 : c1 * 1 ≤ 140737488351232) (a2 : Bool) (a3 : Int) (r_a3 : -9223372036854775808 ≤ a3 ∧ a3 ≤ 9223372036854775807) (A4 : Option Addr) (n4 c4 : Nat) (g4 : Nat → Int) (hn4 : n4 ≤ c4) (hc4 : c4 ≤ maxLen) (hr4 : Is W A4 n4 g4) (hg4 : IsI g4) (hl4 : ∀ ad, A4 = some ad → 0 < n4 → ad.block < W.heap.size) (re4 : c4 * 8 ≤ 140737488351232) :
    Calls Try.prog 12 #[.slice A0 n0 c0, .slice A1 n1 c1, .bool a2, .int .i64 a3, .slice A4 n4 c4] W fun e w' => e = .returned (.bool true) ∧ Below W.heap.size W w' := by
  have HG := hid hg1
  have m1 : (n0 : Int) ≤ 9223372036854775807 := by unfold maxLen at hc0; omega
  have m2 : (n1 : Int) ≤ 9223372036854775807 := by unfold maxLen at hc1; omega
  have m4 : (n4 : Int) ≤ 9223372036854775807 := by unfold maxLen at hc4; omega
  have H1 := hid (hr0)
  have H2 := hid (hr1)
  have H4 := hid (hr4)
  obtain ⟨p, hp⟩ : ∃ p, p = mkPk 1 (nv g0 n0) g1 n1 := ⟨_, rfl⟩
  have MF := mk_facts 1 (nv g0 n0) g1 n1 HG.out
  have MG := mk_gram (nv g0 n0) g1 n1
  rw [← hp] at MF MG
  have MK := hid (make_o p A0 n0 c0 g0 A1 n1 c1 g1 hp HG.out m1 hn1 m2)
  clear hp
  obtain ⟨f1, f2, f3, f4, f5, f6⟩ := MF
  obtain ⟨e1, e2⟩ := MG
  obtain ⟨gd, hgd⟩ : ∃ gd : Nat → Int, gd = fun j => if j < p.nd then p.gd j else ([1, 2, 3, 4] : List Int).getD (j - p.nd) 0 := ⟨_, rfl⟩
  have gB : IsB gd := by rw [hgd]; intro j; dsimp only; split; exact f4 j; exact lit_b [1, 2, 3, 4] (by intro x hx; simp at hx; omega) _
  obtain ⟨L, hL⟩ : ∃ L, L = lenP { p with bare := a2, nd := p.nd + 4, gd := gd } := ⟨_, rfl⟩
  obtain ⟨F, hF⟩ : ∃ F, F = builtF { p with bare := a2, nd := p.nd + 4, gd := gd } := ⟨_, rfl⟩
  have QE : buildE { p with bare := a2, nd := p.nd + 4, gd := gd } = 0 := gram_E f1 e1 e2 e1 rfl rfl rfl rfl rfl rfl rfl rfl
  have M := mk_any (p := { p with bare := a2, nd := p.nd + 4, gd := gd }) QE ⟨f2.k3, f2.k1, fun h => absurd e1 h, f2.kc⟩ f3 gB (by dsimp only; omega) (by dsimp only; omega) hL hF
  have RB := rbuild_p { p with bare := a2, nd := p.nd + 4, gd := gd } L F hL hF M.E M.go M.gd (Nat.le_trans M.no (by decide)) (Nat.le_trans M.nd (by decide))
  dsimp only at RB
  have pno : p.no = 0 := (f2.k1 (by omega)).2
  have L28 : 28 ≤ L := by rw [hL]; unfold lenP; rw [if_neg (by dsimp only; omega), if_pos e1]; dsimp only; omega
  have L1 := M.L1
  have lb := (buildE_0 f1).2.1
  have LB : Hid (0 ≤ p.label ∧ p.label ≤ 65535) := hid (by unfold rangeB at lb; rw [if_neg (by omega), if_pos e1] at lb; simp only [Bool.and_eq_true] at lb; exact inR_bd lb.2.2)
  have F0 := hid ((pe_kind M.P M.pe).trans e1)
  have FB := hid (pe_bare M.P M.pe)
  dsimp only at FB
  have HB := hid M.B
  have HPa := hid M.P
  have HW := hid M.w
  have HGD := hid hgd
  have RBH := hid RB
  have PN := hid pno
  have nd2 := e2
  have LN : L ≤ 1000000 := by omega
  clear M QE hL hF RB gB hgd f1 f2 f3 f4 f5 f6 e1 e2 lb pno
  clear hr0 hr1 hr4 hg0 hg1 hg4 hl0 hl1 hl4 re0 re1 re4 hc0 hc1 hc4 m1 m2
  go_enter Try.func12, Try.ntmps12
  go_wp2_with fail
  refine (known_any _).mono ?_
  rintro e w1 ⟨rfl, hb⟩
  have S1 := hid hb
  clear hb
  go_wp2_with fail
  refine (MK.out w1 (Sl.below H1.out S1.out (Nat.le_refl _)) (Sl.below H2.out S1.out (Nat.le_refl _))).mono ?_
  rintro e w2 ⟨AO, cO, AD, cD, rfl, hD, hb⟩
  have S2 := hid hb
  clear hb
  have OD := hid hD
  clear hD MK
  go_upto_region 4 with (fail)
  have C1 := hid (Ce.made (w := w2) (l := [.int .i64 p.kind, .int .i64 p.life, .int .i64 p.piece, .int .i64 p.src, .int .i64 p.dst, .int .i64 p.fp, .int .i64 p.tp, .int .i64 p.flags, .int .i64 p.label, .bool p.bare, .int .i64 p.code, .slice AO p.no cO, .slice AD p.nd cD]) (T := 26) rfl)
  simp only [List.toArray] at C1
  have S3 := hid ((Below.refl w2.heap.size w2).alloc (Nat.le_refl _) (.cells #[.int .i64 p.kind, .int .i64 p.life, .int .i64 p.piece, .int .i64 p.src, .int .i64 p.dst, .int .i64 p.fp, .int .i64 p.tp, .int .i64 p.flags, .int .i64 p.label, .bool p.bare, .int .i64 p.code, .slice AO p.no cO, .slice AD p.nd cD] 26))
  generalize (w2.alloc (.cells #[.int .i64 p.kind, .int .i64 p.life, .int .i64 p.piece, .int .i64 p.src, .int .i64 p.dst, .int .i64 p.fp, .int .i64 p.tp, .int .i64 p.flags, .int .i64 p.label, .bool p.bare, .int .i64 p.code, .slice AO p.no cO, .slice AD p.nd cD] 26)) = w3 at *
  generalize hP1 : w2.heap.size = P1 at C1 ⊢
  have HP1 := hid hP1
  clear hP1
  have y1 := C1.out.2.1 9 _ rfl
  have f1 := C1.out.2.2 9
  go_upto_region 5 with (fail)
  clear y1 f1
  have S4 := hid ((Below.setCell (p := ⟨P1, 9, none⟩) (B := w2.heap.size) S3.out (by rw [HP1.out]; exact Nat.le_refl _) (.bool a2)))
  have C1N := hid (Ce.set C1.out 9 (.bool a2) (by simp))
  simp only [List.set_cons_zero, List.set_cons_succ] at C1N
  clear S3 C1
  have C1 := C1N
  clear C1N
  generalize (w3.setCell ⟨P1, 9, none⟩ (.bool a2)) = w4 at *
  have hZ := hid (show w1.heap.size ≤ P1 by have := S2.out.size; have := HP1.out; omega)
  have B4 := hid (then_ S2.out S4.out)
  have OD4 := hid (OB.keep_ OD.out S4.out)
  have nP := hid (ow_lt OD.out P1 (by have := HP1.out; omega))
  clear OD
  have y12 := C1.out.2.1 12 _ rfl
  have R4 := row_at .u8 [1, 2, 3, 4] (w := w4) (t := 5) (b := w4.heap.size) rfl
  simp only [List.map_cons, List.map_nil, List.length_cons, List.length_nil] at R4
  replace R4 := hid R4
  go_upto_region 6 with (at_builtin; refine wp_app_b rfl (.tmp 28) (.tmp 29) rfl w1.heap.size _ p.nd p.gd rfl (Ow.alloc OD4.out _) (some ⟨w4.heap.size, 0, none⟩) 4 _ (fun j => ([1, 2, 3, 4] : List Int).getD j 0) rfl R4.out ?_ ?_ ?_; (focus omega); (focus (have := B4.out.size; simp; omega)); intro A6 c6 w6 h1 h2 h3 h4 h5 h6; have O6 := hid h1; have c6h := hid h2; have B6 := hid ((B4.out.alloc B4.out.size _).trans h4); have C6 := hid ((C1.out.alloc _).grown h5 nP.out); have n6 := hid (fun e => (h6 P1 e).elim nP.out (fun e => by have := C1.out.1; simp at e; omega)); clear h1 h2 h3 h4 h5 h6; have y12 := C6.out.2.1 12 _ rfl; have f12 := C6.out.2.2 12)
  clear y12 f12 R4
  have C7 := hid (Ce.set C6.out 12 (.slice A6 (p.nd + 4) c6) (by simp))
  simp only [List.set_cons_zero, List.set_cons_succ] at C7
  have B7 := hid (B6.out.setCell (p := ⟨P1, 12, none⟩) hZ.out (.slice A6 (p.nd + 4) c6))
  have O7 := hid (show By _ _ _ _ from Ow.sl1 (OB.grown (g := gd) (OB.as2 O6.out (fun j hj => by rw [HGD.out])) (grown_set w6 ⟨P1, 12, none⟩ (.slice A6 (p.nd + 4) c6)) n6.out))
  generalize (w6.setCell ⟨P1, 12, none⟩ (.slice A6 (p.nd + 4) c6)) = w7 at *
  clear C6 B6 O6 n6 B4 OD4 nP C1 S2 S4
  have yC := (Ce.below C7.out (Below.refl _ _))
  have y0 := yC.2.1 0 _ rfl
  have y1 := yC.2.1 1 _ rfl
  have y2 := yC.2.1 2 _ rfl
  have y3 := yC.2.1 3 _ rfl
  have y4 := yC.2.1 4 _ rfl
  have y5 := yC.2.1 5 _ rfl
  have y6 := yC.2.1 6 _ rfl
  have y7 := yC.2.1 7 _ rfl
  have y8 := yC.2.1 8 _ rfl
  have y9 := yC.2.1 9 _ rfl
  have y10 := yC.2.1 10 _ rfl
  have y11 := yC.2.1 11 _ rfl
  have y12 := yC.2.1 12 _ rfl
  clear yC
  go_wp2_with fail
  refine (RBH.out AO cO A6 c6 w7 (by rw [PN.out]; exact Sl.nil _ _ _) (Sl.below O7.out (Below.refl _ _) (Nat.le_refl _))).mono ?_
  rintro e w8 ⟨A8, c8, rfl, hO, hc8, hb⟩
  have S5 := hid hb
  clear hb
  have R8 := hid (hO.sl1)
  clear hO RBH
  clear y0 y1 y2 y3 y4 y5 y6 y7 y8 y9 y10 y11 y12
  have Y8 := hid (fun w' (hb : Below w8.heap.size w8 w') => (Ce.below (Ce.below C7.out S5.out) hb).2.1 8 _ rfl)
  go_wp2_with fail
  go_loopw [12, 14, 15, 16, 17, 18, 19] (fun b i _ _ _ _ _ wr => ∃ (k : Nat) (A : Option Addr) (c : Nat) (g : Nat → Int), k ≤ n4 ∧ k ≤ 12 ∧ b = .slice A L c ∧ i = .int .i64 (k : Int) ∧ L ≤ c ∧ By wr A L g ∧ IsB g ∧ parseE g L = 0 ∧ wholeB g L = true ∧ g 0 = 2 ∧ bareF g = a2 ∧ Below w8.heap.size w8 wr) (fun _ i _ _ _ _ _ _ => 12 - (intOf i).toNat)
  case atStart => exact ⟨0, A8, c8, F, by omega, by omega, rfl, rfl, hc8, R8.out, HB.out, HPa.out, HW.out, F0.out, FB.out, Below.refl _ _⟩
  case round =>
    obtain ⟨k, A, c, g, hk4, hk12, rfl, rfl, hc, hr, hg, hP, hw, h0, hba, hb⟩ := hrel
    have BR := hid hb
    have R := hid hr
    have GB := hid hg
    have GP := hid hP
    have GW := hid hw
    have G0 := hid h0
    have GE := hid hba
    clear hr hg hP hw h0 hba hb
    have k0 : (0 : Int) ≤ k := by omega
    by_cases hkn : k < n4
    · have kn : (k : Int) < n4 := by omega
      by_cases hk1 : k < 12
      · have kl : (k : Int) < 12 := by omega
        obtain ⟨b4, o4, hA4, hb4, hcell⟩ := (Sl.below H4.out (then_ (then_ (then_ S1.out B7.out) S5.out) BR.out) (Nat.le_refl _)) (by omega)
        subst hA4
        have c4' := hcell k hkn
        have b4lt := hb4
        clear hcell hb4
        obtain ⟨u, hu⟩ : ∃ u, IntKind.i64.wrap (a3 + (k : Int)) = u := ⟨_, rfl⟩
        have q25 : IntKind.i64.wrap ((L : Int) - 25) = (L : Int) - 25 := IntWalk.i64_in _ (by omega)
        skip
        obtain ⟨i, hi⟩ : ∃ x, x = wi u ((L : Int) - 25) := ⟨_, rfl⟩
        have bi := wi_bd u ((L : Int) - 25) (by omega)
        rw [← hi] at bi
        have Wi := hid (fun w => re_i64 (within_any u ((L : Int) - 25) w (by omega) (by omega)) hi.symm)
        clear hi
        obtain ⟨bi1, bi2⟩ := bi
        obtain ⟨i, rfl⟩ := Int.eq_ofNat_of_zero_le bi1
        obtain ⟨x, hx⟩ : ∃ x, x = wi (g4 k) 65536 := ⟨_, rfl⟩
        have bx := wi_bd (g4 k) 65536 (by omega)
        rw [← hx] at bx
        have Wx := hid (fun w => re_i64 (within_any (g4 k) 65536 w (by omega) (by omega)) hx.symm)
        clear hx
        obtain ⟨bx1, bx2⟩ := bx
        have q24 : IntKind.i64.wrap (24 + (i : Int)) = 24 + (i : Int) := IntWalk.i64_in _ (by omega)
        obtain ⟨G, hG⟩ : ∃ G, G = wrF g L (24 + (i : Int)).toNat (2 : Int).toNat x := ⟨_, rfl⟩
        have ei : (24 + (i : Int)).toNat = 24 + i := by omega
        have sg := kind_num g
        have T1 := hid (write_q g L (24 + (i : Int)) 2 x 0 L G (wrE_yes GP.out (may_yes (.inr (.inl ⟨rfl, by omega⟩)) bx1 (by omega) (by omega) (.inr (by omega)))).symm (by simp) hG GB.out LN (by omega))
        rw [ei] at hG
        have XB := hid (show IsB G from by rw [hG]; exact wr_B GB.out _ _ _ _)
        have XP := hid (show parseE G L = 0 from by rw [hG]; exact wr_parse (by omega) GP.out)
        have XW := hid (show wholeB G L = true from by rw [hG]; exact (wr_whole GB.out (by omega) (by simp; omega) (by simp) GP.out).trans GW.out)
        have X0 := hid (show G 0 = 2 from by rw [hG, wr_0 (by omega), G0.out])
        have XE := hid (show bareF G = a2 from by rw [hG, wr_bare (by omega) (.inr (by omega)), GE.out])
        clear hG
        obtain ⟨s, hs⟩ : ∃ s, s = num G 22 2 := ⟨_, rfl⟩
        have SN := hid (fun (w : World) (A' : Option Addr) (c' : Nat) (h : By w A' L G) => re_i64 (rnum_any A' L c' G w h XB.out 22 2 (by omega) (by omega) LN) hs.symm)
        have sb := num2_bd XB.out 22
        rw [← hs] at sb
        obtain ⟨sb1, sb2⟩ := sb
        have hz : (s == 0) = a2 := by rw [hs]; exact bare_2 X0.out XE.out
        clear hs
        obtain ⟨lb1, lb2⟩ := LB.out
        have qs : IntKind.i64.wrap (p.label + s) = p.label + s := IntWalk.i64_in _ (by omega)
        obtain ⟨y, hy⟩ : ∃ x, x = wi (p.label + s) 65536 := ⟨_, rfl⟩
        have byy := wi_bd (p.label + s) 65536 (by omega)
        rw [← hy] at byy
        have Wy := hid (fun w => re_i64 (within_any (p.label + s) 65536 w (by omega) (by omega)) hy.symm)
        clear hy
        obtain ⟨by1, by2⟩ := byy
        have sG : sumA (G 0) = 22 := by rw [X0.out]; rfl
        obtain ⟨K, hK⟩ : ∃ K, K = wrF G L (20 : Int).toNat (2 : Int).toNat y := ⟨_, rfl⟩
        have T2 := hid (write_q G L 20 2 y 0 L K (wrE_yes XP.out (may_yes (.inr (.inl ⟨rfl, by omega⟩)) by1 (by omega) (by omega) (.inl (by rw [sG]; decide)))).symm (by simp) hK XB.out LN (by omega))
        have KB := hid (show IsB K from by rw [hK]; exact wr_B XB.out _ _ _ _)
        have K0 := hid (show K 0 = 2 from by rw [hK, wr_0 (by decide), X0.out])
        have KE := hid (show bareF K = a2 from by rw [hK, wr_bare (by decide) (.inl (by rw [sG]; decide)), XE.out])
        clear hK sG
        obtain ⟨t, ht⟩ : ∃ s, s = num K 22 2 := ⟨_, rfl⟩
        have TN := hid (fun (w : World) (A' : Option Addr) (c' : Nat) (h : By w A' L K) => re_i64 (rnum_any A' L c' K w h KB.out 22 2 (by omega) (by omega) LN) ht.symm)
        have hzt : (t == 0) = a2 := by rw [ht]; exact bare_2 K0.out KE.out
        clear ht
        go_upto_region 10 with (fail)
        refine wp_region_held_drew (S := (fun w' => w'.cell? ⟨b4, o4 + k, none⟩ = some (.int .i64 (g4 k)))) (by kernel_rfl) c4' (fun hHeld => ?_)
        refine tk 0 (v := ?_) rfl (by kernel_rfl) (by kernel_rfl) (by kernel_rfl) (fun _ _ _ h => h) rfl ?_ hHeld ?_; rotate_left; (focus (intro w hSw; (try dsimp only at hSw);  go_simp; (try with_reducible rfl))); (try simp only [Act.put, List.setIfInBounds_toArray, List.set_cons_zero, List.set_cons_succ])
        refine tk 1 (v := ?_) rfl (by kernel_rfl) (by kernel_rfl) (by kernel_rfl) (fun _ _ _ h => h) rfl ?_ hHeld ?_; rotate_left; (focus (intro w hSw; (try dsimp only at hSw);  go_simp; (try with_reducible rfl))); (try simp only [Act.put, List.setIfInBounds_toArray, List.set_cons_zero, List.set_cons_succ])
        refine tk 2 (v := ?_) rfl (by kernel_rfl) (by kernel_rfl) (by kernel_rfl) (fun _ _ _ h => h) rfl ?_ hHeld ?_; rotate_left; (focus (intro w hSw; (try dsimp only at hSw);  go_simp; (try with_reducible rfl))); (try simp only [Act.put, List.setIfInBounds_toArray, List.set_cons_zero, List.set_cons_succ])
        refine tk 3 (v := ?_) rfl (by kernel_rfl) (by kernel_rfl) (by kernel_rfl) (fun _ _ _ h => h) rfl ?_ hHeld ?_; rotate_left; (focus (intro w hSw; (try dsimp only at hSw);  go_simp; (try with_reducible rfl))); (try simp only [Act.put, List.setIfInBounds_toArray, List.set_cons_zero, List.set_cons_succ])
        refine tk 4 (v := ?_) rfl (by kernel_rfl) (by kernel_rfl) (by kernel_rfl) (fun _ _ _ h => h) rfl ?_ hHeld ?_; rotate_left; (focus (intro w hSw; (try dsimp only at hSw);  go_simp; (try with_reducible rfl))); (try simp only [Act.put, List.setIfInBounds_toArray, List.set_cons_zero, List.set_cons_succ])
        refine tk 5 (v := ?_) rfl (by kernel_rfl) (by kernel_rfl) (by kernel_rfl) (fun _ _ _ h => h) rfl ?_ hHeld ?_; rotate_left; (focus (intro w hSw; (try dsimp only at hSw);  go_simp; (try with_reducible rfl))); (try simp only [Act.put, List.setIfInBounds_toArray, List.set_cons_zero, List.set_cons_succ])
        refine tk 6 (v := ?_) rfl (by kernel_rfl) (by kernel_rfl) (by kernel_rfl) (fun _ _ _ h => h) rfl ?_ hHeld ?_; rotate_left; (focus (intro w hSw; (try dsimp only at hSw);  go_simp; (try with_reducible rfl))); (try simp only [Act.put, List.setIfInBounds_toArray, List.set_cons_zero, List.set_cons_succ])
        refine tk 9 (v := ?_) rfl (by kernel_rfl) (by kernel_rfl) (by kernel_rfl) (fun _ _ _ h => h) rfl ?_ hHeld ?_; rotate_left; (focus (intro w hSw; (try dsimp only at hSw);  go_simp; (try with_reducible rfl))); (try simp only [Act.put, List.setIfInBounds_toArray, List.set_cons_zero, List.set_cons_succ])
        refine tk 10 (v := ?_) rfl (by kernel_rfl) (by kernel_rfl) (by kernel_rfl) (fun _ _ _ h => h) rfl ?_ hHeld ?_; rotate_left; (focus (intro w hSw; (try dsimp only at hSw);  go_simp; (try with_reducible rfl))); (try simp only [Act.put, List.setIfInBounds_toArray, List.set_cons_zero, List.set_cons_succ])
        refine tk 11 (v := ?_) rfl (by kernel_rfl) (by kernel_rfl) (by kernel_rfl) (fun _ _ _ h => h) rfl ?_ hHeld ?_; rotate_left; (focus (intro w hSw; (try dsimp only at hSw);  go_simp; (try with_reducible rfl))); (try simp only [Act.put, List.setIfInBounds_toArray, List.set_cons_zero, List.set_cons_succ])
        refine tk 12 (v := ?_) rfl (by kernel_rfl) (by kernel_rfl) (by kernel_rfl) (fun _ _ _ h => h) rfl ?_ hHeld ?_; rotate_left; (focus (intro w hSw; (try dsimp only at hSw);  go_simp; (try with_reducible rfl))); (try simp only [Act.put, List.setIfInBounds_toArray, List.set_cons_zero, List.set_cons_succ])
        refine only 7 rfl (by kernel_rfl) rfl (fun K hK => ?_)
        go_simp
        refine (Wi.out _).mono ?_
        rintro e w' ⟨rfl, rfl⟩
        try go_wp2_with fail
        refine hK.out _ _ hHeld (fun _ => ?_)
        clear hK
        (try simp only [Act.put, List.setIfInBounds_toArray, List.set_cons_zero, List.set_cons_succ])
        refine tk 8 (v := ?_) rfl (by kernel_rfl) (by kernel_rfl) (by kernel_rfl) (fun _ _ _ h => h) rfl ?_ hHeld ?_; rotate_left; (focus (intro w hSw; (try dsimp only at hSw);  go_simp; (try with_reducible rfl))); (try simp only [Act.put, List.setIfInBounds_toArray, List.set_cons_zero, List.set_cons_succ])
        refine only 13 rfl (by kernel_rfl) rfl (fun K hK => ?_)
        go_simp
        refine (Wx.out _).mono ?_
        rintro e w' ⟨rfl, rfl⟩
        try go_wp2_with fail
        refine hK.out _ _ hHeld (fun _ => ?_)
        clear hK
        (try simp only [Act.put, List.setIfInBounds_toArray, List.set_cons_zero, List.set_cons_succ])
        have S6 := hid (Below.drew (Below.refl wr.heap.size wr))
        have HC := hid (fun w' (hb : Below wr.heap.size wr w') => (hb.cell (p := ⟨b4, o4 + k, none⟩) b4lt).trans c4')
        clear hHeld c4'
        generalize wr.drew = v0 at *
        refine only 14 rfl (by kernel_rfl) rfl (fun K hK => ?_)
        go_simp
        refine (T1.out A c hc v0 (Sl.below R.out S6.out (Nat.le_refl _))).mono ?_
        rintro e v1 ⟨X1, d1, rfl, hO, hd1, hb⟩
        have S7 := hid hb
        clear hb
        have Y1 := hid (hO.sl1)
        clear hO T1
        try go_wp2_with fail
        refine hK.out _ _ (HC.out _ (then_ S6.out S7.out)) (fun hHeld => ?_)
        clear hK
        (try simp only [Act.put, List.setIfInBounds_toArray, List.set_cons_zero, List.set_cons_succ])
        refine tk 15 (v := ?_) rfl (by kernel_rfl) (by kernel_rfl) (by kernel_rfl) (fun _ _ _ h => h) rfl ?_ hHeld ?_; rotate_left; (focus (intro w hSw; (try dsimp only at hSw);  go_simp; (try with_reducible rfl))); (try simp only [Act.put, List.setIfInBounds_toArray, List.set_cons_zero, List.set_cons_succ])
        refine tk 16 (v := ?_) rfl (by kernel_rfl) (by kernel_rfl) (by kernel_rfl) (fun _ _ _ h => h) rfl ?_ hHeld ?_; rotate_left; (focus (intro w hSw; (try dsimp only at hSw);  go_simp; (try with_reducible rfl))); (try simp only [Act.put, List.setIfInBounds_toArray, List.set_cons_zero, List.set_cons_succ])
        refine tk 17 (v := ?_) rfl (by kernel_rfl) (by kernel_rfl) (by kernel_rfl) (fun _ _ _ h => h) rfl ?_ hHeld ?_; rotate_left; (focus (intro w hSw; (try dsimp only at hSw);  go_simp; (try with_reducible rfl))); (try simp only [Act.put, List.setIfInBounds_toArray, List.set_cons_zero, List.set_cons_succ])
        refine tk 18 (v := ?_) rfl (by kernel_rfl) (by kernel_rfl) (by kernel_rfl) (fun _ _ _ h => h) rfl ?_ hHeld ?_; rotate_left; (focus (intro w hSw; (try dsimp only at hSw);  go_simp; (try with_reducible rfl))); (try simp only [Act.put, List.setIfInBounds_toArray, List.set_cons_zero, List.set_cons_succ])
        refine tk 19 (v := ?_) rfl (by kernel_rfl) (by kernel_rfl) (by kernel_rfl) (fun _ _ _ h => h) rfl ?_ hHeld ?_; rotate_left; (focus (intro w hSw; (try dsimp only at hSw);  go_simp; (try with_reducible rfl))); (try simp only [Act.put, List.setIfInBounds_toArray, List.set_cons_zero, List.set_cons_succ])
        refine wpAnyH_done (by kernel_rfl) ?_ _
        clear hHeld HC
        go_wp2_with fail
        refine (SN.out v1 X1 d1 (Sl.below Y1.out (Below.refl _ _) (Nat.le_refl _))).mono ?_
        rintro e w' ⟨rfl, rfl⟩
        go_wp2_with fail
        refine (re_bool (whole_any X1 L d1 G v1 (Sl.below Y1.out (Below.refl _ _) (Nat.le_refl _)) XB.out hd1 LN) XW.out).mono ?_
        rintro e v2 ⟨rfl, hb⟩
        have S8 := hid hb
        clear hb
        go_wp2_with fail
        refine (SN.out v2 X1 d1 (Sl.below Y1.out S8.out (Nat.le_refl _))).mono ?_
        rintro e w' ⟨rfl, rfl⟩
        have y8 := Y8.out _ (then_ (then_ (then_ BR.out S6.out) S7.out) S8.out)
        go_wp2_with fail
        refine (Wy.out _).mono ?_
        rintro e w' ⟨rfl, rfl⟩
        try clear y8
        go_wp2_with fail
        refine (T2.out X1 d1 hd1 v2 (Sl.below Y1.out S8.out (Nat.le_refl _))).mono ?_
        rintro e v3 ⟨X2, d2, rfl, hO, hd2, hb⟩
        have S9 := hid hb
        clear hb
        have Y2 := hid (hO.sl1)
        clear hO T2
        go_wp2_with fail
        refine (TN.out v3 X2 d2 (Sl.below Y2.out (Below.refl _ _) (Nat.le_refl _))).mono ?_
        rintro e w' ⟨rfl, rfl⟩
        go_wp2_with fail
        go_roundw
        case rel => exact ⟨k + 1, X1, d1, G, by omega, by omega, rfl, by go_num, hd1, (Sl.below Y1.out (then_ S8.out S9.out) (Nat.le_refl _)), XB.out, XP.out, XW.out, X0.out, XE.out, (then_ (then_ (then_ (then_ BR.out S6.out) S7.out) S8.out) S9.out)⟩
        case measure => simp [intOf]; omega
      · have kl : ¬ (k : Int) < 12 := by omega
        go_wp2_with fail
        go_ret
        exact ⟨rfl, (then_ (then_ (then_ S1.out B7.out) S5.out) BR.out)⟩
    · have kn : ¬ (k : Int) < n4 := by omega
      go_wp2_with fail
      go_ret
      exact ⟨rfl, (then_ (then_ (then_ S1.out B7.out) S5.out) BR.out)⟩

set_option maxRecDepth 100000 in
theorem lifted (os : Os) (started : os.Started) (H : Type) (enc : TypeId × Value → H) :
    ReturnsInHanded {} Try.checked os 12 .any (Rows.wireNoughtSpec.pre6 enc Try.prog Try.f12 [] false) (Rows.wireNoughtSpec.post enc Try.prog Try.f12 false true false false) :=
  law_step (s := Rows.wireNoughtSpec) started (by kernel_rfl) Try.func12
    (ChangeSpec.witness6 (s := Rows.wireNoughtSpec) (enc := enc) (C := Try.checked) false ⟨#[], #[.slice none 0 0, .slice none 0 0, .bool false, .int .i64 0, .slice none 0 0], []⟩ 8 (by kernel_rfl) (by kernel_rfl) (by kernel_rfl) (by kernel_rfl))
    rfl (by rw [Try.params12]; decide +kernel) rfl Try.underlying4
    (fun ds h => by
      rw [Try.params12] at h
      match ds, h with
      | [_, _, _, _, _], _ => rfl)
    (fun W base args ds ps hval hA hsz => by
      rw [Try.params12] at hA hval hsz
      obtain ⟨v0, vs0, d0, ds0, p0, q0, hargs, rfl, rfl, h0, r0⟩ := trodAll_cons hA
      obtain ⟨v1, vs1, d1, ds1, p1, q1, rfl, rfl, rfl, h1, r1⟩ := trodAll_cons r0
      obtain ⟨v2, vs2, d2, ds2, p2, q2, rfl, rfl, rfl, h2, r2⟩ := trodAll_cons r1
      obtain ⟨v3, vs3, d3, ds3, p3, q3, rfl, rfl, rfl, h3, r3⟩ := trodAll_cons r2
      obtain ⟨v4, vs4, d4, ds4, p4, q4, rfl, rfl, rfl, h4, r4⟩ := trodAll_cons r3
      obtain ⟨rfl, rfl, rfl⟩ := trodAll_nil r4
      obtain rfl : args = #[v0, v1, v2, v3, v4] := by cases args; simp_all
      obtain ⟨A0, n0, c0, g0, rfl, hn0, hc0, hs0, hw0, hl0, hd0⟩ := open_row Try.underlying22 Try.underlying3 (by kernel_rfl) (hval 0 22 v0 rfl rfl) h0
      have re0 : c0 * 8 ≤ 140737488351232 := by
        rcases hd0 with ⟨_, h0⟩ | ⟨xs, ys, h1, h2⟩
        · omega
        · have := sized_slice hsz (j := 0) (t := 22) (e := 3) rfl (by rw [h1]; rfl) Try.underlying22
          rw [h2, show Try.prog.bytesOf 3 = 8 from by kernel_rfl] at this
          simpa [reachBytes] using this
      obtain ⟨A1, n1, c1, g1, rfl, hn1, hc1, hs1, hw1, hl1, hd1⟩ := open_row Try.underlying23 Try.underlying5 (by kernel_rfl) (hval 1 23 v1 rfl rfl) h1
      have re1 : c1 * 1 ≤ 140737488351232 := by
        rcases hd1 with ⟨_, h0⟩ | ⟨xs, ys, h1, h2⟩
        · omega
        · have := sized_slice hsz (j := 1) (t := 23) (e := 5) rfl (by rw [h1]; rfl) Try.underlying23
          rw [h2, show Try.prog.bytesOf 5 = 1 from by kernel_rfl] at this
          simpa [reachBytes] using this
      obtain ⟨a2, rfl, rfl, rfl⟩ := open_bool Try.underlying4 (hval 2 4 v2 rfl rfl) h2
      obtain ⟨a3, rfl, rfl, rfl, w3⟩ := open_int Try.underlying3 (hval 3 3 v3 rfl rfl) h3
      obtain ⟨A4, n4, c4, g4, rfl, hn4, hc4, hs4, hw4, hl4, hd4⟩ := open_row Try.underlying22 Try.underlying3 (by kernel_rfl) (hval 4 22 v4 rfl rfl) h4
      have re4 : c4 * 8 ≤ 140737488351232 := by
        rcases hd4 with ⟨_, h0⟩ | ⟨xs, ys, h1, h2⟩
        · omega
        · have := sized_slice hsz (j := 4) (t := 22) (e := 3) rfl (by rw [h1]; rfl) Try.underlying22
          rw [h2, show Try.prog.bytesOf 3 = 8 from by kernel_rfl] at this
          simpa [reachBytes] using this
      exact walk W A0 n0 c0 g0 hn0 hc0 hs0 (fun j => bounds_i64 (hw0 j)) hl0 re0 A1 n1 c1 g1 hn1 hc1 hs1 (fun j => bounds_u8 (hw1 j)) hl1 re1 a2 a3 (bounds_i64 w3) A4 n4 c4 g4 hn4 hc4 hs4 (fun j => bounds_i64 (hw4 j)) hl4 re4)

theorem proved : Rows.WireNoughtSaid :=
  OpenClaim.holds_of_wide 12 Try.f12 rfl rfl rfl rfl rfl rfl rfl ⟨rfl, rfl, rfl, rfl, rfl⟩ rfl rfl rfl rfl rfl (by kernel_rfl) Try.func12 (by kernel_rfl)
    (of_decide_eq_true (by kernel_rfl)) (by unfold Func.isWrapper; first | (rw [if_pos (by decide +kernel)]; kernel_rfl) | (rw [if_neg (by decide +kernel)]; exact ⟨rfl, rfl⟩))
    (fun os started H enc _ => lifted os started H enc)
end Go.Proofs.Ytjljaecjnpmdoaa.wireNought
