/- roundhouselaw11.HeadSends answers true for two rows of numbers, any number of units; no condition. -/
import Derived.Test.YtppcanaelagfmaaHdRow
import Derived.Test.YtppcanaelagfmaaHdKnown
import Derived.BigQuiet
import Derived.Deep.RegionHeld3
import Derived.Deep.Cut
import Derived.Deep.CutRange
import Derived.IntWalk
namespace Go.Proofs.Ytppcanaelagfmaa.headSends
set_option linter.unusedVariables false
set_option linter.unusedSimpArgs false
open Go.RowKit Go.ChangeShapes Go.WideShapes Go.ChangeAt

def hS (p : Pl) (u : Nat) (f : Nat → Wd) : Hd := ⟨p, p, [], zEn, u, f⟩
def setB (h : Nat → Bool) (i : Nat) (z : Bool) (j : Nat) : Bool := if j = i then z else h j
/-- Who has what was published. -/
def WS (pv : Int) (hs : Nat → Bool) (f : Nat → Wd) : Prop := ∀ i, (f i).b = 0 ∧ (hs i = true → (f i).v = pv) ∧ (hs i = false → (f i).v < pv)
theorem heardS {p : Pl} {u ix d : Nat} {f : Nat → Wd} {hs : Nat → Bool} {pv : Int} (hix : ix < u) (hd : d < 2) (hv : 0 ≤ pv) (h : WS pv hs f) :
    ∃ f', heardH (hS p u f) ⟨(ix : Int), 0, pv - d, false, true, zEn, zPl⟩ = hS p u f' ∧ WS pv (setB hs ix (hs ix || ((d : Int) == 0))) f' := by
  have h1 : mx (pv - d) = pv - d := by unfold mx; rw [if_neg (by omega)]
  have e1 : earB (hS p u f) ⟨(ix : Int), 0, pv - d, false, true, zEn, zPl⟩ = true := by
    unfold earB hS
    have a1 : (0 : Int) ≤ ix := by omega
    have a2 : (ix : Int) < u := by omega
    simp only [a1, a2, decide_true, Bool.and_self]
  obtain ⟨b0, ht, hf⟩ := h ix
  have e2 : cntB (f ix) ⟨0, pv - d⟩ = decide ((f ix).v < pv - d) := by unfold cntB; rw [b0]; simp
  have e3 : heardH (hS p u f) ⟨(ix : Int), 0, pv - d, false, true, zEn, zPl⟩ = if decide ((f ix).v < pv - d) = true then hS p u (setW f ix ⟨0, pv - d⟩) else hS p u f := by
    unfold heardH
    rw [if_pos e1]
    simp only [Int.toNat_natCast, h1]
    rw [show (hS p u f).wd = f from rfl, e2]
    rfl
  rw [e3]
  by_cases hlt : (f ix).v < pv - d
  · refine ⟨_, by rw [if_pos (by simpa using hlt)], fun i => ?_⟩
    unfold setW setB
    by_cases hi : i = ix
    · rw [if_pos hi, if_pos hi]
      refine ⟨rfl, fun hz => ?_, fun hz => ?_⟩
      · rcases Bool.or_eq_true_iff.1 hz with h2 | h2
        · have := ht h2; omega
        · have : (d : Int) = 0 := by simpa using h2
          show pv - d = pv
          omega
      · obtain ⟨_, h3⟩ := Bool.or_eq_false_iff.1 hz
        have : ¬ (d : Int) = 0 := by simpa using h3
        show pv - d < pv
        omega
    · rw [if_neg hi, if_neg hi]
      exact h i
  · refine ⟨_, by rw [if_neg (by simpa using hlt)], fun i => ?_⟩
    unfold setB
    by_cases hi : i = ix
    · rw [if_pos hi]
      subst hi
      refine ⟨b0, fun hz => ?_, fun hz => ?_⟩
      · rcases Bool.or_eq_true_iff.1 hz with h2 | h2
        · exact ht h2
        · have : (d : Int) = 0 := by simpa using h2
          cases hc : hs i with
          | true => exact ht hc
          | false => have := hf hc; omega
      · exact hf (Bool.or_eq_false_iff.1 hz).1
    · rw [if_neg hi]
      exact h i
theorem sendS (p : Pl) (u : Nat) (f : Nat → Wd) : sendH (hS p u f) = hS p u f := by
  unfold sendH
  split <;> rfl
theorem nk_get (h : Hd) {i : Nat} (hv : (h.wd i).v < h.pl.v) : ∀ {k : Nat}, i < k → (notesK h k)[(notesK h i).length]? = some (noteH h i)
  | 0, hk => absurd hk (Nat.not_lt_zero _)
  | k + 1, hk => by
    rw [notesK_succ]
    by_cases e : i = k
    · subst e
      rw [if_pos hv]
      simp
    · have ih := nk_get h hv (show i < k by omega)
      split
      · rw [List.getElem?_append_left ((List.getElem?_eq_some_iff.1 ih).1)]
        exact ih
      · exact ih
theorem noteS (p : Pl) (u : Nat) (f : Nat → Wd) (i : Nat) (h : (f i).b = 0) : noteH (hS p u f) i = ⟨i, 0, p.v, true, false, zEn, p⟩ := by
  have : noteH (hS p u f) i = ⟨i, (f i).b, p.v, true, false, zEn, p⟩ := rfl
  rw [this, h]
theorem cntS {p : Pl} {u : Nat} {f : Nat → Wd} {hs : Nat → Bool} {pv : Int} (hpv : p.v = pv) (h : WS pv hs f) :
    ∃ cnt : Nat → Nat, cnt 0 = 0 ∧ cnt u = (notesK (hS p u f) u).length ∧ (∀ i, i < u → hs i = true → cnt (i + 1) = cnt i) ∧ (∀ i, i < u → hs i = false → cnt (i + 1) = cnt i + 1 ∧ cnt i < (notesK (hS p u f) u).length ∧ (notesK (hS p u f) u)[cnt i]? = some ⟨i, 0, pv, true, false, zEn, p⟩) := by
  refine ⟨fun i => (notesK (hS p u f) i).length, rfl, rfl, fun i hi ht => ?_, fun i hi hf => ?_⟩
  · show (notesK (hS p u f) (i + 1)).length = _
    rw [notesK_succ, if_neg (by show ¬ (f i).v < p.v; have := (h i).2.1 ht; omega)]
  · have hv : ((hS p u f).wd i).v < (hS p u f).pl.v := by show (f i).v < p.v; have := (h i).2.2 hf; omega
    have h1 := nk_get (hS p u f) hv hi
    refine ⟨?_, (List.getElem?_eq_some_iff.1 h1).1, ?_⟩
    · show (notesK (hS p u f) (i + 1)).length = _
      rw [notesK_succ, if_pos hv]
      simp
    · rw [← hpv, ← noteS p u f i (h i).1]
      exact h1
theorem z16 (w : World) : (zeroValue 60).run Try.prog w = .ok (.agg (FA 16 (fun _ => .bool false))) w := by kernel_rfl
theorem build_nt024F (u v : Int) (w : World) : (Instr.build 58 #[(0, .int .i64 u), (2, .int .i64 v), (4, .bool true)]).run Try.prog w = .ok (.agg (FA 342 (ntc ⟨u, 0, v, false, true, zEn, zPl⟩))) w := run_build w _ _ _ (by kernel_rfl)
section
variable {S : List Nat} {W w : World} {A B : List Th} {Q : Exit → Act → World → Prop} {o : Oper} {a : Act} {K : Act → World → Prop}
theorem ow_storeB {x y : Operand} {b n : Nat} {f : Nat → Value} (off : Nat) (v : Bool) (f' : Nat → Value) (ho : o.op = .store 4 x y) (hx : a.eval x = .pointer (some ⟨b, off, none⟩)) (hy : a.eval y = .bool v) (hS : HS S W w (A ++ thB b n f :: B)) (hok : off + 1 ≤ n) (hf : ∀ j, j < n → patch f off 1 (fun _ => .bool v) j = f' j)
    (h : ∀ w', HS S W w' (A ++ thB b n f' :: B) → K (a.put o.dst undef) w') : o.wp Try.prog a w K Q := by
  have hF : Fb w b n f := hS.1 (thB b n f) (by simp)
  refine ov_store ho hx hy (w' := w.setCell ⟨b, off, none⟩ (.bool v)) ?_ (h _ (hS.set off 1 (fun _ => .bool v) hok f' hf))
  have c := hF.2.1 off (by omega)
  have z := hF.2.2 off
  go_simp
end
theorem patchB (hs : Nat → Bool) (i : Nat) (z : Bool) (j : Nat) : patch (fun j => .bool (hs j)) i 1 (fun _ => .bool z) j = .bool (setB hs i z j) := by
  unfold patch setB
  by_cases h : j = i
  · rw [if_pos (by omega), if_pos h]
  · rw [if_neg (by omega), if_neg h]
attribute [local irreducible] FA FL
set_option maxRecDepth 100000 in
set_option maxHeartbeats 8000000 in
theorem walk (W : World) (A1 : Option Addr) (n1 c1 : Nat) (g1 : Nat → Int) (hn1 : n1 ≤ c1) (hc1 : c1 ≤ maxLen) (hr1 : Is W A1 n1 g1) (hg1 : IsI g1) (hl1 : ∀ ad, A1 = some ad → 0 < n1 → ad.block < W.heap.size) (re1 : c1 * 8 ≤ 140737488351232) (a0 : Int) (r_a0 : -9223372036854775808 ≤ a0 ∧ a0 ≤ 9223372036854775807) (A2 : Option Addr) (n2 c2 : Nat) (g2 : Nat → Int) (hn2 : n2 ≤ c2) (hc2 : c2 ≤ maxLen) (hr2 : Is W A2 n2 g2) (hg2 : IsI g2) (hl2 : ∀ ad, A2 = some ad → 0 < n2 → ad.block < W.heap.size) (re2 : c2 * 8 ≤ 140737488351232) :
    Calls Try.prog 5 #[.slice A1 n1 c1, .int .i64 a0, .slice A2 n2 c2] W fun e w' => e = .returned (.bool true) ∧ Below W.heap.size W w' := by
  unfold maxLen at hc1
  have hnm : (n1 : Int) ≤ 9223372036854775807 := by have := hn1; omega
  have HL := hid hl1
  clear hl1 re1
  obtain ⟨p, hp⟩ : ∃ p, p = mkP g1 (min n1 30) := ⟨_, rfl⟩
  have HQ := hid (show Pinv p 30 from by rw [hp]; exact (mkP_inv g1 _).mono (by omega))
  have MK := hid (fun (w : World) (h : Is w A1 n1 g1) (hl : ∀ ad, A1 = some ad → 0 < n1 → ad.block < w.heap.size) => (show Calls Try.prog 13 #[.slice A1 n1 c1, .int .i64 30] w fun x w' => x = .returned (.agg (FA 330 (pc p))) ∧ Below w.heap.size w w' from by rw [hp]; exact make_fa w A1 n1 c1 g1 h hl hnm 30 (by omega)))
  clear hp
  obtain ⟨x0, hx0⟩ : ∃ x : Nat, (x : Int) = wi a0 8 := ⟨(wi a0 8).toNat, by have := wi_bd a0 8 (by omega); omega⟩
  have bx0 := wi_bd a0 8 (by omega)
  rw [← hx0] at bx0
  have Wx0 := hid (fun w => re_i64 (within_any a0 8 w (by omega) (by omega)) hx0.symm)
  clear hx0
  obtain ⟨bx01, bx02⟩ := bx0
  obtain ⟨u, hu⟩ : ∃ u : Nat, u = 1 + x0 := ⟨_, rfl⟩
  have hu1 : 1 ≤ u := by omega
  have hu2 : u ≤ 8 := by omega
  have HUX := hid (show (1 : Int) + x0 = u from by omega)
  obtain ⟨pv, hpv⟩ : ∃ x, p.v = x := ⟨_, rfl⟩
  have HPV := hid hpv
  have hv1 : 0 ≤ pv := by rw [← hpv]; exact HQ.out.1.1
  have hv2 : pv ≤ 30 := by rw [← hpv]; exact HQ.out.1.2
  clear hpv
  have HR2 := hid (show ∀ (w : World) (L : List Th), HS [] W w L → Is w A2 n2 g2 from fun w L h => hr2.below h.bl (Nat.le_refl _))
  have HG2 := hid hg2
  clear hr2 hl2 re2 hg2
  unfold maxLen at hc2
  have hnm2 : (n2 : Int) ≤ 9223372036854775807 := by have := hn2; omega
  have S0 : Hid (HS [] W W []) := hid HS.start
  go_enter Try.func5, Try.ntmps5
  go_wp2_with fail
  refine (hknown_any _).mono ?_
  rintro x w1 ⟨rfl, hB⟩
  have R1 := hid (hr1.below hB (Nat.le_refl _))
  have B1 := hid hB
  have S1 : Hid (HS [] W w1 []) := hid (S0.out.below hB)
  clear hr1 hB S0
  go_wp2_with fail
  refine (MK.out _ R1.out (fun ad e h => Nat.lt_of_lt_of_le (HL.out ad e h) B1.out.size)).mono ?_
  rintro x w2 ⟨rfl, hb⟩
  have S2 : Hid (HS [] W w2 []) := hid (S1.out.below hb)
  clear hb S1 MK
  go_simp
  go_upto_region 4 with (first | ((with_reducible refine wl_id ?_); refine wl_ow rfl (ow_alloc rfl (zpl_fa _) (by omega) S2.out ?_); intro P w_ hZ _; have SA := hid hZ; clear hZ) | ((with_reducible refine wl_id ?_); refine wl_ow rfl (ow_store (A := []) 0 330 (pc p) (pc p) rfl rfl rfl SA.out (by omega) (fun j hj => patch_all _ _ _ j hj) info_pl (pc_one _) ?_); intro w_ hZ; have SX := hid hZ; clear hZ))
  have S3 : Hid (HS [] W _ [thB P 330 (pc p)]) := hid (SX.out)
  go_wp2_with fail
  refine (Wx0.out _).mono ?_
  rintro x w_ ⟨rfl, rfl⟩
  go_simp
  clear hu
  go_upto_region 5 with (fail)
  rw [HUX.out]
  have NW := hid (hnew_fa p u ⟨by omega, by omega⟩)
  go_wp2_with ((with_reducible refine wl_id ?_); refine wl_ow rfl (ow_load 0 rfl 0 330 (pc p) rfl rfl S3.out (by omega) (fun j hj => by rw [Nat.zero_add]) Try.underlying33 rfl info_pl ?_))
  refine (NW.out _).mono ?_
  rintro x w6 ⟨b, c, m, rfl, hH, hg1, hg2, hg3, hB⟩
  have S4 : Hid (HS [] W w6 [thH b c m u (hS p u (fun _ => ⟨0, -1⟩)), thB P 330 (pc p)]) := hid (HS.addH S3.out (h := newH p u) hH hg1 hg2 hg3 hB)
  clear hH hg1 hg2 hg3 hB NW S3
  go_simp
  go_upto_region 9 with ((with_reducible refine wl_id ?_); refine wl_ow rfl (ow_alloc rfl (z16 _) (by omega) S4.out ?_); intro H w_ hZ _; have SH := hid hZ; clear hZ)
  have S5 : Hid (HS [] W _ [thB H 16 (fun _ => .bool false), thH b c m u (hS p u (fun _ => ⟨0, -1⟩)), thB P 330 (pc p)]) := SH
  clear SH
  go_wp2_with fail
  have cp := hid (show ∀ w, Fb w P 330 (pc p) → w.cell? ⟨P, 0, none⟩ = some (.int .i64 pv) from fun w h => by rw [← HPV.out]; exact h.2.1 0 (by omega))
  go_loopg [12] 20 (fun gh i wx => ∃ (k n : Nat) (hs : Nat → Bool) (f : Nat → Wd), gh = 20 - k ∧ k ≤ 20 ∧ k ≤ n2 ∧ n ≤ 8 + k ∧ i = .int .i64 (k : Int) ∧ WS pv hs f ∧ HS [] W wx [thB H 16 (fun j => .bool (hs j)), thH b c m n (hS p u f), thB P 330 (pc p)])
  case atStart => exact ⟨0, u, fun _ => false, fun _ => ⟨0, -1⟩, by omega, by omega, by omega, by omega, rfl, fun i => ⟨rfl, fun h => (by cases h), fun _ => (by show (-1 : Int) < pv; omega)⟩, S5.out⟩
  case round =>
    clear S5
    obtain ⟨k, n, hs, f, hgh, hk, hkn, hn, rfl, hWS, hS⟩ := hrel
    have U0 := hid hS
    have HWS := hid hWS
    clear hS hWS
    go_upto_region 10 with (fail)
    obtain ⟨bb, hbb⟩ : ∃ bb : Bool, bb = (decide (k < n2) && decide (k < 20)) := ⟨_, rfl⟩
    have HBB := hid hbb
    clear hbb
    go_cut [43] from 36 to 43 (fun x wx => x = .bool bb ∧ wr = wx)
    case first =>
      by_cases h1 : (k : Int) < n2
      · by_cases h2 : (k : Int) < 20
        · go_wp2_with fail
          go_meet
          exact ⟨by rw [HBB.out]; simp; omega, rfl⟩
        · go_wp2_with fail
          go_meet
          exact ⟨by rw [HBB.out]; simp; omega, rfl⟩
      · go_wp2_with fail
        go_meet
        exact ⟨by rw [HBB.out]; simp; omega, rfl⟩
    case rest =>
      obtain ⟨rfl, rfl⟩ := hcut
      cases bb
      · clear HBB
        go_wp2_with fail
        refine (send_fa (U0.out.nth 1 rfl : HeadAt _ b c m n (hS p u f)) (show u ≤ 16 by omega) (HQ.out.pb (by omega)) (by rw [sendS]; exact ⟨HQ.out.1.1, Int.le_trans HQ.out.1.2 (by omega)⟩) (hS p u f) _ (sendS p u f) rfl).mono ?_
        rintro x w9 ⟨A9, cc9, rfl, hlc, hH, hC, hrow⟩
        obtain ⟨cnt, ct0, ctu, ctt, ctf⟩ := cntS HPV.out HWS.out (u := u)
        obtain ⟨l, hl⟩ : ∃ l, l = notesK (hS p u f) u := ⟨_, rfl⟩
        replace hrow : 0 < l.length → ∃ g, A9 = some ⟨g, 0, none⟩ ∧ wr.heap.size ≤ g ∧ Fb w9 g (l.length * 342) (ntf l) := by rw [hl]; exact hrow
        rw [← hl] at ctu ctf
        have hlu : l.length ≤ u := by rw [hl]; exact notesK_len _ _
        replace hlc : l.length ≤ cc9 := by rw [hl]; exact hlc
        rw [show (hS p u f).un = u from rfl, ← hl]
        clear hl
        obtain ⟨ln, hln⟩ : ∃ ln, ln = l.length := ⟨_, rfl⟩
        rw [← hln] at hrow ctu ctf hlu hlc ⊢
        have HLN := hid hln
        clear hln
        have CTU := hid ctu
        have CTT := hid ctt
        have CTF := hid ctf
        have CT0 := hid ct0
        clear ctu ctt ctf ct0
        obtain ⟨g, hg⟩ : ∃ g : Nat, 0 < ln → A9 = some ⟨g, 0, none⟩ ∧ Fb w9 g (ln * 342) (ntf l) := by
          by_cases h0 : 0 < ln
          · obtain ⟨g, e, _, h⟩ := hrow h0
            exact ⟨g, fun _ => ⟨e, h⟩⟩
          · exact ⟨0, fun h => absurd h h0⟩
        have U1 : Hid (HS [] W w9 [thB H 16 (fun j => .bool (hs j)), thH b c m n (hS p u f), thB P 330 (pc p)]) := hid (HS.upd (A := [thB H 16 (fun j => .bool (hs j))]) (B := [thB P 330 (pc p)]) U0.out (thH b c m n (hS p u f)) rfl hC hH)
        have GA := hid (fun h => (hg h).1)
        have GF := hid (fun h => (hg h).2)
        clear hH hC hrow hg U0 HWS
        go_simp
        go_wp2_with fail
        go_loopg [15, 16] u (fun gh at_ i wy => ∃ (i' a : Nat), gh = u - i' ∧ i' ≤ u ∧ a ≤ i' ∧ a = cnt i' ∧ at_ = .int .i64 (a : Int) ∧ i = .int .i64 (i' : Int) ∧ HS [] W wy [thB H 16 (fun j => .bool (hs j)), thH b c m n (hS p u f), thB P 330 (pc p)] ∧ (0 < ln → Fb wy g (ln * 342) (ntf l)))
        case atStart => exact ⟨0, 0, by omega, by omega, by omega, CT0.out.symm, rfl, rfl, U1.out, GF.out⟩
        case round =>
          clear U1 GF
          obtain ⟨i, a, hgh, hi, hai, hac, rfl, rfl, hS, hF⟩ := hrel
          have U2 := hid hS
          have GF := hid hF
          have HAC := hid hac
          clear hS hF hac
          by_cases hlt : (i : Int) < u
          · have hiu : i < u := by omega
            have i16 : i < 16 := by omega
            have z1 : (0 : Int) ≤ i := by omega
            have z2 : (i : Int) < 16 := by omega
            have xh : World.cell? _ ⟨H, i, none⟩ = some (.bool (hs i)) := (U2.out.fb 0 rfl).2.1 i (by omega)
            cases hb : hs i
            · rw [hb] at xh
              obtain ⟨c1, c2, c3⟩ := CTF.out i hiu hb
              rw [← HAC.out] at c1 c2 c3
              have C1 := hid c1
              have C3 := hid c3
              clear c1 c3 hb
              have ea := GA.out (by omega)
              subst ea
              go_upto_region 21 with (fail)
              refine wp_region_held_drew (S := fun (w' : World) => HS [] W w' [thB H 16 (fun j => .bool (hs j)), thH b c m n (hS p u f), thB P 330 (pc p)] ∧ Fb w' g (ln * 342) (ntf l)) (by kernel_rfl) ?_ (fun hHeld => ?_)
              · exact ⟨U2.out.drew, (GF.out (by omega)).drew⟩
              refine tk 0 (v := ?_) rfl (by kernel_rfl) (by kernel_rfl) (by kernel_rfl) (fun _ _ _ h => h) rfl ?_ hHeld ?_; rotate_left; (focus (intro w hSw; (try dsimp only at hSw);  go_simp; (try with_reducible rfl))); (try simp only [Act.put, List.setIfInBounds_toArray, List.set_cons_zero, List.set_cons_succ])
              refine tk 1 (v := ?_) rfl (by kernel_rfl) (by kernel_rfl) (by kernel_rfl) (fun _ _ _ h => h) rfl ?_ hHeld ?_; rotate_left; (focus (intro w hSw; (try dsimp only at hSw);  go_simp; (try with_reducible rfl))); (try simp only [Act.put, List.setIfInBounds_toArray, List.set_cons_zero, List.set_cons_succ])
              refine tk 2 (v := ?_) rfl (by kernel_rfl) (by kernel_rfl) (by kernel_rfl) (fun _ _ _ h => h) rfl ?_ hHeld ?_; rotate_left; (focus (intro w hSw; (try dsimp only at hSw);  go_simp; (try with_reducible rfl))); (try simp only [Act.put, List.setIfInBounds_toArray, List.set_cons_zero, List.set_cons_succ])
              refine tk 3 (v := ?_) rfl (by kernel_rfl) (by kernel_rfl) (by kernel_rfl) (fun _ _ _ h => h) rfl ?_ hHeld ?_; rotate_left; (focus (intro w hSw; (try dsimp only at hSw); have z9 : ¬ (ln : Int) ≤ a := (by omega); go_simp; (try with_reducible rfl))); (try simp only [Act.put, List.setIfInBounds_toArray, List.set_cons_zero, List.set_cons_succ])
              refine tk 4 (v := ?_) rfl (by kernel_rfl) (by kernel_rfl) (by kernel_rfl) (fun _ _ _ h => h) rfl ?_ hHeld ?_; rotate_left; (focus (intro w hSw; (try dsimp only at hSw);  go_simp; (try with_reducible rfl))); (try simp only [Act.put, List.setIfInBounds_toArray, List.set_cons_zero, List.set_cons_succ])
              refine tk 5 (v := ?_) rfl (by kernel_rfl) (by kernel_rfl) (by kernel_rfl) (fun _ _ _ h => h) rfl ?_ hHeld ?_; rotate_left; (focus (intro w hSw; (try dsimp only at hSw);  go_simp; (try with_reducible rfl))); (try simp only [Act.put, List.setIfInBounds_toArray, List.set_cons_zero, List.set_cons_succ])
              refine tk 6 (v := ?_) rfl (by kernel_rfl) (by kernel_rfl) (by kernel_rfl) (fun _ _ _ h => h) rfl ?_ hHeld ?_; rotate_left; (focus (intro w hSw; (try dsimp only at hSw);  go_simp; (try with_reducible rfl))); (try simp only [Act.put, List.setIfInBounds_toArray, List.set_cons_zero, List.set_cons_succ])
              refine tk 7 (v := ?_) rfl (by kernel_rfl) (by kernel_rfl) (by kernel_rfl) (fun _ _ _ h => h) rfl ?_ hHeld ?_; rotate_left; (focus (intro w hSw; (try dsimp only at hSw); have z1 : (0 : Int) ≤ a := (by omega); have z2 : (a : Int) < ln := (by omega); have z3 : a < ln := c2; have z4 : (0 : Nat) ≤ a := Nat.zero_le _; go_simp; (try with_reducible rfl))); (try simp only [Act.put, List.setIfInBounds_toArray, List.set_cons_zero, List.set_cons_succ])
              refine tk 8 (v := ?_) rfl (by kernel_rfl) (by kernel_rfl) (by kernel_rfl) (fun _ _ _ h => h) rfl ?_ hHeld ?_; rotate_left; (focus (intro w hSw; (try dsimp only at hSw);  go_simp; (try with_reducible rfl))); (try simp only [Act.put, List.setIfInBounds_toArray, List.set_cons_zero, List.set_cons_succ])
              refine tk 9 (v := ?_) rfl (by kernel_rfl) (by kernel_rfl) (by kernel_rfl) (fun _ _ _ h => h) rfl ?_ hHeld ?_; rotate_left; (focus (intro w hSw; (try dsimp only at hSw); have y0 : w.cell? ⟨g, a * 342, none⟩ = some (.int .i64 (i : Int)) := hSw.2.ntk a _ C3.out (by omega) 0 (by omega); go_simp; (try with_reducible rfl))); (try simp only [Act.put, List.setIfInBounds_toArray, List.set_cons_zero, List.set_cons_succ])
              refine tk 10 (v := ?_) rfl (by kernel_rfl) (by kernel_rfl) (by kernel_rfl) (fun _ _ _ h => h) rfl ?_ hHeld ?_; rotate_left; (focus (intro w hSw; (try dsimp only at hSw);  go_simp; (try with_reducible rfl))); (try simp only [Act.put, List.setIfInBounds_toArray, List.set_cons_zero, List.set_cons_succ])
              refine tk 11 (v := ?_) rfl (by kernel_rfl) (by kernel_rfl) (by kernel_rfl) (fun _ _ _ h => h) rfl ?_ hHeld ?_; rotate_left; (focus (intro w hSw; (try dsimp only at hSw);  go_simp; (try with_reducible rfl))); (try simp only [Act.put, List.setIfInBounds_toArray, List.set_cons_zero, List.set_cons_succ])
              refine tk 12 (v := ?_) rfl (by kernel_rfl) (by kernel_rfl) (by kernel_rfl) (fun _ _ _ h => h) rfl ?_ hHeld ?_; rotate_left; (focus (intro w hSw; (try dsimp only at hSw);  go_simp; (try with_reducible rfl))); (try simp only [Act.put, List.setIfInBounds_toArray, List.set_cons_zero, List.set_cons_succ])
              refine tk 13 (v := ?_) rfl (by kernel_rfl) (by kernel_rfl) (by kernel_rfl) (fun _ _ _ h => h) rfl ?_ hHeld ?_; rotate_left; (focus (intro w hSw; (try dsimp only at hSw);  go_simp; (try with_reducible rfl))); (try simp only [Act.put, List.setIfInBounds_toArray, List.set_cons_zero, List.set_cons_succ])
              refine tk 14 (v := ?_) rfl (by kernel_rfl) (by kernel_rfl) (by kernel_rfl) (fun _ _ _ h => h) rfl ?_ hHeld ?_; rotate_left; (focus (intro w hSw; (try dsimp only at hSw);  go_simp; (try with_reducible rfl))); (try simp only [Act.put, List.setIfInBounds_toArray, List.set_cons_zero, List.set_cons_succ])
              refine tk 15 (v := ?_) rfl (by kernel_rfl) (by kernel_rfl) (by kernel_rfl) (fun _ _ _ h => h) rfl ?_ hHeld ?_; rotate_left; (focus (intro w hSw; (try dsimp only at hSw);  go_simp; (try with_reducible rfl))); (try simp only [Act.put, List.setIfInBounds_toArray, List.set_cons_zero, List.set_cons_succ])
              refine tk 16 (v := ?_) rfl (by kernel_rfl) (by kernel_rfl) (by kernel_rfl) (fun _ _ _ h => h) rfl ?_ hHeld ?_; rotate_left; (focus (intro w hSw; (try dsimp only at hSw); have z1 : (0 : Int) ≤ a := (by omega); have z2 : (a : Int) < ln := (by omega); have z3 : a < ln := c2; have z4 : (0 : Nat) ≤ a := Nat.zero_le _; go_simp; (try with_reducible rfl))); (try simp only [Act.put, List.setIfInBounds_toArray, List.set_cons_zero, List.set_cons_succ])
              refine tk 17 (v := ?_) rfl (by kernel_rfl) (by kernel_rfl) (by kernel_rfl) (fun _ _ _ h => h) rfl ?_ hHeld ?_; rotate_left; (focus (intro w hSw; (try dsimp only at hSw);  go_simp; (try with_reducible rfl))); (try simp only [Act.put, List.setIfInBounds_toArray, List.set_cons_zero, List.set_cons_succ])
              refine tk 18 (v := ?_) rfl (by kernel_rfl) (by kernel_rfl) (by kernel_rfl) (fun _ _ _ h => h) rfl ?_ hHeld ?_; rotate_left; (focus (intro w hSw; (try dsimp only at hSw); have y0 := (show w.cell? ⟨g, a * 342 + 4, none⟩ = some (.bool false) from hSw.2.ntk a _ C3.out (by omega) 4 (by omega)); go_simp; (try with_reducible rfl))); (try simp only [Act.put, List.setIfInBounds_toArray, List.set_cons_zero, List.set_cons_succ])
              refine tk 19 (v := ?_) rfl (by kernel_rfl) (by kernel_rfl) (by kernel_rfl) (fun _ _ _ h => h) rfl ?_ hHeld ?_; rotate_left; (focus (intro w hSw; (try dsimp only at hSw);  go_simp; (try with_reducible rfl))); (try simp only [Act.put, List.setIfInBounds_toArray, List.set_cons_zero, List.set_cons_succ])
              refine tk 20 (v := ?_) rfl (by kernel_rfl) (by kernel_rfl) (by kernel_rfl) (fun _ _ _ h => h) rfl ?_ hHeld ?_; rotate_left; (focus (intro w hSw; (try dsimp only at hSw);  go_simp; (try with_reducible rfl))); (try simp only [Act.put, List.setIfInBounds_toArray, List.set_cons_zero, List.set_cons_succ])
              refine tk 21 (v := ?_) rfl (by kernel_rfl) (by kernel_rfl) (by kernel_rfl) (fun _ _ _ h => h) rfl ?_ hHeld ?_; rotate_left; (focus (intro w hSw; (try dsimp only at hSw);  go_simp; (try with_reducible rfl))); (try simp only [Act.put, List.setIfInBounds_toArray, List.set_cons_zero, List.set_cons_succ])
              refine tk 22 (v := ?_) rfl (by kernel_rfl) (by kernel_rfl) (by kernel_rfl) (fun _ _ _ h => h) rfl ?_ hHeld ?_; rotate_left; (focus (intro w hSw; (try dsimp only at hSw);  go_simp; (try with_reducible rfl))); (try simp only [Act.put, List.setIfInBounds_toArray, List.set_cons_zero, List.set_cons_succ])
              refine tk 23 (v := ?_) rfl (by kernel_rfl) (by kernel_rfl) (by kernel_rfl) (fun _ _ _ h => h) rfl ?_ hHeld ?_; rotate_left; (focus (intro w hSw; (try dsimp only at hSw); have z1 : (0 : Int) ≤ a := (by omega); have z2 : (a : Int) < ln := (by omega); have z3 : a < ln := c2; have z4 : (0 : Nat) ≤ a := Nat.zero_le _; go_simp; (try with_reducible rfl))); (try simp only [Act.put, List.setIfInBounds_toArray, List.set_cons_zero, List.set_cons_succ])
              refine tk 24 (v := ?_) rfl (by kernel_rfl) (by kernel_rfl) (by kernel_rfl) (fun _ _ _ h => h) rfl ?_ hHeld ?_; rotate_left; (focus (intro w hSw; (try dsimp only at hSw);  go_simp; (try with_reducible rfl))); (try simp only [Act.put, List.setIfInBounds_toArray, List.set_cons_zero, List.set_cons_succ])
              refine tk 25 (v := ?_) rfl (by kernel_rfl) (by kernel_rfl) (by kernel_rfl) (fun _ _ _ h => h) rfl ?_ hHeld ?_; rotate_left; (focus (intro w hSw; (try dsimp only at hSw); have y0 := (show w.cell? ⟨g, a * 342 + 3, none⟩ = some (.bool true) from hSw.2.ntk a _ C3.out (by omega) 3 (by omega)); go_simp; (try with_reducible rfl))); (try simp only [Act.put, List.setIfInBounds_toArray, List.set_cons_zero, List.set_cons_succ])
              refine tk 26 (v := ?_) rfl (by kernel_rfl) (by kernel_rfl) (by kernel_rfl) (fun _ _ _ h => h) rfl ?_ hHeld ?_; rotate_left; (focus (intro w hSw; (try dsimp only at hSw);  go_simp; (try with_reducible rfl))); (try simp only [Act.put, List.setIfInBounds_toArray, List.set_cons_zero, List.set_cons_succ])
              refine tk 27 (v := ?_) rfl (by kernel_rfl) (by kernel_rfl) (by kernel_rfl) (fun _ _ _ h => h) rfl ?_ hHeld ?_; rotate_left; (focus (intro w hSw; (try dsimp only at hSw);  go_simp; (try with_reducible rfl))); (try simp only [Act.put, List.setIfInBounds_toArray, List.set_cons_zero, List.set_cons_succ])
              refine tk 28 (v := ?_) rfl (by kernel_rfl) (by kernel_rfl) (by kernel_rfl) (fun _ _ _ h => h) rfl ?_ hHeld ?_; rotate_left; (focus (intro w hSw; (try dsimp only at hSw);  go_simp; (try with_reducible rfl))); (try simp only [Act.put, List.setIfInBounds_toArray, List.set_cons_zero, List.set_cons_succ])
              refine tk 29 (v := ?_) rfl (by kernel_rfl) (by kernel_rfl) (by kernel_rfl) (fun _ _ _ h => h) rfl ?_ hHeld ?_; rotate_left; (focus (intro w hSw; (try dsimp only at hSw);  go_simp; (try with_reducible rfl))); (try simp only [Act.put, List.setIfInBounds_toArray, List.set_cons_zero, List.set_cons_succ])
              refine tk 30 (v := ?_) rfl (by kernel_rfl) (by kernel_rfl) (by kernel_rfl) (fun _ _ _ h => h) rfl ?_ hHeld ?_; rotate_left; (focus (intro w hSw; (try dsimp only at hSw);  go_simp; (try with_reducible rfl))); (try simp only [Act.put, List.setIfInBounds_toArray, List.set_cons_zero, List.set_cons_succ])
              refine tk 31 (v := ?_) rfl (by kernel_rfl) (by kernel_rfl) (by kernel_rfl) (fun _ _ _ h => h) rfl ?_ hHeld ?_; rotate_left; (focus (intro w hSw; (try dsimp only at hSw); have z1 : (0 : Int) ≤ a := (by omega); have z2 : (a : Int) < ln := (by omega); have z3 : a < ln := c2; have z4 : (0 : Nat) ≤ a := Nat.zero_le _; go_simp; (try with_reducible rfl))); (try simp only [Act.put, List.setIfInBounds_toArray, List.set_cons_zero, List.set_cons_succ])
              refine tk 32 (v := ?_) rfl (by kernel_rfl) (by kernel_rfl) (by kernel_rfl) (fun _ _ _ h => h) rfl ?_ hHeld ?_; rotate_left; (focus (intro w hSw; (try dsimp only at hSw);  go_simp; (try with_reducible rfl))); (try simp only [Act.put, List.setIfInBounds_toArray, List.set_cons_zero, List.set_cons_succ])
              refine tk 33 (v := ?_) rfl (by kernel_rfl) (by kernel_rfl) (by kernel_rfl) (fun _ _ _ h => h) rfl ?_ hHeld ?_; rotate_left; (focus (intro w hSw; (try dsimp only at hSw); have y0 := (show w.cell? ⟨g, a * 342 + 2, none⟩ = some (.int .i64 pv) from hSw.2.ntk a _ C3.out (by omega) 2 (by omega)); go_simp; (try with_reducible rfl))); (try simp only [Act.put, List.setIfInBounds_toArray, List.set_cons_zero, List.set_cons_succ])
              refine tk 34 (v := ?_) rfl (by kernel_rfl) (by kernel_rfl) (by kernel_rfl) (fun _ _ _ h => h) rfl ?_ hHeld ?_; rotate_left; (focus (intro w hSw; (try dsimp only at hSw);  go_simp; (try with_reducible rfl))); (try simp only [Act.put, List.setIfInBounds_toArray, List.set_cons_zero, List.set_cons_succ])
              refine tk 35 (v := ?_) rfl (by kernel_rfl) (by kernel_rfl) (by kernel_rfl) (fun _ _ _ h => h) rfl ?_ hHeld ?_; rotate_left; (focus (intro w hSw; (try dsimp only at hSw); have x0 := cp.out _ (hSw.1.fb 2 rfl); go_simp; (try with_reducible rfl))); (try simp only [Act.put, List.setIfInBounds_toArray, List.set_cons_zero, List.set_cons_succ])
              refine tk 36 (v := ?_) rfl (by kernel_rfl) (by kernel_rfl) (by kernel_rfl) (fun _ _ _ h => h) rfl ?_ hHeld ?_; rotate_left; (focus (intro w hSw; (try dsimp only at hSw);  go_simp; (try with_reducible rfl))); (try simp only [Act.put, List.setIfInBounds_toArray, List.set_cons_zero, List.set_cons_succ])
              refine tk 37 (v := ?_) rfl (by kernel_rfl) (by kernel_rfl) (by kernel_rfl) (fun _ _ _ h => h) rfl ?_ hHeld ?_; rotate_left; (focus (intro w hSw; (try dsimp only at hSw);  go_simp; (try with_reducible rfl))); (try simp only [Act.put, List.setIfInBounds_toArray, List.set_cons_zero, List.set_cons_succ])
              refine tk 38 (v := ?_) rfl (by kernel_rfl) (by kernel_rfl) (by kernel_rfl) (fun _ _ _ h => h) rfl ?_ hHeld ?_; rotate_left; (focus (intro w hSw; (try dsimp only at hSw);  go_simp; (try with_reducible rfl))); (try simp only [Act.put, List.setIfInBounds_toArray, List.set_cons_zero, List.set_cons_succ])
              refine tk 39 (v := ?_) rfl (by kernel_rfl) (by kernel_rfl) (by kernel_rfl) (fun _ _ _ h => h) rfl ?_ hHeld ?_; rotate_left; (focus (intro w hSw; (try dsimp only at hSw);  go_simp; (try with_reducible rfl))); (try simp only [Act.put, List.setIfInBounds_toArray, List.set_cons_zero, List.set_cons_succ])
              refine tk 40 (v := ?_) rfl (by kernel_rfl) (by kernel_rfl) (by kernel_rfl) (fun _ _ _ h => h) rfl ?_ hHeld ?_; rotate_left; (focus (intro w hSw; (try dsimp only at hSw);  go_simp; (try with_reducible rfl))); (try simp only [Act.put, List.setIfInBounds_toArray, List.set_cons_zero, List.set_cons_succ])
              refine tk 41 (v := ?_) rfl (by kernel_rfl) (by kernel_rfl) (by kernel_rfl) (fun _ _ _ h => h) rfl ?_ hHeld ?_; rotate_left; (focus (intro w hSw; (try dsimp only at hSw); have z1 : (0 : Int) ≤ a := (by omega); have z2 : (a : Int) < ln := (by omega); have z3 : a < ln := c2; have z4 : (0 : Nat) ≤ a := Nat.zero_le _; go_simp; (try with_reducible rfl))); (try simp only [Act.put, List.setIfInBounds_toArray, List.set_cons_zero, List.set_cons_succ])
              refine tk 42 (v := ?_) rfl (by kernel_rfl) (by kernel_rfl) (by kernel_rfl) (fun _ _ _ h => h) rfl ?_ hHeld ?_; rotate_left; (focus (intro w hSw; (try dsimp only at hSw);  go_simp; (try with_reducible rfl))); (try simp only [Act.put, List.setIfInBounds_toArray, List.set_cons_zero, List.set_cons_succ])
              refine tk 43 (v := .agg (FA 330 (pc p))) rfl (by kernel_rfl) (by kernel_rfl) (by kernel_rfl) (fun _ _ _ h => h) rfl (fun w hSw => ex_load rfl rfl (hSw.2.load (a * 342 + 12) 330 (pc p) (by omega) (fun j hj => nt_poolC l a _ C3.out j hj) Try.underlying33 rfl info_pl)) hHeld ?_; (try simp only [Act.put, List.setIfInBounds_toArray, List.set_cons_zero, List.set_cons_succ])
              refine tk 44 (v := .agg (FA 330 (pc p))) rfl (by kernel_rfl) (by kernel_rfl) (by kernel_rfl) (fun _ _ _ h => h) rfl (fun w hSw => ex_load rfl rfl ((hSw.1.fb 2 rfl).load 0 330 (pc p) (by omega) (fun j hj => by rw [Nat.zero_add]) Try.underlying33 rfl info_pl)) hHeld ?_; (try simp only [Act.put, List.setIfInBounds_toArray, List.set_cons_zero, List.set_cons_succ])
              refine tk 45 (v := .bool false) rfl (by kernel_rfl) (by kernel_rfl) (by kernel_rfl) (fun _ _ _ h => h) rfl (fun w hSw => ex_neqF _ _ rfl p rfl rfl w) hHeld ?_; (try simp only [Act.put, List.setIfInBounds_toArray, List.set_cons_zero, List.set_cons_succ])
              refine tk 46 (v := ?_) rfl (by kernel_rfl) (by kernel_rfl) (by kernel_rfl) (fun _ _ _ h => h) rfl ?_ hHeld ?_; rotate_left; (focus (intro w hSw; (try dsimp only at hSw);  go_simp; (try with_reducible rfl))); (try simp only [Act.put, List.setIfInBounds_toArray, List.set_cons_zero, List.set_cons_succ])
              have U3 := hid hHeld.1
              have GF3 := hid hHeld.2
              clear hHeld U2
              refine wpAnyH_done (by kernel_rfl) ?_ _
              go_wp2_with fail
              go_roundg (u - (i + 1))
              case rel => exact ⟨i + 1, a + 1, by omega, by omega, by omega, C1.out.symm, by go_num, by go_num, U3.out, fun _ => GF3.out⟩
              case measure => omega
            · rw [hb] at xh
              have C1 := hid (CTT.out i hiu hb)
              clear hb
              go_wp2_with fail
              go_roundg (u - (i + 1))
              case rel => exact ⟨i + 1, a, by omega, by omega, by omega, HAC.out.trans C1.out.symm, rfl, by go_num, U2.out, GF.out⟩
              case measure => omega
          · have hiu : i = u := by omega
            have x1 : ((a : Int) == (ln : Int)) = true := by have h1 := HAC.out; rw [hiu] at h1; have h2 := CTU.out; simp; omega
            have B9 := hid U2.out.bl
            go_wp2_with fail
            go_ret
            exact ⟨rfl, B9.out⟩
      · have hkn2 : k < n2 ∧ k < 20 := by have := HBB.out; simp at this; exact this
        obtain ⟨hl1, hl2⟩ := hkn2
        clear HBB
        have i1 : (k : Int) < n2 := by omega
        have i2 : (k : Int) < 20 := by omega
        have RR := hid (HR2.out _ _ U0.out)
        obtain ⟨bb, off, rfl⟩ := Sl.addr RR.out (by omega)
        have xc := Sl.at_ RR.out (j := k) (by omega)
        obtain ⟨gk, hgk⟩ : ∃ x, x = g2 k := ⟨_, rfl⟩
        rw [← hgk] at xc
        clear hgk
        obtain ⟨kk, hkk⟩ : ∃ x : Nat, (x : Int) = wi gk 1048576 := ⟨(wi gk 1048576).toNat, by have := wi_bd gk 1048576 (by omega); omega⟩
        have bkk := wi_bd gk 1048576 (by omega)
        rw [← hkk] at bkk
        have Wkk := hid (fun w => re_i64 (within_any gk 1048576 w (by omega) (by omega)) hkk.symm)
        clear hkk
        obtain ⟨bkk1, bkk2⟩ := bkk
        obtain ⟨ix, hix, hixu⟩ : ∃ ix : Nat, (kk : Int).tmod u = ix ∧ ix < u := ⟨kk % u, (Int.ofNat_tmod kk u).symm, Nat.mod_lt _ (by omega)⟩
        obtain ⟨k8, hk8⟩ : ∃ k8 : Nat, k8 = kk / 8 := ⟨_, rfl⟩
        have X8 := hid (show IntKind.i64.wrap ((kk : Int) / 8) = (k8 : Int) from by rw [IntWalk.i64_in _ (by omega)]; omega)
        clear hk8
        obtain ⟨d, hd, hd2⟩ : ∃ d : Nat, (k8 : Int).tmod 2 = d ∧ d < 2 := ⟨k8 % 2, (Int.ofNat_tmod k8 2).symm, by omega⟩
        obtain ⟨f', hf', hWS'⟩ := heardS (p := p) hixu hd2 hv1 HWS.out
        have HIX := hid hix
        have HDD := hid hd
        have HF' := hid hf'
        have HWS' := hid hWS'
        clear hix hd hf' hWS' HWS
        go_wp2_with fail
        refine (Wkk.out _).mono ?_
        rintro x w_ ⟨rfl, rfl⟩
        go_simp
        clear xc
        go_upto_region 13 with (fail)
        refine wp_region_held_drew (S := fun (w' : World) => ∃ n f, HS [] W w' [thB H 16 (fun j => .bool (hs j)), thH b c m n (hS p u f), thB P 330 (pc p)]) (by kernel_rfl) ?_ (fun hHeld => ?_)
        · exact ⟨_, _, U0.out.drew⟩
        have F0 := U0.out.drew
        refine tk 0 (v := ?_) rfl (by kernel_rfl) (by kernel_rfl) (by kernel_rfl) (fun _ _ _ h => h) rfl ?_ hHeld ?_; rotate_left; (focus (intro w hSw; (try dsimp only at hSw);  go_simp; (try with_reducible rfl))); (try simp only [Act.put, List.setIfInBounds_toArray, List.set_cons_zero, List.set_cons_succ])
        refine tk 1 (v := ?_) rfl (by kernel_rfl) (by kernel_rfl) (by kernel_rfl) (fun _ _ _ h => h) rfl ?_ hHeld ?_; rotate_left; (focus (intro w hSw; (try dsimp only at hSw);  go_simp; (try with_reducible rfl))); (try simp only [Act.put, List.setIfInBounds_toArray, List.set_cons_zero, List.set_cons_succ])
        refine tk 2 (v := ?_) rfl (by kernel_rfl) (by kernel_rfl) (by kernel_rfl) (fun _ _ _ h => h) rfl ?_ hHeld ?_; rotate_left; (focus (intro w hSw; (try dsimp only at hSw);  go_simp; (try with_reducible rfl))); (try simp only [Act.put, List.setIfInBounds_toArray, List.set_cons_zero, List.set_cons_succ])
        refine tk 3 (v := ?_) rfl (by kernel_rfl) (by kernel_rfl) (by kernel_rfl) (fun _ _ _ h => h) rfl ?_ hHeld ?_; rotate_left; (focus (intro w hSw; (try dsimp only at hSw); have z2 : ¬ u = 0 := (by omega); have z3 : ¬ (u : Int) = 0 := (by omega); have z1 : ((u : Int) == 0) = false := beq_eq_false_iff_ne.2 (by omega); have e1 := HIX.out; go_simp; (try with_reducible rfl))); (try simp only [Act.put, List.setIfInBounds_toArray, List.set_cons_zero, List.set_cons_succ])
        refine tk 4 (v := ?_) rfl (by kernel_rfl) (by kernel_rfl) (by kernel_rfl) (fun _ _ _ h => h) rfl ?_ hHeld ?_; rotate_left; (focus (intro w hSw; (try dsimp only at hSw);  go_simp; (try with_reducible rfl))); (try simp only [Act.put, List.setIfInBounds_toArray, List.set_cons_zero, List.set_cons_succ])
        refine tk 5 (v := ?_) rfl (by kernel_rfl) (by kernel_rfl) (by kernel_rfl) (fun _ _ _ h => h) rfl ?_ hHeld ?_; rotate_left; (focus (intro w hSw; (try dsimp only at hSw); obtain ⟨_, _, hSw⟩ := hSw; have x0 := cp.out _ (hSw.fb 2 rfl); go_simp; (try with_reducible rfl))); (try simp only [Act.put, List.setIfInBounds_toArray, List.set_cons_zero, List.set_cons_succ])
        refine tk 6 (v := ?_) rfl (by kernel_rfl) (by kernel_rfl) (by kernel_rfl) (fun _ _ _ h => h) rfl ?_ hHeld ?_; rotate_left; (focus (intro w hSw; (try dsimp only at hSw);  go_simp; (try with_reducible rfl))); (try simp only [Act.put, List.setIfInBounds_toArray, List.set_cons_zero, List.set_cons_succ])
        refine tk 7 (v := ?_) rfl (by kernel_rfl) (by kernel_rfl) (by kernel_rfl) (fun _ _ _ h => h) rfl ?_ hHeld ?_; rotate_left; (focus (intro w hSw; (try dsimp only at hSw); have x8 := X8.out; go_simp; (try with_reducible rfl))); (try simp only [Act.put, List.setIfInBounds_toArray, List.set_cons_zero, List.set_cons_succ])
        refine tk 8 (v := ?_) rfl (by kernel_rfl) (by kernel_rfl) (by kernel_rfl) (fun _ _ _ h => h) rfl ?_ hHeld ?_; rotate_left; (focus (intro w hSw; (try dsimp only at hSw); have e1 := HDD.out; go_simp; (try with_reducible rfl))); (try simp only [Act.put, List.setIfInBounds_toArray, List.set_cons_zero, List.set_cons_succ])
        refine tk 9 (v := ?_) rfl (by kernel_rfl) (by kernel_rfl) (by kernel_rfl) (fun _ _ _ h => h) rfl ?_ hHeld ?_; rotate_left; (focus (intro w hSw; (try dsimp only at hSw); have x9 : IntKind.i64.wrap (pv - (d : Int)) = pv - d := IntWalk.i64_in _ (by omega); go_simp; (try with_reducible rfl))); (try simp only [Act.put, List.setIfInBounds_toArray, List.set_cons_zero, List.set_cons_succ])
        refine tk 10 (v := .agg (FA 342 (ntc ⟨(ix : Int), 0, pv - d, false, true, zEn, zPl⟩))) rfl (by kernel_rfl) (by kernel_rfl) (by kernel_rfl) (fun _ _ _ h => h) rfl (fun w hSw => ex_build3 rfl rfl rfl rfl (build_nt024F _ _ w)) hHeld ?_; (try simp only [Act.put, List.setIfInBounds_toArray, List.set_cons_zero, List.set_cons_succ])
        refine only 11 rfl (by kernel_rfl) rfl (fun K hK => ?_)
        go_simp
        refine (heard_fa (F0.nth 1 rfl : HeadAt _ b c m n (hS p u f)) ⟨(ix : Int), 0, pv - d, false, true, zEn, zPl⟩ (show u ≤ 16 by omega) (by omega) (hS p u f') HF'.out).mono ?_
        rintro e' w' ⟨rfl, hH, hC⟩
        try go_wp2_with fail
        have hN : HS [] W w' [thB H 16 (fun j => .bool (hs j)), thH b c m (n + 1) (hS p u f'), thB P 330 (pc p)] := HS.upd (A := [thB H 16 (fun j => .bool (hs j))]) (B := [thB P 330 (pc p)]) F0 (thH b c m (n + 1) (hS p u f')) rfl hC hH
        clear hH hC F0
        refine hK.out _ _ (⟨_, _, hN⟩) (fun h2 => ?_)
        clear hK
        try simp only [Act.put, List.setIfInBounds_toArray, List.set_cons_zero, List.set_cons_succ]
        have U5 := hid hN
        clear h2 hHeld U0 hN
        refine wpAnyH_done (by kernel_rfl) ?_ _
        go_wp2_with fail
        go_upto_region 14 with (fail)
        have xh0 := hid (show ∀ w, Fb w H 16 (fun j => .bool (hs j)) → w.cell? ⟨H, ix, none⟩ = some (.bool (hs ix)) from fun w h => h.2.1 ix (by omega))
        cases hbi : hs ix
        · rw [hbi] at xh0 HWS'
          clear hbi
          have XH := xh0
          clear xh0
          refine wp_region_held_drew (S := fun (w' : World) => ∃ g, HS [] W w' (thB H 16 g :: [thH b c m (n + 1) (hS p u f'), thB P 330 (pc p)])) (by kernel_rfl) ?_ (fun hHeld => ?_)
          · exact ⟨_, U5.out.drew⟩
          have F0 := U5.out.drew
          refine tk 0 (v := ?_) rfl (by kernel_rfl) (by kernel_rfl) (by kernel_rfl) (fun _ _ _ h => h) rfl ?_ hHeld ?_; rotate_left; (focus (intro w hSw; (try dsimp only at hSw);  go_simp; (try with_reducible rfl))); (try simp only [Act.put, List.setIfInBounds_toArray, List.set_cons_zero, List.set_cons_succ])
          refine tk 1 (v := ?_) rfl (by kernel_rfl) (by kernel_rfl) (by kernel_rfl) (fun _ _ _ h => h) rfl ?_ hHeld ?_; rotate_left; (focus (intro w hSw; (try dsimp only at hSw);  go_simp; (try with_reducible rfl))); (try simp only [Act.put, List.setIfInBounds_toArray, List.set_cons_zero, List.set_cons_succ])
          refine tk 2 (v := ?_) rfl (by kernel_rfl) (by kernel_rfl) (by kernel_rfl) (fun _ _ _ h => h) rfl ?_ hHeld ?_; rotate_left; (focus (intro w hSw; (try dsimp only at hSw); have z2 : ¬ u = 0 := (by omega); have z3 : ¬ (u : Int) = 0 := (by omega); have z1 : ((u : Int) == 0) = false := beq_eq_false_iff_ne.2 (by omega); have e1 := HIX.out; go_simp; (try with_reducible rfl))); (try simp only [Act.put, List.setIfInBounds_toArray, List.set_cons_zero, List.set_cons_succ])
          refine tk 3 (v := ?_) rfl (by kernel_rfl) (by kernel_rfl) (by kernel_rfl) (fun _ _ _ h => h) rfl ?_ hHeld ?_; rotate_left; (focus (intro w hSw; (try dsimp only at hSw);  go_simp; (try with_reducible rfl))); (try simp only [Act.put, List.setIfInBounds_toArray, List.set_cons_zero, List.set_cons_succ])
          refine tk 4 (v := ?_) rfl (by kernel_rfl) (by kernel_rfl) (by kernel_rfl) (fun _ _ _ h => h) rfl ?_ hHeld ?_; rotate_left; (focus (intro w hSw; (try dsimp only at hSw);  go_simp; (try with_reducible rfl))); (try simp only [Act.put, List.setIfInBounds_toArray, List.set_cons_zero, List.set_cons_succ])
          refine tk 5 (v := ?_) rfl (by kernel_rfl) (by kernel_rfl) (by kernel_rfl) (fun _ _ _ h => h) rfl ?_ hHeld ?_; rotate_left; (focus (intro w hSw; (try dsimp only at hSw); have z2 : ¬ u = 0 := (by omega); have z3 : ¬ (u : Int) = 0 := (by omega); have z1 : ((u : Int) == 0) = false := beq_eq_false_iff_ne.2 (by omega); have e1 := HIX.out; go_simp; (try with_reducible rfl))); (try simp only [Act.put, List.setIfInBounds_toArray, List.set_cons_zero, List.set_cons_succ])
          refine tk 6 (v := ?_) rfl (by kernel_rfl) (by kernel_rfl) (by kernel_rfl) (fun _ _ _ h => h) rfl ?_ hHeld ?_; rotate_left; (focus (intro w hSw; (try dsimp only at hSw); have z1 : (0 : Int) ≤ ix := (by omega); have z2 : (ix : Int) < 16 := (by omega); have z3 : ix < 16 := (by omega); have z4 : (0 : Nat) ≤ ix := Nat.zero_le _; go_simp; (try with_reducible rfl))); (try simp only [Act.put, List.setIfInBounds_toArray, List.set_cons_zero, List.set_cons_succ])
          have y0 := XH.out _ (F0.fb 0 rfl)
          refine only 7 rfl (by kernel_rfl) rfl (fun K hK => ?_)
          refine ov_val (v := .bool false) (by go_simp) ?_
          refine hK.out _ _ (⟨_, F0⟩) (fun h2 => ?_)
          clear hK
          try simp only [Act.put, List.setIfInBounds_toArray, List.set_cons_zero, List.set_cons_succ]
          clear y0 hHeld
          refine tk 8 (v := ?_) rfl (by kernel_rfl) (by kernel_rfl) (by kernel_rfl) (fun _ _ _ h => h) rfl ?_ h2 ?_; rotate_left; (focus (intro w hSw; (try dsimp only at hSw);  go_simp; (try with_reducible rfl))); (try simp only [Act.put, List.setIfInBounds_toArray, List.set_cons_zero, List.set_cons_succ])
          refine tk 9 (v := ?_) rfl (by kernel_rfl) (by kernel_rfl) (by kernel_rfl) (fun _ _ _ h => h) rfl ?_ h2 ?_; rotate_left; (focus (intro w hSw; (try dsimp only at hSw);  go_simp; (try with_reducible rfl))); (try simp only [Act.put, List.setIfInBounds_toArray, List.set_cons_zero, List.set_cons_succ])
          refine tk 10 (v := ?_) rfl (by kernel_rfl) (by kernel_rfl) (by kernel_rfl) (fun _ _ _ h => h) rfl ?_ h2 ?_; rotate_left; (focus (intro w hSw; (try dsimp only at hSw); have x8 := X8.out; go_simp; (try with_reducible rfl))); (try simp only [Act.put, List.setIfInBounds_toArray, List.set_cons_zero, List.set_cons_succ])
          refine tk 11 (v := ?_) rfl (by kernel_rfl) (by kernel_rfl) (by kernel_rfl) (fun _ _ _ h => h) rfl ?_ h2 ?_; rotate_left; (focus (intro w hSw; (try dsimp only at hSw); have e1 := HDD.out; go_simp; (try with_reducible rfl))); (try simp only [Act.put, List.setIfInBounds_toArray, List.set_cons_zero, List.set_cons_succ])
          refine tk 12 (v := ?_) rfl (by kernel_rfl) (by kernel_rfl) (by kernel_rfl) (fun _ _ _ h => h) rfl ?_ h2 ?_; rotate_left; (focus (intro w hSw; (try dsimp only at hSw);  go_simp; (try with_reducible rfl))); (try simp only [Act.put, List.setIfInBounds_toArray, List.set_cons_zero, List.set_cons_succ])
          refine tk 13 (v := ?_) rfl (by kernel_rfl) (by kernel_rfl) (by kernel_rfl) (fun _ _ _ h => h) rfl ?_ h2 ?_; rotate_left; (focus (intro w hSw; (try dsimp only at hSw);  go_simp; (try with_reducible rfl))); (try simp only [Act.put, List.setIfInBounds_toArray, List.set_cons_zero, List.set_cons_succ])
          refine tk 14 (v := ?_) rfl (by kernel_rfl) (by kernel_rfl) (by kernel_rfl) (fun _ _ _ h => h) rfl ?_ h2 ?_; rotate_left; (focus (intro w hSw; (try dsimp only at hSw); have z1 : (0 : Int) ≤ ix := (by omega); have z2 : (ix : Int) < 16 := (by omega); have z3 : ix < 16 := (by omega); have z4 : (0 : Nat) ≤ ix := Nat.zero_le _; go_simp; (try with_reducible rfl))); (try simp only [Act.put, List.setIfInBounds_toArray, List.set_cons_zero, List.set_cons_succ])
          refine only 15 rfl (by kernel_rfl) rfl (fun K hK => ?_)
          refine ow_storeB (A := []) ix (false || ((d : Int) == 0)) (fun j => .bool (setB hs ix (false || ((d : Int) == 0)) j)) rfl rfl rfl F0 (by omega) (fun j _ => patchB _ _ _ _) (fun w3 hN => ?_)
          refine hK.out _ _ (⟨_, hN⟩) (fun h3 => ?_)
          clear hK
          try simp only [Act.put, List.setIfInBounds_toArray, List.set_cons_zero, List.set_cons_succ]
          have U6 := hid hN
          clear h3 h2 hN F0 U5
          refine wpAnyH_done (by kernel_rfl) ?_ _
          go_wp2_with fail
          go_roundg (20 - (k + 1))
          case rel => exact ⟨k + 1, n + 1, _, f', by omega, by omega, by omega, by omega, by go_num, HWS'.out, U6.out⟩
          case measure => omega
        · rw [hbi] at xh0 HWS'
          clear hbi
          have XH := xh0
          clear xh0
          refine wp_region_held_drew (S := fun (w' : World) => ∃ g, HS [] W w' (thB H 16 g :: [thH b c m (n + 1) (hS p u f'), thB P 330 (pc p)])) (by kernel_rfl) ?_ (fun hHeld => ?_)
          · exact ⟨_, U5.out.drew⟩
          have F0 := U5.out.drew
          refine tk 0 (v := ?_) rfl (by kernel_rfl) (by kernel_rfl) (by kernel_rfl) (fun _ _ _ h => h) rfl ?_ hHeld ?_; rotate_left; (focus (intro w hSw; (try dsimp only at hSw);  go_simp; (try with_reducible rfl))); (try simp only [Act.put, List.setIfInBounds_toArray, List.set_cons_zero, List.set_cons_succ])
          refine tk 1 (v := ?_) rfl (by kernel_rfl) (by kernel_rfl) (by kernel_rfl) (fun _ _ _ h => h) rfl ?_ hHeld ?_; rotate_left; (focus (intro w hSw; (try dsimp only at hSw);  go_simp; (try with_reducible rfl))); (try simp only [Act.put, List.setIfInBounds_toArray, List.set_cons_zero, List.set_cons_succ])
          refine tk 2 (v := ?_) rfl (by kernel_rfl) (by kernel_rfl) (by kernel_rfl) (fun _ _ _ h => h) rfl ?_ hHeld ?_; rotate_left; (focus (intro w hSw; (try dsimp only at hSw); have z2 : ¬ u = 0 := (by omega); have z3 : ¬ (u : Int) = 0 := (by omega); have z1 : ((u : Int) == 0) = false := beq_eq_false_iff_ne.2 (by omega); have e1 := HIX.out; go_simp; (try with_reducible rfl))); (try simp only [Act.put, List.setIfInBounds_toArray, List.set_cons_zero, List.set_cons_succ])
          refine tk 3 (v := ?_) rfl (by kernel_rfl) (by kernel_rfl) (by kernel_rfl) (fun _ _ _ h => h) rfl ?_ hHeld ?_; rotate_left; (focus (intro w hSw; (try dsimp only at hSw);  go_simp; (try with_reducible rfl))); (try simp only [Act.put, List.setIfInBounds_toArray, List.set_cons_zero, List.set_cons_succ])
          refine tk 4 (v := ?_) rfl (by kernel_rfl) (by kernel_rfl) (by kernel_rfl) (fun _ _ _ h => h) rfl ?_ hHeld ?_; rotate_left; (focus (intro w hSw; (try dsimp only at hSw);  go_simp; (try with_reducible rfl))); (try simp only [Act.put, List.setIfInBounds_toArray, List.set_cons_zero, List.set_cons_succ])
          refine tk 5 (v := ?_) rfl (by kernel_rfl) (by kernel_rfl) (by kernel_rfl) (fun _ _ _ h => h) rfl ?_ hHeld ?_; rotate_left; (focus (intro w hSw; (try dsimp only at hSw); have z2 : ¬ u = 0 := (by omega); have z3 : ¬ (u : Int) = 0 := (by omega); have z1 : ((u : Int) == 0) = false := beq_eq_false_iff_ne.2 (by omega); have e1 := HIX.out; go_simp; (try with_reducible rfl))); (try simp only [Act.put, List.setIfInBounds_toArray, List.set_cons_zero, List.set_cons_succ])
          refine tk 6 (v := ?_) rfl (by kernel_rfl) (by kernel_rfl) (by kernel_rfl) (fun _ _ _ h => h) rfl ?_ hHeld ?_; rotate_left; (focus (intro w hSw; (try dsimp only at hSw); have z1 : (0 : Int) ≤ ix := (by omega); have z2 : (ix : Int) < 16 := (by omega); have z3 : ix < 16 := (by omega); have z4 : (0 : Nat) ≤ ix := Nat.zero_le _; go_simp; (try with_reducible rfl))); (try simp only [Act.put, List.setIfInBounds_toArray, List.set_cons_zero, List.set_cons_succ])
          have y0 := XH.out _ (F0.fb 0 rfl)
          refine only 7 rfl (by kernel_rfl) rfl (fun K hK => ?_)
          refine ov_val (v := .bool true) (by go_simp) ?_
          refine hK.out _ _ (⟨_, F0⟩) (fun h2 => ?_)
          clear hK
          try simp only [Act.put, List.setIfInBounds_toArray, List.set_cons_zero, List.set_cons_succ]
          clear y0 hHeld
          refine tk 8 (v := ?_) rfl (by kernel_rfl) (by kernel_rfl) (by kernel_rfl) (fun _ _ _ h => h) rfl ?_ h2 ?_; rotate_left; (focus (intro w hSw; (try dsimp only at hSw);  go_simp; (try with_reducible rfl))); (try simp only [Act.put, List.setIfInBounds_toArray, List.set_cons_zero, List.set_cons_succ])
          refine tu 9 rfl (by kernel_rfl) (by kernel_rfl) (by kernel_rfl) (fun _ _ _ h => h) rfl h2 ?_; (try simp only [Act.put, List.setIfInBounds_toArray, List.set_cons_zero, List.set_cons_succ])
          refine tu 10 rfl (by kernel_rfl) (by kernel_rfl) (by kernel_rfl) (fun _ _ _ h => h) rfl h2 ?_; (try simp only [Act.put, List.setIfInBounds_toArray, List.set_cons_zero, List.set_cons_succ])
          refine tu 11 rfl (by kernel_rfl) (by kernel_rfl) (by kernel_rfl) (fun _ _ _ h => h) rfl h2 ?_; (try simp only [Act.put, List.setIfInBounds_toArray, List.set_cons_zero, List.set_cons_succ])
          refine tu 12 rfl (by kernel_rfl) (by kernel_rfl) (by kernel_rfl) (fun _ _ _ h => h) rfl h2 ?_; (try simp only [Act.put, List.setIfInBounds_toArray, List.set_cons_zero, List.set_cons_succ])
          refine tk 13 (v := ?_) rfl (by kernel_rfl) (by kernel_rfl) (by kernel_rfl) (fun _ _ _ h => h) rfl ?_ h2 ?_; rotate_left; (focus (intro w hSw; (try dsimp only at hSw);  go_simp; (try with_reducible rfl))); (try simp only [Act.put, List.setIfInBounds_toArray, List.set_cons_zero, List.set_cons_succ])
          refine tk 14 (v := ?_) rfl (by kernel_rfl) (by kernel_rfl) (by kernel_rfl) (fun _ _ _ h => h) rfl ?_ h2 ?_; rotate_left; (focus (intro w hSw; (try dsimp only at hSw); have z1 : (0 : Int) ≤ ix := (by omega); have z2 : (ix : Int) < 16 := (by omega); have z3 : ix < 16 := (by omega); have z4 : (0 : Nat) ≤ ix := Nat.zero_le _; go_simp; (try with_reducible rfl))); (try simp only [Act.put, List.setIfInBounds_toArray, List.set_cons_zero, List.set_cons_succ])
          refine only 15 rfl (by kernel_rfl) rfl (fun K hK => ?_)
          refine ow_storeB (A := []) ix (true || ((d : Int) == 0)) (fun j => .bool (setB hs ix (true || ((d : Int) == 0)) j)) rfl rfl rfl F0 (by omega) (fun j _ => patchB _ _ _ _) (fun w3 hN => ?_)
          refine hK.out _ _ (⟨_, hN⟩) (fun h3 => ?_)
          clear hK
          try simp only [Act.put, List.setIfInBounds_toArray, List.set_cons_zero, List.set_cons_succ]
          have U6 := hid hN
          clear h3 h2 hN F0 U5
          refine wpAnyH_done (by kernel_rfl) ?_ _
          go_wp2_with fail
          go_roundg (20 - (k + 1))
          case rel => exact ⟨k + 1, n + 1, _, f', by omega, by omega, by omega, by omega, by go_num, HWS'.out, U6.out⟩
          case measure => omega

set_option maxRecDepth 100000 in
theorem lifted (os : Os) (started : os.Started) (H : Type) (enc : TypeId × Value → H) :
    ReturnsInHanded {} Try.checked os 5 .any (Rows.headSendsSpec.pre6 enc Try.prog Try.f5 [] false) (Rows.headSendsSpec.post enc Try.prog Try.f5 false true false false) :=
  law_step (s := Rows.headSendsSpec) started (by kernel_rfl) Try.func5
    (ChangeSpec.witness6 (s := Rows.headSendsSpec) (enc := enc) (C := Try.checked) false ⟨#[], #[.slice none 0 0, .int .i64 0, .slice none 0 0], []⟩ 8 (by kernel_rfl) (by kernel_rfl) (by kernel_rfl) (by kernel_rfl))
    rfl (by rw [Try.params5]; decide +kernel) rfl Try.underlying4
    (fun ds h => by
      rw [Try.params5] at h
      match ds, h with
      | [_, _, _], _ => rfl)
    (fun W base args ds ps hval hA hsz => by
      rw [Try.params5] at hA hval hsz
      obtain ⟨v0, vs0, d0, ds0, p0, q0, hargs, rfl, rfl, h0, r0⟩ := trodAll_cons hA
      obtain ⟨v1, vs1, d1, ds1, p1, q1, rfl, rfl, rfl, h1, r1⟩ := trodAll_cons r0
      obtain ⟨v2, vs2, d2, ds2, p2, q2, rfl, rfl, rfl, h2, r2⟩ := trodAll_cons r1
      obtain ⟨rfl, rfl, rfl⟩ := trodAll_nil r2
      obtain rfl : args = #[v0, v1, v2] := by cases args; simp_all
      obtain ⟨A0, n0, c0, g0, rfl, hn0, hc0, hs0, hw0, hl0, hd0⟩ := open_row Try.underlying22 Try.underlying3 (by kernel_rfl) (hval 0 22 v0 rfl rfl) h0
      have re0 : c0 * 8 ≤ 140737488351232 := by
        rcases hd0 with ⟨_, h0⟩ | ⟨xs, ys, h1, h2⟩
        · omega
        · have := sized_slice hsz (j := 0) (t := 22) (e := 3) rfl (by rw [h1]; rfl) Try.underlying22
          rw [h2, show Try.prog.bytesOf 3 = 8 from by kernel_rfl] at this
          simpa [reachBytes] using this
      obtain ⟨a1, rfl, rfl, rfl, w1⟩ := open_int Try.underlying3 (hval 1 3 v1 rfl rfl) h1
      obtain ⟨A2, n2, c2, g2, rfl, hn2, hc2, hs2, hw2, hl2, hd2⟩ := open_row Try.underlying22 Try.underlying3 (by kernel_rfl) (hval 2 22 v2 rfl rfl) h2
      have re2 : c2 * 8 ≤ 140737488351232 := by
        rcases hd2 with ⟨_, h0⟩ | ⟨xs, ys, h1, h2⟩
        · omega
        · have := sized_slice hsz (j := 2) (t := 22) (e := 3) rfl (by rw [h1]; rfl) Try.underlying22
          rw [h2, show Try.prog.bytesOf 3 = 8 from by kernel_rfl] at this
          simpa [reachBytes] using this
      exact walk W A0 n0 c0 g0 hn0 hc0 hs0 (fun j => bounds_i64 (hw0 j)) hl0 re0 a1 (bounds_i64 w1) A2 n2 c2 g2 hn2 hc2 hs2 (fun j => bounds_i64 (hw2 j)) hl2 re2)

theorem proved : Rows.HeadSendsSaid :=
  OpenClaim.holds_of_wide 5 Try.f5 rfl rfl rfl rfl rfl rfl rfl ⟨rfl, rfl, rfl, rfl, rfl⟩ rfl rfl rfl rfl rfl (by kernel_rfl) Try.func5 (by kernel_rfl)
    (of_decide_eq_true (by kernel_rfl)) (by unfold Func.isWrapper; first | (rw [if_pos (by decide +kernel)]; kernel_rfl) | (rw [if_neg (by decide +kernel)]; exact ⟨rfl, rfl⟩))
    (fun os started H enc _ => lifted os started H enc)
end Go.Proofs.Ytppcanaelagfmaa.headSends
