/- roundhouselaw11.HeadDeaf answers true for every two rows, any number; no condition. -/
import Derived.Test.YtppcanaelagfmaaHdKnown
import Derived.BigQuiet
import Derived.Deep.RegionHeld3
import Derived.Deep.Cut
import Derived.Deep.CutRange
import Derived.IntWalk
namespace Go.Proofs.Ytppcanaelagfmaa.headDeaf
set_option linter.unusedVariables false
set_option linter.unusedSimpArgs false
open Go.RowKit Go.ChangeShapes Go.WideShapes Go.ChangeAt

def eR (j : Nat) : En := ⟨6, 0, 0, 0, 0, ⟨j, 0⟩⟩
def rp (p : Pl) : Nat → Pl
  | 0 => p
  | j + 1 => nxP (rp p j) (eR j)
theorem rp_inv {p : Pl} (h : Pinv p 30) : ∀ j : Nat, Pinv (rp p j) (30 + j)
  | 0 => h
  | j + 1 => (nxP_inv (rp_inv h j) (eR j) (show (0 : Int).toNat < 64 by decide)).mono (by omega)
def hB (p : Pl) (u j : Nat) (f : Nat → Wd) : Hd := ⟨p, rp p j, (List.range j).map eR, zEn, u, f⟩
theorem wishB (p : Pl) (j : Nat) : AllOut (rp p j) (gl [eR j]) 1 (rp p (j + 1)) 1 0 := by
  refine ⟨?_, .inl ⟨rfl, rfl⟩⟩
  have h1 : runP (rp p j) (gl [eR j]) 1 = if (apR (rp p j) (eR j)).2 = 0 then some (apR (rp p j) (eR j)).1 else none := rfl
  rw [h1, show apR (rp p j) (eR j) = (nxP (rp p j) (eR j), 0) from q_rot _ _]
  rfl
theorem sB {p : Pl} {u j w : Nat} {f : Nat → Wd} (hw : w < u) (hf : f w = ⟨0, -1⟩) (hv : 0 ≤ p.v) : sendH (hB p u j f) = hB p u j f := by
  unfold sendH
  rw [show allB (hB p u j f) = false from all_no (hB p u j f) w u hw (by show ¬ (f w).v = p.v; rw [hf]; show ¬ (-1 : Int) = p.v; omega)]
  rfl
theorem heardB {p : Pl} {u j k : Nat} {f : Nat → Wd} {pv : Int} (hp : p.v = pv) (hk : k < u) (hf : f k = ⟨0, -1⟩ ∨ f k = ⟨0, pv⟩) (hv : 0 ≤ pv) : heardH (hB p u j f) ⟨(k : Int), 0, pv, false, true, zEn, zPl⟩ = hB p u j (setW f k ⟨0, pv⟩) := by
  have h1 : mx pv = pv := by unfold mx; rw [if_neg (by omega)]
  have h2 : (k : Int) < u := by omega
  have h3 : (0 : Int) ≤ k := by omega
  unfold heardH earB hB
  simp only [h2, h3, h1, decide_true, Bool.and_self, if_true, Int.toNat_natCast]
  rcases hf with hf | hf
  · rw [hf, if_pos (by unfold cntB; simp; omega)]
  · rw [hf, if_neg (by unfold cntB; simp)]
    have : setW f k ⟨0, pv⟩ = f := by
      funext x
      unfold setW
      by_cases e : x = k
      · rw [if_pos e, e, hf]
      · rw [if_neg e]
    rw [this]

theorem build_nt5F (u v : Int) (wh : Bool) (w : World) : (Instr.build 58 #[(0, .int .i64 u), (1, .int .i64 0), (2, .int .i64 v), (4, .bool true), (3, .bool wh)]).run Try.prog w = .ok (.agg (FA 342 (ntc ⟨u, 0, v, wh, true, zEn, zPl⟩))) w := run_build w _ _ _ (by kernel_rfl)
theorem nt_s4 (n : Nt) (x : Bool) (j : Nat) (hj : j < 342) : patch (ntc n) 4 1 (fun _ => .bool x) j = ntc { n with ak := x } j := by
  unfold patch ntc
  by_cases h : 4 ≤ j ∧ j < 4 + 1
  · have : j = 4 := by omega
    subst this
    rfl
  · rw [if_neg h]
    by_cases h2 : j < 12
    · rw [if_pos h2, if_pos h2]
      rcases j with _ | _ | _ | _ | _ | j
      · rfl
      · rfl
      · rfl
      · rfl
      · omega
      · rfl
    · rw [if_neg h2, if_neg h2]
theorem nt_s0 (n : Nt) (x : Int) (j : Nat) (hj : j < 342) : patch (ntc n) 0 1 (fun _ => .int .i64 x) j = ntc { n with u := x } j := by
  unfold patch ntc
  by_cases h : 0 ≤ j ∧ j < 0 + 1
  · have : j = 0 := by omega
    subst this
    rfl
  · rw [if_neg h]
    by_cases h2 : j < 12
    · rw [if_pos h2, if_pos h2]
      rcases j with _ | _ | _ | _ | _ | j
      · omega
      · rfl
      · rfl
      · rfl
      · rfl
      · rfl
    · rw [if_neg h2, if_neg h2]
theorem nt_s1 (n : Nt) (x : Int) (j : Nat) (hj : j < 342) : patch (ntc n) 1 1 (fun _ => .int .i64 x) j = ntc { n with b := x } j := by
  unfold patch ntc
  by_cases h : 1 ≤ j ∧ j < 1 + 1
  · have : j = 1 := by omega
    subst this
    rfl
  · rw [if_neg h]
    by_cases h2 : j < 12
    · rw [if_pos h2, if_pos h2]
      rcases j with _ | _ | _ | _ | _ | j
      · rfl
      · omega
      · rfl
      · rfl
      · rfl
      · rfl
    · rw [if_neg h2, if_neg h2]
section
variable {S : List Nat} {W w : World} {A B : List Th} {Q : Exit → Act → World → Prop} {o : Oper} {a : Act} {K : Act → World → Prop}
theorem ow_storeI {x y : Operand} {b n : Nat} {f : Nat → Value} (off : Nat) (v : Int) (f' : Nat → Value) (ho : o.op = .store 3 x y) (hx : a.eval x = .pointer (some ⟨b, off, none⟩)) (hy : a.eval y = .int .i64 v) (hS : HS S W w (A ++ thB b n f :: B)) (hok : off + 1 ≤ n) (hf : ∀ j, j < n → patch f off 1 (fun _ => .int .i64 v) j = f' j)
    (h : ∀ w', HS S W w' (A ++ thB b n f' :: B) → K (a.put o.dst undef) w') : o.wp Try.prog a w K Q := by
  have hF : Fb w b n f := hS.1 (thB b n f) (by simp)
  refine ov_store ho hx hy (w' := w.setCell ⟨b, off, none⟩ (.int .i64 v)) ?_ (h _ (hS.set off 1 (fun _ => .int .i64 v) hok f' hf))
  have c := hF.2.1 off (by omega)
  have z := hF.2.2 off
  go_simp
end
def f0 (_ : Nat) : Wd := ⟨0, -1⟩
def dH (p : Pl) (u : Nat) : Hd := hB p u 1 f0
theorem dA (p : Pl) (u : Nat) (nt : Nt) (h : nt.ak = false) : heardH (dH p u) nt = dH p u := by
  unfold heardH earB
  rw [h]
  rfl
theorem dU (p : Pl) (u : Nat) (nt : Nt) (h : nt.u < 0 ∨ (u : Int) ≤ nt.u) : heardH (dH p u) nt = dH p u := by
  have : earB (dH p u) nt = false := by
    unfold earB
    show (nt.ak && decide (0 ≤ nt.u) && decide (nt.u < (u : Int))) = false
    rcases h with h | h
    · rw [show decide (0 ≤ nt.u) = false by simp; omega]; simp
    · rw [show decide (nt.u < (u : Int)) = false by simp; omega]; simp
  unfold heardH
  rw [this]
  rfl
theorem dB (p : Pl) (u : Nat) (nt : Nt) (h : nt.b < 0) : heardH (dH p u) nt = dH p u := by
  unfold heardH
  split
  · have : cntB ((dH p u).wd nt.u.toNat) ⟨nt.b, mx nt.v⟩ = false := by
      show (decide ((0 : Int) < nt.b) || ((nt.b == 0) && decide ((-1 : Int) < mx nt.v))) = false
      rw [show decide ((0 : Int) < nt.b) = false by simp; omega, show (nt.b == 0) = false by simp; omega]
      rfl
    rw [this]
    rfl
  · rfl
theorem dN (p : Pl) (u : Nat) (hv : 0 ≤ p.v) : ∀ k : Nat, (notesK (dH p u) k).length = k
  | 0 => rfl
  | k + 1 => by
    rw [notesK_succ, if_pos (by show (-1 : Int) < p.v; omega), List.length_append, dN p u hv k]
    rfl
theorem dN0 (p : Pl) (u : Nat) (hv : 0 ≤ p.v) : ∀ k : Nat, (notesK (dH p u) (k + 1))[0]? = some ⟨0, 0, p.v, true, false, zEn, p⟩
  | 0 => by
    rw [notesK_succ, if_pos (by show (-1 : Int) < p.v; omega)]
    rfl
  | k + 1 => by
    rw [notesK_succ, if_pos (by show (-1 : Int) < p.v; omega), List.getElem?_append_left (by rw [dN p u hv]; omega)]
    exact dN0 p u hv k
theorem sD (p : Pl) (u : Nat) (hu : 1 ≤ u) (hv : 0 ≤ p.v) : sendH (dH p u) = dH p u := sB (w := 0) (by omega) rfl hv
theorem dN1 (p : Pl) (u : Nat) (hv : 0 ≤ p.v) (k : Nat) (hk : 1 ≤ k) : (notesK (dH p u) k)[0]? = some ⟨0, 0, p.v, true, false, zEn, p⟩ := by
  obtain ⟨j, rfl⟩ : ∃ j, k = j + 1 := ⟨k - 1, by omega⟩
  exact dN0 p u hv j
attribute [local irreducible] FA FL
set_option maxRecDepth 100000 in
set_option maxHeartbeats 8000000 in
theorem walk (W : World) (A1 : Option Addr) (n1 c1 : Nat) (g1 : Nat → Int) (hn1 : n1 ≤ c1) (hc1 : c1 ≤ maxLen) (hr1 : Is W A1 n1 g1) (hg1 : IsI g1) (hl1 : ∀ ad, A1 = some ad → 0 < n1 → ad.block < W.heap.size) (re1 : c1 * 8 ≤ 140737488351232) (a0 : Int) (r_a0 : -9223372036854775808 ≤ a0 ∧ a0 ≤ 9223372036854775807) (A2 : Option Addr) (n2 c2 : Nat) (g2 : Nat → Int) (hn2 : n2 ≤ c2) (hc2 : c2 ≤ maxLen) (hr2 : Is W A2 n2 g2) (hg2 : IsI g2) (hl2 : ∀ ad, A2 = some ad → 0 < n2 → ad.block < W.heap.size) (re2 : c2 * 8 ≤ 140737488351232) :
    Calls Try.prog 8 #[.slice A1 n1 c1, .int .i64 a0, .slice A2 n2 c2] W fun e w' => e = .returned (.bool true) ∧ Below W.heap.size W w' := by
  unfold maxLen at hc1
  have hnm : (n1 : Int) ≤ 9223372036854775807 := by have := hn1; omega
  have HL := hid hl1
  clear hl1 re1
  obtain ⟨p, hp⟩ : ∃ p, p = mkP g1 (min n1 30) := ⟨_, rfl⟩
  have HQ := hid (show Pinv p 30 from by rw [hp]; exact (mkP_inv g1 _).mono (by omega))
  have MK := hid (fun (w : World) (h : Is w A1 n1 g1) (hl : ∀ ad, A1 = some ad → 0 < n1 → ad.block < w.heap.size) => (show Calls Try.prog 13 #[.slice A1 n1 c1, .int .i64 30] w fun x w' => x = .returned (.agg (FA 330 (pc p))) ∧ Below w.heap.size w w' from by rw [hp]; exact make_fa w A1 n1 c1 g1 h hl hnm 30 (by omega)))
  clear hp
  obtain ⟨x0, hx0⟩ : ∃ x : Nat, (x : Int) = wi a0 5 := ⟨(wi a0 5).toNat, by have := wi_bd a0 5 (by omega); omega⟩
  have bx0 := wi_bd a0 5 (by omega)
  rw [← hx0] at bx0
  have Wx0 := hid (fun w => re_i64 (within_any a0 5 w (by omega) (by omega)) hx0.symm)
  clear hx0
  obtain ⟨bx01, bx02⟩ := bx0
  obtain ⟨u, hu⟩ : ∃ u : Nat, u = 1 + x0 := ⟨_, rfl⟩
  have hu1 : 1 ≤ u := by omega
  have hu2 : u ≤ 5 := by omega
  have HUX := hid (show (1 : Int) + x0 = u from by omega)
  obtain ⟨pv, hpv⟩ : ∃ x, p.v = x := ⟨_, rfl⟩
  have HPV := hid hpv
  have hv1 : 0 ≤ pv := by rw [← hpv]; exact HQ.out.1.1
  have hv2 : pv ≤ 30 := by rw [← hpv]; exact HQ.out.1.2
  clear hpv
  have HR2 := hid (show ∀ (w : World) (L : List Th), HS [] W w L → Is w A2 n2 g2 from fun w L h => hr2.below h.bl (Nat.le_refl _))
  have HG2 := hid hg2
  clear hr2 hl2 re2 hg2
  unfold maxLen at hc2
  have hnm2 : (n2 : Int) ≤ 9223372036854775807 := by have := hn2; omega
  have S0 : Hid (HS [] W W []) := hid HS.start
  go_enter Try.func8, Try.ntmps8
  go_wp2_with fail
  refine (hknown_any _).mono ?_
  rintro x w1 ⟨rfl, hB⟩
  have R1 := hid (hr1.below hB (Nat.le_refl _))
  have B1 := hid hB
  have S1 : Hid (HS [] W w1 []) := hid (S0.out.below hB)
  clear hr1 hB S0
  go_wp2_with fail
  refine (MK.out _ R1.out (fun ad e h => Nat.lt_of_lt_of_le (HL.out ad e h) B1.out.size)).mono ?_
  rintro x w2 ⟨rfl, hb⟩
  have S2 : Hid (HS [] W w2 []) := hid (S1.out.below hb)
  clear hb S1 MK
  go_simp
  go_upto_region 4 with (first | ((with_reducible refine wl_id ?_); refine wl_ow rfl (ow_alloc rfl (zpl_fa _) (by omega) S2.out ?_); intro P w_ hZ _; have SA := hid hZ; clear hZ) | ((with_reducible refine wl_id ?_); refine wl_ow rfl (ow_store (A := []) 0 330 (pc p) (pc p) rfl rfl rfl SA.out (by omega) (fun j hj => patch_all _ _ _ j hj) info_pl (pc_one _) ?_); intro w_ hZ; have SX := hid hZ; clear hZ))
  have S3 : Hid (HS [] W _ [thB P 330 (pc p)]) := hid (SX.out)
  go_wp2_with fail
  refine (Wx0.out _).mono ?_
  rintro x w_ ⟨rfl, rfl⟩
  go_simp
  clear hu
  go_upto_region 5 with (fail)
  rw [HUX.out]
  have NW := hid (hnew_fa p (u) ⟨by omega, by omega⟩)
  go_wp2_with ((with_reducible refine wl_id ?_); refine wl_ow rfl (ow_load 0 rfl 0 330 (pc p) rfl rfl S3.out (by omega) (fun j hj => by rw [Nat.zero_add]) Try.underlying33 rfl info_pl ?_))
  refine (NW.out _).mono ?_
  rintro x w103 ⟨b, c, m, rfl, hH, hg1, hg2, hg3, hB⟩
  have S4 : Hid (HS [] W w103 [thH b c m (u) (newH p (u)), thB P 330 (pc p)]) := hid (HS.addH S3.out hH hg1 hg2 hg3 hB)
  clear hH hg1 hg2 hg3 hB NW S3
  go_simp
  go_wp2_with fail
  have SE := se_made (w := w103) [eR 0] (T := 44) rfl
  have U1 : Hid (HS [] W (w103.alloc (.cells #[.int .i64 6, .int .i64 0, .int .i64 0, .int .i64 0, .int .i64 0, .int .u64 0, .int .u64 0] 44)) [thC w103.heap.size [.int .i64 6, .int .i64 0, .int .i64 0, .int .i64 0, .int .i64 0, .int .u64 0, .int .u64 0], thH b c m u (newH p u), thB P 330 (pc p)]) := hid (S4.out.cells (T := 44) [.int .i64 6, .int .i64 0, .int .i64 0, .int .i64 0, .int .i64 0, .int .u64 0, .int .u64 0])
  refine (wish_any (U1.out.nth 1 rfl : HeadAt _ b c m u (newH p u)) (gl [eR 0]) _ 1 1 SE (fun ad e h0 => ?_) (show 0 + 1 ≤ 200 by omega) 30 HQ.out (by omega)).mono ?_
  · injection e with e
    subst e
    have h1 : HeadAt w103 b c m u (newH p u) := S4.out.nth 0 rfl
    have := h1.lt
    have := h1.ltc
    have := h1.ltm
    simp
    omega
  rintro x w6 ⟨q_, j_, er_, ho, rfl, hH, hC⟩
  obtain ⟨a, b', c'⟩ := ho.uniq (wishB p 0)
  subst a; subst b'; subst c'
  rw [if_pos rfl] at hH
  have hH2 : HeadAt w6 b c m u (dH p u) := hH
  have U2 : Hid (HS [] W w6 [thH b c m u (dH p u), thB P 330 (pc p)]) := hid (HS.tail (HS.upd (A := [thC w103.heap.size [.int .i64 6, .int .i64 0, .int .i64 0, .int .i64 0, .int .i64 0, .int .u64 0, .int .u64 0]]) (B := [thB P 330 (pc p)]) U1.out (thH b c m u (dH p u)) rfl hC hH2))
  clear hH hH2 hC ho SE U1 S4
  go_simp
  go_wp2_with fail
  have cp := hid (show ∀ w, Fb w P 330 (pc p) → w.cell? ⟨P, 0, none⟩ = some (.int .i64 pv) from fun w h => by rw [← HPV.out]; exact h.2.1 0 (by omega))
  go_loopg [11] 30 (fun gh i wx => ∃ (k n : Nat), gh = 30 - k ∧ k ≤ 30 ∧ k ≤ n2 ∧ n ≤ 5 + k ∧ i = .int .i64 (k : Int) ∧ HS [] W wx [thH b c m n (dH p u), thB P 330 (pc p)])
  case atStart => exact ⟨0, u, by omega, by omega, by omega, by omega, rfl, U2.out⟩
  case round =>
    clear U2
    obtain ⟨k, n, hgh, hk, hkn, hn, rfl, hS⟩ := hrel
    have U0 := hid hS
    clear hS
    by_cases hlt : k < n2 ∧ k < 30
    · obtain ⟨hl1, hl2⟩ := hlt
      have i1 : (k : Int) < n2 := by omega
      have i2 : (k : Int) < 30 := by omega
      have RR := hid (HR2.out _ _ U0.out)
      obtain ⟨bb, off, rfl⟩ := Sl.addr RR.out (by omega)
      have xc := Sl.at_ RR.out (j := k) (by omega)
      obtain ⟨gk, hgk⟩ : ∃ x, x = g2 k := ⟨_, rfl⟩
      rw [← hgk] at xc
      clear hgk
      obtain ⟨kk, hkk⟩ : ∃ x : Nat, (x : Int) = wi gk 1073741824 := ⟨(wi gk 1073741824).toNat, by have := wi_bd gk 1073741824 (by omega); omega⟩
      have bkk := wi_bd gk 1073741824 (by omega)
      rw [← hkk] at bkk
      have Wkk := hid (fun w => re_i64 (within_any gk 1073741824 w (by omega) (by omega)) hkk.symm)
      clear hkk
      obtain ⟨bkk1, bkk2⟩ := bkk
      go_wp2_with fail
      refine (Wkk.out _).mono ?_
      rintro x w_ ⟨rfl, rfl⟩
      go_simp
      clear xc
      go_upto_region 12 with (fail)
      refine wp_region_held_drew (S := fun (w' : World) => HS [] W w' [thH b c m n (dH p u), thB P 330 (pc p)]) (by kernel_rfl) ?_ (fun hHeld => ?_)
      · exact U0.out.drew
      refine tk 0 (v := ?_) rfl (by kernel_rfl) (by kernel_rfl) (by kernel_rfl) (fun _ _ _ h => h) rfl ?_ hHeld ?_; rotate_left; (focus (intro w hSw; (try dsimp only at hSw);  go_simp; (try with_reducible rfl))); (try simp only [Act.put, List.setIfInBounds_toArray, List.set_cons_zero, List.set_cons_succ])
      refine tk 1 (v := ?_) rfl (by kernel_rfl) (by kernel_rfl) (by kernel_rfl) (fun _ _ _ h => h) rfl ?_ hHeld ?_; rotate_left; (focus (intro w hSw; (try dsimp only at hSw);  go_simp; (try with_reducible rfl))); (try simp only [Act.put, List.setIfInBounds_toArray, List.set_cons_zero, List.set_cons_succ])
      refine tk 2 (v := ?_) rfl (by kernel_rfl) (by kernel_rfl) (by kernel_rfl) (fun _ _ _ h => h) rfl ?_ hHeld ?_; rotate_left; (focus (intro w hSw; (try dsimp only at hSw); have z2 : ¬ u = 0 := (by omega); have z3 : ¬ (u : Int) = 0 := (by omega); have z1 : ((u : Int) == 0) = false := beq_eq_false_iff_ne.2 (by omega); go_simp; (try with_reducible rfl))); (try simp only [Act.put, List.setIfInBounds_toArray, List.set_cons_zero, List.set_cons_succ])
      refine tk 3 (v := ?_) rfl (by kernel_rfl) (by kernel_rfl) (by kernel_rfl) (fun _ _ _ h => h) rfl ?_ hHeld ?_; rotate_left; (focus (intro w hSw; (try dsimp only at hSw);  go_simp; (try with_reducible rfl))); (try simp only [Act.put, List.setIfInBounds_toArray, List.set_cons_zero, List.set_cons_succ])
      refine tk 4 (v := ?_) rfl (by kernel_rfl) (by kernel_rfl) (by kernel_rfl) (fun _ _ _ h => h) rfl ?_ hHeld ?_; rotate_left; (focus (intro w hSw; (try dsimp only at hSw); have x0 := cp.out _ (hSw.fb 1 rfl); go_simp; (try with_reducible rfl))); (try simp only [Act.put, List.setIfInBounds_toArray, List.set_cons_zero, List.set_cons_succ])
      refine tk 5 (v := ?_) rfl (by kernel_rfl) (by kernel_rfl) (by kernel_rfl) (fun _ _ _ h => h) rfl ?_ hHeld ?_; rotate_left; (focus (intro w hSw; (try dsimp only at hSw);  go_simp; (try with_reducible rfl))); (try simp only [Act.put, List.setIfInBounds_toArray, List.set_cons_zero, List.set_cons_succ])
      refine tk 6 (v := ?_) rfl (by kernel_rfl) (by kernel_rfl) (by kernel_rfl) (fun _ _ _ h => h) rfl ?_ hHeld ?_; rotate_left; (focus (intro w hSw; (try dsimp only at hSw);  go_simp; (try with_reducible rfl))); (try simp only [Act.put, List.setIfInBounds_toArray, List.set_cons_zero, List.set_cons_succ])
      refine tk 7 (v := ?_) rfl (by kernel_rfl) (by kernel_rfl) (by kernel_rfl) (fun _ _ _ h => h) rfl ?_ hHeld ?_; rotate_left; (focus (intro w hSw; (try dsimp only at hSw);  go_simp; (try with_reducible rfl))); (try simp only [Act.put, List.setIfInBounds_toArray, List.set_cons_zero, List.set_cons_succ])
      refine tk 8 (v := .agg (FA 342 (ntc ⟨(kk : Int).tmod u, 0, pv, ((kk : Int).tmod 3 == 0), true, zEn, zPl⟩))) rfl (by kernel_rfl) (by kernel_rfl) (by kernel_rfl) (fun _ _ _ h => h) rfl (fun w hSw => ex_build5 rfl rfl rfl rfl rfl rfl (build_nt5F _ _ _ w)) hHeld ?_; (try simp only [Act.put, List.setIfInBounds_toArray, List.set_cons_zero, List.set_cons_succ])
      refine only 9 rfl (by kernel_rfl) rfl (fun K hK => ?_)
      refine ow_alloc rfl (znt_fa _) (by omega) hHeld (fun Z w' hN _ => ?_)
      refine hK.out _ _ (hN.tail) (fun h2 => ?_)
      clear hK
      try simp only [Act.put, List.setIfInBounds_toArray, List.set_cons_zero, List.set_cons_succ]
      refine only 10 rfl (by kernel_rfl) rfl (fun K hK => ?_)
      refine ow_store (A := []) 0 342 (ntc ⟨(kk : Int).tmod u, 0, pv, ((kk : Int).tmod 3 == 0), true, zEn, zPl⟩) (ntc ⟨(kk : Int).tmod u, 0, pv, ((kk : Int).tmod 3 == 0), true, zEn, zPl⟩) rfl rfl rfl hN (by omega) (fun j hj => patch_all _ _ _ j hj) info_nt (ntc_one _) (fun w' hN2 => ?_)
      refine hK.out _ _ (hN2.tail) (fun h3 => ?_)
      clear hK
      try simp only [Act.put, List.setIfInBounds_toArray, List.set_cons_zero, List.set_cons_succ]
      have U3 : Hid (HS [] W w' (thB Z 342 (ntc ⟨(kk : Int).tmod u, 0, pv, ((kk : Int).tmod 3 == 0), true, zEn, zPl⟩) :: [thH b c m n (dH p u), thB P 330 (pc p)])) := hid hN2
      clear hN hN2 h2 h3 hHeld U0 RR
      refine wpAnyH_done (by kernel_rfl) ?_ _
      have hq3 : (kk : Int) / 9 % 3 = 0 ∨ (kk : Int) / 9 % 3 = 1 ∨ (kk : Int) / 9 % 3 = 2 := by omega
      rcases hq3 with hq | hq | hq
      · go_upto_region 15 with (fail)
        apply wp_region_lit
        refine wl_val (v := ?_) rfl ?_ ?_; rotate_left; (focus ( go_simp; (try with_reducible rfl))); (try simp only [Act.put, List.setIfInBounds_toArray, List.set_cons_zero, List.set_cons_succ])
        refine wl_ow rfl (ow_store1 (A := []) 4 (.bool false) (ntc ⟨(kk : Int).tmod u, 0, pv, ((kk : Int).tmod 3 == 0), false, zEn, zPl⟩) rfl rfl rfl rfl U3.out (by omega) (fun j hj => nt_s4 _ _ j hj) ?_)
        intro w_ hZ
        have U4 : Hid (HS [] W w_ (thB Z 342 (ntc ⟨(kk : Int).tmod u, 0, pv, ((kk : Int).tmod 3 == 0), false, zEn, zPl⟩) :: [thH b c m n (dH p u), thB P 330 (pc p)])) := hid hZ
        clear hZ
        try simp only [Act.put, List.setIfInBounds_toArray, List.set_cons_zero, List.set_cons_succ]
        go_upto_region 20 with (fail)
        apply wp_region_lit
        refine wl_val (v := ?_) rfl ?_ ?_; rotate_left; (focus ( go_simp; (try with_reducible rfl))); (try simp only [Act.put, List.setIfInBounds_toArray, List.set_cons_zero, List.set_cons_succ])
        refine wl_ow rfl (ow_load 0 rfl 0 342 (ntc ⟨(kk : Int).tmod u, 0, pv, ((kk : Int).tmod 3 == 0), false, zEn, zPl⟩) rfl rfl U4.out (by omega) (fun j hj => by rw [Nat.zero_add]) Try.underlying58 rfl info_nt ?_)
        try simp only [Act.put, List.setIfInBounds_toArray, List.set_cons_zero, List.set_cons_succ]
        go_wp2_with fail
        refine (heard_fa (U4.out.nth 1 rfl : HeadAt _ b c m n (dH p u)) ⟨(kk : Int).tmod u, 0, pv, ((kk : Int).tmod 3 == 0), false, zEn, zPl⟩ (show u ≤ 16 by omega) (by omega) (dH p u) (dA p u _ rfl)).mono ?_
        rintro x w8 ⟨rfl, hH, hC⟩
        have U9 : Hid (HS [] W w8 [thH b c m (n + 1) (dH p u), thB P 330 (pc p)]) := hid (HS.tail (HS.upd (A := [thB Z 342 (ntc ⟨(kk : Int).tmod u, 0, pv, ((kk : Int).tmod 3 == 0), false, zEn, zPl⟩)]) (B := [thB P 330 (pc p)]) U4.out (thH b c m (n + 1) (dH p u)) rfl hC hH))
        clear hH hC
        go_simp
        go_wp2_with fail
        go_roundg (30 - (k + 1))
        case rel => exact ⟨k + 1, n + 1, by omega, by omega, by omega, by omega, by go_num, U9.out⟩
        case measure => omega
      · have hi3 : (kk : Int) / 27 % 3 = 0 ∨ (kk : Int) / 27 % 3 = 1 ∨ (kk : Int) / 27 % 3 = 2 := by omega
        rcases hi3 with hi | hi | hi
        · go_upto_region 17 with (fail)
          apply wp_region_lit
          refine wl_val (v := ?_) rfl ?_ ?_; rotate_left; (focus ( go_simp; (try with_reducible rfl))); (try simp only [Act.put, List.setIfInBounds_toArray, List.set_cons_zero, List.set_cons_succ])
          go_step
          go_step
          apply_assumption
          have U5 := hid (U3.out.cells (T := 3) [.int .i64 (-1), .int .i64 (u : Int), .int .i64 99])
          generalize World.alloc _ (.cells #[.int .i64 (-1), .int .i64 (u : Int), .int .i64 99] 3) = w5 at *
          have x0 := (U5.out.ce 0 rfl).2.1 0 _ rfl
          refine wl_val (v := ?_) rfl ?_ ?_; rotate_left; (focus ( go_simp; (try with_reducible rfl))); (try simp only [Act.put, List.setIfInBounds_toArray, List.set_cons_zero, List.set_cons_succ])
          refine wl_val (v := ?_) rfl ?_ ?_; rotate_left; (focus (have y1 : IntKind.i64.wrap ((kk : Int) / 27) = (kk : Int) / 27 := IntWalk.i64_in _ (by omega); go_simp; (try with_reducible rfl))); (try simp only [Act.put, List.setIfInBounds_toArray, List.set_cons_zero, List.set_cons_succ])
          refine wl_val (v := ?_) rfl ?_ ?_; rotate_left; (focus (have y2 : ((kk : Int) / 27).tmod 3 = 0 := (by rw [Int.tmod_eq_emod_of_nonneg (by omega)]; exact hi); go_simp; (try with_reducible rfl))); (try simp only [Act.put, List.setIfInBounds_toArray, List.set_cons_zero, List.set_cons_succ])
          refine wl_val (v := ?_) rfl ?_ ?_; rotate_left; (focus ( go_simp; (try with_reducible rfl))); (try simp only [Act.put, List.setIfInBounds_toArray, List.set_cons_zero, List.set_cons_succ])
          refine wl_val (v := ?_) rfl ?_ ?_; rotate_left; (focus ( go_simp; (try with_reducible rfl))); (try simp only [Act.put, List.setIfInBounds_toArray, List.set_cons_zero, List.set_cons_succ])
          refine wl_val (v := ?_) rfl ?_ ?_; rotate_left; (focus ( go_simp; (try with_reducible rfl))); (try simp only [Act.put, List.setIfInBounds_toArray, List.set_cons_zero, List.set_cons_succ])
          refine wl_ow rfl (ow_storeI (A := [thC _ [.int .i64 (-1), .int .i64 (u : Int), .int .i64 99]]) 0 (-1) (ntc ⟨-1, 0, pv, ((kk : Int).tmod 3 == 0), true, zEn, zPl⟩) rfl rfl rfl U5.out (by omega) (fun j hj => nt_s0 _ _ j hj) ?_)
          intro w_ hZ
          have U4 : Hid (HS [] W w_ (thB Z 342 (ntc ⟨-1, 0, pv, ((kk : Int).tmod 3 == 0), true, zEn, zPl⟩) :: [thH b c m n (dH p u), thB P 330 (pc p)])) := hid (HS.tail hZ)
          clear hZ
          try simp only [Act.put, List.setIfInBounds_toArray, List.set_cons_zero, List.set_cons_succ]
          go_upto_region 20 with (fail)
          apply wp_region_lit
          refine wl_val (v := ?_) rfl ?_ ?_; rotate_left; (focus ( go_simp; (try with_reducible rfl))); (try simp only [Act.put, List.setIfInBounds_toArray, List.set_cons_zero, List.set_cons_succ])
          refine wl_ow rfl (ow_load 0 rfl 0 342 (ntc ⟨-1, 0, pv, ((kk : Int).tmod 3 == 0), true, zEn, zPl⟩) rfl rfl U4.out (by omega) (fun j hj => by rw [Nat.zero_add]) Try.underlying58 rfl info_nt ?_)
          try simp only [Act.put, List.setIfInBounds_toArray, List.set_cons_zero, List.set_cons_succ]
          go_wp2_with fail
          refine (heard_fa (U4.out.nth 1 rfl : HeadAt _ b c m n (dH p u)) ⟨-1, 0, pv, ((kk : Int).tmod 3 == 0), true, zEn, zPl⟩ (show u ≤ 16 by omega) (by omega) (dH p u) (dU p u _ (.inl (by show (-1 : Int) < 0; omega)))).mono ?_
          rintro x w8 ⟨rfl, hH, hC⟩
          have U9 : Hid (HS [] W w8 [thH b c m (n + 1) (dH p u), thB P 330 (pc p)]) := hid (HS.tail (HS.upd (A := [thB Z 342 (ntc ⟨-1, 0, pv, ((kk : Int).tmod 3 == 0), true, zEn, zPl⟩)]) (B := [thB P 330 (pc p)]) U4.out (thH b c m (n + 1) (dH p u)) rfl hC hH))
          clear hH hC
          go_simp
          go_wp2_with fail
          go_roundg (30 - (k + 1))
          case rel => exact ⟨k + 1, n + 1, by omega, by omega, by omega, by omega, by go_num, U9.out⟩
          case measure => omega
        · go_upto_region 17 with (fail)
          apply wp_region_lit
          refine wl_val (v := ?_) rfl ?_ ?_; rotate_left; (focus ( go_simp; (try with_reducible rfl))); (try simp only [Act.put, List.setIfInBounds_toArray, List.set_cons_zero, List.set_cons_succ])
          go_step
          go_step
          apply_assumption
          have U5 := hid (U3.out.cells (T := 3) [.int .i64 (-1), .int .i64 (u : Int), .int .i64 99])
          generalize World.alloc _ (.cells #[.int .i64 (-1), .int .i64 (u : Int), .int .i64 99] 3) = w5 at *
          have x1 := (U5.out.ce 0 rfl).2.1 1 _ rfl
          refine wl_val (v := ?_) rfl ?_ ?_; rotate_left; (focus ( go_simp; (try with_reducible rfl))); (try simp only [Act.put, List.setIfInBounds_toArray, List.set_cons_zero, List.set_cons_succ])
          refine wl_val (v := ?_) rfl ?_ ?_; rotate_left; (focus (have y1 : IntKind.i64.wrap ((kk : Int) / 27) = (kk : Int) / 27 := IntWalk.i64_in _ (by omega); go_simp; (try with_reducible rfl))); (try simp only [Act.put, List.setIfInBounds_toArray, List.set_cons_zero, List.set_cons_succ])
          refine wl_val (v := ?_) rfl ?_ ?_; rotate_left; (focus (have y2 : ((kk : Int) / 27).tmod 3 = 1 := (by rw [Int.tmod_eq_emod_of_nonneg (by omega)]; exact hi); go_simp; (try with_reducible rfl))); (try simp only [Act.put, List.setIfInBounds_toArray, List.set_cons_zero, List.set_cons_succ])
          refine wl_val (v := ?_) rfl ?_ ?_; rotate_left; (focus ( go_simp; (try with_reducible rfl))); (try simp only [Act.put, List.setIfInBounds_toArray, List.set_cons_zero, List.set_cons_succ])
          refine wl_val (v := ?_) rfl ?_ ?_; rotate_left; (focus ( go_simp; (try with_reducible rfl))); (try simp only [Act.put, List.setIfInBounds_toArray, List.set_cons_zero, List.set_cons_succ])
          refine wl_val (v := ?_) rfl ?_ ?_; rotate_left; (focus ( go_simp; (try with_reducible rfl))); (try simp only [Act.put, List.setIfInBounds_toArray, List.set_cons_zero, List.set_cons_succ])
          refine wl_ow rfl (ow_storeI (A := [thC _ [.int .i64 (-1), .int .i64 (u : Int), .int .i64 99]]) 0 ((u : Int)) (ntc ⟨(u : Int), 0, pv, ((kk : Int).tmod 3 == 0), true, zEn, zPl⟩) rfl rfl rfl U5.out (by omega) (fun j hj => nt_s0 _ _ j hj) ?_)
          intro w_ hZ
          have U4 : Hid (HS [] W w_ (thB Z 342 (ntc ⟨(u : Int), 0, pv, ((kk : Int).tmod 3 == 0), true, zEn, zPl⟩) :: [thH b c m n (dH p u), thB P 330 (pc p)])) := hid (HS.tail hZ)
          clear hZ
          try simp only [Act.put, List.setIfInBounds_toArray, List.set_cons_zero, List.set_cons_succ]
          go_upto_region 20 with (fail)
          apply wp_region_lit
          refine wl_val (v := ?_) rfl ?_ ?_; rotate_left; (focus ( go_simp; (try with_reducible rfl))); (try simp only [Act.put, List.setIfInBounds_toArray, List.set_cons_zero, List.set_cons_succ])
          refine wl_ow rfl (ow_load 0 rfl 0 342 (ntc ⟨(u : Int), 0, pv, ((kk : Int).tmod 3 == 0), true, zEn, zPl⟩) rfl rfl U4.out (by omega) (fun j hj => by rw [Nat.zero_add]) Try.underlying58 rfl info_nt ?_)
          try simp only [Act.put, List.setIfInBounds_toArray, List.set_cons_zero, List.set_cons_succ]
          go_wp2_with fail
          refine (heard_fa (U4.out.nth 1 rfl : HeadAt _ b c m n (dH p u)) ⟨(u : Int), 0, pv, ((kk : Int).tmod 3 == 0), true, zEn, zPl⟩ (show u ≤ 16 by omega) (by omega) (dH p u) (dU p u _ (.inr (Int.le_refl _)))).mono ?_
          rintro x w8 ⟨rfl, hH, hC⟩
          have U9 : Hid (HS [] W w8 [thH b c m (n + 1) (dH p u), thB P 330 (pc p)]) := hid (HS.tail (HS.upd (A := [thB Z 342 (ntc ⟨(u : Int), 0, pv, ((kk : Int).tmod 3 == 0), true, zEn, zPl⟩)]) (B := [thB P 330 (pc p)]) U4.out (thH b c m (n + 1) (dH p u)) rfl hC hH))
          clear hH hC
          go_simp
          go_wp2_with fail
          go_roundg (30 - (k + 1))
          case rel => exact ⟨k + 1, n + 1, by omega, by omega, by omega, by omega, by go_num, U9.out⟩
          case measure => omega
        · go_upto_region 17 with (fail)
          apply wp_region_lit
          refine wl_val (v := ?_) rfl ?_ ?_; rotate_left; (focus ( go_simp; (try with_reducible rfl))); (try simp only [Act.put, List.setIfInBounds_toArray, List.set_cons_zero, List.set_cons_succ])
          go_step
          go_step
          apply_assumption
          have U5 := hid (U3.out.cells (T := 3) [.int .i64 (-1), .int .i64 (u : Int), .int .i64 99])
          generalize World.alloc _ (.cells #[.int .i64 (-1), .int .i64 (u : Int), .int .i64 99] 3) = w5 at *
          have x2 := (U5.out.ce 0 rfl).2.1 2 _ rfl
          refine wl_val (v := ?_) rfl ?_ ?_; rotate_left; (focus ( go_simp; (try with_reducible rfl))); (try simp only [Act.put, List.setIfInBounds_toArray, List.set_cons_zero, List.set_cons_succ])
          refine wl_val (v := ?_) rfl ?_ ?_; rotate_left; (focus (have y1 : IntKind.i64.wrap ((kk : Int) / 27) = (kk : Int) / 27 := IntWalk.i64_in _ (by omega); go_simp; (try with_reducible rfl))); (try simp only [Act.put, List.setIfInBounds_toArray, List.set_cons_zero, List.set_cons_succ])
          refine wl_val (v := ?_) rfl ?_ ?_; rotate_left; (focus (have y2 : ((kk : Int) / 27).tmod 3 = 2 := (by rw [Int.tmod_eq_emod_of_nonneg (by omega)]; exact hi); go_simp; (try with_reducible rfl))); (try simp only [Act.put, List.setIfInBounds_toArray, List.set_cons_zero, List.set_cons_succ])
          refine wl_val (v := ?_) rfl ?_ ?_; rotate_left; (focus ( go_simp; (try with_reducible rfl))); (try simp only [Act.put, List.setIfInBounds_toArray, List.set_cons_zero, List.set_cons_succ])
          refine wl_val (v := ?_) rfl ?_ ?_; rotate_left; (focus ( go_simp; (try with_reducible rfl))); (try simp only [Act.put, List.setIfInBounds_toArray, List.set_cons_zero, List.set_cons_succ])
          refine wl_val (v := ?_) rfl ?_ ?_; rotate_left; (focus ( go_simp; (try with_reducible rfl))); (try simp only [Act.put, List.setIfInBounds_toArray, List.set_cons_zero, List.set_cons_succ])
          refine wl_ow rfl (ow_storeI (A := [thC _ [.int .i64 (-1), .int .i64 (u : Int), .int .i64 99]]) 0 (99) (ntc ⟨99, 0, pv, ((kk : Int).tmod 3 == 0), true, zEn, zPl⟩) rfl rfl rfl U5.out (by omega) (fun j hj => nt_s0 _ _ j hj) ?_)
          intro w_ hZ
          have U4 : Hid (HS [] W w_ (thB Z 342 (ntc ⟨99, 0, pv, ((kk : Int).tmod 3 == 0), true, zEn, zPl⟩) :: [thH b c m n (dH p u), thB P 330 (pc p)])) := hid (HS.tail hZ)
          clear hZ
          try simp only [Act.put, List.setIfInBounds_toArray, List.set_cons_zero, List.set_cons_succ]
          go_upto_region 20 with (fail)
          apply wp_region_lit
          refine wl_val (v := ?_) rfl ?_ ?_; rotate_left; (focus ( go_simp; (try with_reducible rfl))); (try simp only [Act.put, List.setIfInBounds_toArray, List.set_cons_zero, List.set_cons_succ])
          refine wl_ow rfl (ow_load 0 rfl 0 342 (ntc ⟨99, 0, pv, ((kk : Int).tmod 3 == 0), true, zEn, zPl⟩) rfl rfl U4.out (by omega) (fun j hj => by rw [Nat.zero_add]) Try.underlying58 rfl info_nt ?_)
          try simp only [Act.put, List.setIfInBounds_toArray, List.set_cons_zero, List.set_cons_succ]
          go_wp2_with fail
          refine (heard_fa (U4.out.nth 1 rfl : HeadAt _ b c m n (dH p u)) ⟨99, 0, pv, ((kk : Int).tmod 3 == 0), true, zEn, zPl⟩ (show u ≤ 16 by omega) (by omega) (dH p u) (dU p u _ (.inr (by show (u : Int) ≤ 99; omega)))).mono ?_
          rintro x w8 ⟨rfl, hH, hC⟩
          have U9 : Hid (HS [] W w8 [thH b c m (n + 1) (dH p u), thB P 330 (pc p)]) := hid (HS.tail (HS.upd (A := [thB Z 342 (ntc ⟨99, 0, pv, ((kk : Int).tmod 3 == 0), true, zEn, zPl⟩)]) (B := [thB P 330 (pc p)]) U4.out (thH b c m (n + 1) (dH p u)) rfl hC hH))
          clear hH hC
          go_simp
          go_wp2_with fail
          go_roundg (30 - (k + 1))
          case rel => exact ⟨k + 1, n + 1, by omega, by omega, by omega, by omega, by go_num, U9.out⟩
          case measure => omega
      · go_upto_region 19 with (fail)
        apply wp_region_lit
        refine wl_val (v := ?_) rfl ?_ ?_; rotate_left; (focus ( go_simp; (try with_reducible rfl))); (try simp only [Act.put, List.setIfInBounds_toArray, List.set_cons_zero, List.set_cons_succ])
        refine wl_val (v := ?_) rfl ?_ ?_; rotate_left; (focus (have y1 : IntKind.i64.wrap ((kk : Int) / 27) = (kk : Int) / 27 := IntWalk.i64_in _ (by omega); go_simp; (try with_reducible rfl))); (try simp only [Act.put, List.setIfInBounds_toArray, List.set_cons_zero, List.set_cons_succ])
        refine wl_val (v := ?_) rfl ?_ ?_; rotate_left; (focus (have y2 : ((kk : Int) / 27).tmod 4 = (kk : Int) / 27 % 4 := (by rw [Int.tmod_eq_emod_of_nonneg (by omega)]); go_simp; (try with_reducible rfl))); (try simp only [Act.put, List.setIfInBounds_toArray, List.set_cons_zero, List.set_cons_succ])
        refine wl_val (v := ?_) rfl ?_ ?_; rotate_left; (focus (have x9 : IntKind.i64.wrap (-1 - (kk : Int) / 27 % 4) = -1 - (kk : Int) / 27 % 4 := IntWalk.i64_in _ (by omega); go_simp; (try with_reducible rfl))); (try simp only [Act.put, List.setIfInBounds_toArray, List.set_cons_zero, List.set_cons_succ])
        refine wl_val (v := ?_) rfl ?_ ?_; rotate_left; (focus (have x9 : IntKind.i64.wrap (-1 - (kk : Int) / 27 % 4) = -1 - (kk : Int) / 27 % 4 := IntWalk.i64_in _ (by omega); go_simp; (try with_reducible rfl))); (try simp only [Act.put, List.setIfInBounds_toArray, List.set_cons_zero, List.set_cons_succ])
        refine wl_ow rfl (ow_storeI (A := []) 1 (-1 - (kk : Int) / 27 % 4) (ntc ⟨(kk : Int).tmod u, -1 - (kk : Int) / 27 % 4, pv, ((kk : Int).tmod 3 == 0), true, zEn, zPl⟩) rfl rfl rfl U3.out (by omega) (fun j hj => nt_s1 _ _ j hj) ?_)
        intro w_ hZ
        have U4 : Hid (HS [] W w_ (thB Z 342 (ntc ⟨(kk : Int).tmod u, -1 - (kk : Int) / 27 % 4, pv, ((kk : Int).tmod 3 == 0), true, zEn, zPl⟩) :: [thH b c m n (dH p u), thB P 330 (pc p)])) := hid hZ
        clear hZ
        try simp only [Act.put, List.setIfInBounds_toArray, List.set_cons_zero, List.set_cons_succ]
        go_upto_region 20 with (fail)
        apply wp_region_lit
        refine wl_val (v := ?_) rfl ?_ ?_; rotate_left; (focus ( go_simp; (try with_reducible rfl))); (try simp only [Act.put, List.setIfInBounds_toArray, List.set_cons_zero, List.set_cons_succ])
        refine wl_ow rfl (ow_load 0 rfl 0 342 (ntc ⟨(kk : Int).tmod u, -1 - (kk : Int) / 27 % 4, pv, ((kk : Int).tmod 3 == 0), true, zEn, zPl⟩) rfl rfl U4.out (by omega) (fun j hj => by rw [Nat.zero_add]) Try.underlying58 rfl info_nt ?_)
        try simp only [Act.put, List.setIfInBounds_toArray, List.set_cons_zero, List.set_cons_succ]
        go_wp2_with fail
        refine (heard_fa (U4.out.nth 1 rfl : HeadAt _ b c m n (dH p u)) ⟨(kk : Int).tmod u, -1 - (kk : Int) / 27 % 4, pv, ((kk : Int).tmod 3 == 0), true, zEn, zPl⟩ (show u ≤ 16 by omega) (by omega) (dH p u) (dB p u _ (by show -1 - (kk : Int) / 27 % 4 < 0; omega))).mono ?_
        rintro x w8 ⟨rfl, hH, hC⟩
        have U9 : Hid (HS [] W w8 [thH b c m (n + 1) (dH p u), thB P 330 (pc p)]) := hid (HS.tail (HS.upd (A := [thB Z 342 (ntc ⟨(kk : Int).tmod u, -1 - (kk : Int) / 27 % 4, pv, ((kk : Int).tmod 3 == 0), true, zEn, zPl⟩)]) (B := [thB P 330 (pc p)]) U4.out (thH b c m (n + 1) (dH p u)) rfl hC hH))
        clear hH hC
        go_simp
        go_wp2_with fail
        go_roundg (30 - (k + 1))
        case rel => exact ⟨k + 1, n + 1, by omega, by omega, by omega, by omega, by go_num, U9.out⟩
        case measure => omega
    · obtain ⟨l, hl⟩ : ∃ l, l = notesK (dH p u) u := ⟨_, rfl⟩
      have HLN := hid (show l.length = u from by rw [hl]; exact dN p u HQ.out.1.1 u)
      have HL0 := hid (show l[0]? = some ⟨0, 0, p.v, true, false, zEn, p⟩ from by rw [hl]; exact dN1 p u HQ.out.1.1 u (by omega))
      have SN := hid (show ∀ (w : World) (n : Nat), HeadAt w b c m n (dH p u) → Calls Try.prog 22 #[.pointer (some ⟨b, 0, none⟩)] w fun x w' => ∃ (A : Option Addr) (cc : Nat), x = .returned (.slice A u cc) ∧ u ≤ cc ∧ HeadAt w' b c m n (dH p u) ∧ Ch [b, c, m] w w' ∧ (0 < u → ∃ g : Nat, A = some ⟨g, 0, none⟩ ∧ w.heap.size ≤ g ∧ Fb w' g (u * 342) (ntf l)) from fun w n h => by
                                                                    have h2 := send_fa h (show u ≤ 16 by omega) (HQ.out.pb (by omega)) (by rw [sD p u hu1 HQ.out.1.1]; exact ⟨HQ.out.1.1, Int.le_trans HQ.out.1.2 (by omega)⟩) (dH p u) l (sD p u hu1 HQ.out.1.1) hl.symm
                                                                    rw [HLN.out] at h2
                                                                    exact h2)
      clear hl
      have VA := hid (show ∀ (w : World) (n : Nat), HeadAt w b c m n (dH p u) → Calls Try.prog 21 #[.pointer (some ⟨b, 0, none⟩)] w fun x w' => x = .returned (.int .i64 pv) ∧ w = w' from fun w n h => by rw [← HPV.out]; exact version_any h)
      have WA := hid (show ∀ (w : World) (n : Nat), HeadAt w b c m n (dH p u) → Calls Try.prog 19 #[.pointer (some ⟨b, 0, none⟩)] w fun x w' => x = .returned (.int .i64 1) ∧ w = w' from fun w n h => waiting_any h)
      by_cases hkn : (k : Int) < n2
      · have hk30 : ¬ (k : Int) < 30 := by omega
        clear hlt
        go_wp2_with fail
        refine (SN.out _ _ (U0.out.nth 0 rfl)).mono ?_
        rintro x w9 ⟨A9, cc9, rfl, hlc, hH, hC, hrow⟩
        obtain ⟨G, rfl, hg, hF⟩ := hrow (by omega)
        have U5 : Hid (HS [] W w9 [thB G (u * 342) (ntf l), thH b c m n (dH p u), thB P 330 (pc p)]) := hid (HS.updNew (A := []) U0.out (thH b c m n (dH p u)) rfl hC hH hF hg)
        clear hH hC hrow hg hF U0
        go_simp
        go_upto_region 22 with (fail)
        have GC := hid (show ∀ w, Fb w G (u * 342) (ntf l) → w.cell? ⟨G, 3, none⟩ = some (.bool true) from fun w h => h.ntk 0 _ HL0.out (by omega) 3 (by omega))
        refine wp_region_held_drew (S := fun (w' : World) => HS [] W w' [thB G (u * 342) (ntf l), thH b c m n (dH p u), thB P 330 (pc p)]) (by kernel_rfl) ?_ (fun hHeld => ?_)
        · exact U5.out.drew
        refine tk 0 (v := ?_) rfl (by kernel_rfl) (by kernel_rfl) (by kernel_rfl) (fun _ _ _ h => h) rfl ?_ hHeld ?_; rotate_left; (focus (intro w hSw; (try dsimp only at hSw);  go_simp; (try with_reducible rfl))); (try simp only [Act.put, List.setIfInBounds_toArray, List.set_cons_zero, List.set_cons_succ])
        refine tk 1 (v := ?_) rfl (by kernel_rfl) (by kernel_rfl) (by kernel_rfl) (fun _ _ _ h => h) rfl ?_ hHeld ?_; rotate_left; (focus (intro w hSw; (try dsimp only at hSw);  go_simp; (try with_reducible rfl))); (try simp only [Act.put, List.setIfInBounds_toArray, List.set_cons_zero, List.set_cons_succ])
        refine tk 2 (v := ?_) rfl (by kernel_rfl) (by kernel_rfl) (by kernel_rfl) (fun _ _ _ h => h) rfl ?_ hHeld ?_; rotate_left; (focus (intro w hSw; (try dsimp only at hSw);  go_simp; (try with_reducible rfl))); (try simp only [Act.put, List.setIfInBounds_toArray, List.set_cons_zero, List.set_cons_succ])
        refine tk 3 (v := ?_) rfl (by kernel_rfl) (by kernel_rfl) (by kernel_rfl) (fun _ _ _ h => h) rfl ?_ hHeld ?_; rotate_left; (focus (intro w hSw; (try dsimp only at hSw);  go_simp; (try with_reducible rfl))); (try simp only [Act.put, List.setIfInBounds_toArray, List.set_cons_zero, List.set_cons_succ])
        refine tk 4 (v := ?_) rfl (by kernel_rfl) (by kernel_rfl) (by kernel_rfl) (fun _ _ _ h => h) rfl ?_ hHeld ?_; rotate_left; (focus (intro w hSw; (try dsimp only at hSw);  go_simp; (try with_reducible rfl))); (try simp only [Act.put, List.setIfInBounds_toArray, List.set_cons_zero, List.set_cons_succ])
        refine tk 5 (v := ?_) rfl (by kernel_rfl) (by kernel_rfl) (by kernel_rfl) (fun _ _ _ h => h) rfl ?_ hHeld ?_; rotate_left; (focus (intro w hSw; (try dsimp only at hSw);  go_simp; (try with_reducible rfl))); (try simp only [Act.put, List.setIfInBounds_toArray, List.set_cons_zero, List.set_cons_succ])
        refine tk 6 (v := ?_) rfl (by kernel_rfl) (by kernel_rfl) (by kernel_rfl) (fun _ _ _ h => h) rfl ?_ hHeld ?_; rotate_left; (focus (intro w hSw; (try dsimp only at hSw); have z : 0 < u := (by omega); go_simp; (try with_reducible rfl))); (try simp only [Act.put, List.setIfInBounds_toArray, List.set_cons_zero, List.set_cons_succ])
        refine tk 7 (v := ?_) rfl (by kernel_rfl) (by kernel_rfl) (by kernel_rfl) (fun _ _ _ h => h) rfl ?_ hHeld ?_; rotate_left; (focus (intro w hSw; (try dsimp only at hSw);  go_simp; (try with_reducible rfl))); (try simp only [Act.put, List.setIfInBounds_toArray, List.set_cons_zero, List.set_cons_succ])
        refine tk 8 (v := ?_) rfl (by kernel_rfl) (by kernel_rfl) (by kernel_rfl) (fun _ _ _ h => h) rfl ?_ hHeld ?_; rotate_left; (focus (intro w hSw; (try dsimp only at hSw); have x0 := GC.out _ (hSw.fb 0 rfl); go_simp; (try with_reducible rfl))); (try simp only [Act.put, List.setIfInBounds_toArray, List.set_cons_zero, List.set_cons_succ])
        refine tk 9 (v := ?_) rfl (by kernel_rfl) (by kernel_rfl) (by kernel_rfl) (fun _ _ _ h => h) rfl ?_ hHeld ?_; rotate_left; (focus (intro w hSw; (try dsimp only at hSw);  go_simp; (try with_reducible rfl))); (try simp only [Act.put, List.setIfInBounds_toArray, List.set_cons_zero, List.set_cons_succ])
        refine tk 10 (v := ?_) rfl (by kernel_rfl) (by kernel_rfl) (by kernel_rfl) (fun _ _ _ h => h) rfl ?_ hHeld ?_; rotate_left; (focus (intro w hSw; (try dsimp only at hSw);  go_simp; (try with_reducible rfl))); (try simp only [Act.put, List.setIfInBounds_toArray, List.set_cons_zero, List.set_cons_succ])
        refine tk 11 (v := ?_) rfl (by kernel_rfl) (by kernel_rfl) (by kernel_rfl) (fun _ _ _ h => h) rfl ?_ hHeld ?_; rotate_left; (focus (intro w hSw; (try dsimp only at hSw);  go_simp; (try with_reducible rfl))); (try simp only [Act.put, List.setIfInBounds_toArray, List.set_cons_zero, List.set_cons_succ])
        refine tk 13 (v := ?_) rfl (by kernel_rfl) (by kernel_rfl) (by kernel_rfl) (fun _ _ _ h => h) rfl ?_ hHeld ?_; rotate_left; (focus (intro w hSw; (try dsimp only at hSw);  go_simp; (try with_reducible rfl))); (try simp only [Act.put, List.setIfInBounds_toArray, List.set_cons_zero, List.set_cons_succ])
        refine tk 14 (v := ?_) rfl (by kernel_rfl) (by kernel_rfl) (by kernel_rfl) (fun _ _ _ h => h) rfl ?_ hHeld ?_; rotate_left; (focus (intro w hSw; (try dsimp only at hSw); have x0 := cp.out _ (hSw.fb 2 rfl); go_simp; (try with_reducible rfl))); (try simp only [Act.put, List.setIfInBounds_toArray, List.set_cons_zero, List.set_cons_succ])
        refine only 12 rfl (by kernel_rfl) rfl (fun K hK => ?_)
        go_simp
        refine (VA.out _ _ (hHeld.nth 1 rfl)).mono ?_
        rintro e' w' ⟨rfl, rfl⟩
        try go_wp2_with fail
        refine hK.out _ _ (hHeld) (fun h2 => ?_)
        clear hK
        try simp only [Act.put, List.setIfInBounds_toArray, List.set_cons_zero, List.set_cons_succ]
        refine tk 15 (v := ?_) rfl (by kernel_rfl) (by kernel_rfl) (by kernel_rfl) (fun _ _ _ h => h) rfl ?_ h2 ?_; rotate_left; (focus (intro w hSw; (try dsimp only at hSw);  go_simp; (try with_reducible rfl))); (try simp only [Act.put, List.setIfInBounds_toArray, List.set_cons_zero, List.set_cons_succ])
        refine tk 16 (v := ?_) rfl (by kernel_rfl) (by kernel_rfl) (by kernel_rfl) (fun _ _ _ h => h) rfl ?_ h2 ?_; rotate_left; (focus (intro w hSw; (try dsimp only at hSw);  go_simp; (try with_reducible rfl))); (try simp only [Act.put, List.setIfInBounds_toArray, List.set_cons_zero, List.set_cons_succ])
        refine tk 17 (v := ?_) rfl (by kernel_rfl) (by kernel_rfl) (by kernel_rfl) (fun _ _ _ h => h) rfl ?_ h2 ?_; rotate_left; (focus (intro w hSw; (try dsimp only at hSw);  go_simp; (try with_reducible rfl))); (try simp only [Act.put, List.setIfInBounds_toArray, List.set_cons_zero, List.set_cons_succ])
        refine tk 18 (v := ?_) rfl (by kernel_rfl) (by kernel_rfl) (by kernel_rfl) (fun _ _ _ h => h) rfl ?_ h2 ?_; rotate_left; (focus (intro w hSw; (try dsimp only at hSw);  go_simp; (try with_reducible rfl))); (try simp only [Act.put, List.setIfInBounds_toArray, List.set_cons_zero, List.set_cons_succ])
        refine only 19 rfl (by kernel_rfl) rfl (fun K hK => ?_)
        go_simp
        refine (WA.out _ _ (h2.nth 1 rfl)).mono ?_
        rintro e' w' ⟨rfl, rfl⟩
        try go_wp2_with fail
        refine hK.out _ _ (h2) (fun h3 => ?_)
        clear hK
        try simp only [Act.put, List.setIfInBounds_toArray, List.set_cons_zero, List.set_cons_succ]
        refine tk 20 (v := ?_) rfl (by kernel_rfl) (by kernel_rfl) (by kernel_rfl) (fun _ _ _ h => h) rfl ?_ h3 ?_; rotate_left; (focus (intro w hSw; (try dsimp only at hSw);  go_simp; (try with_reducible rfl))); (try simp only [Act.put, List.setIfInBounds_toArray, List.set_cons_zero, List.set_cons_succ])
        refine tk 21 (v := ?_) rfl (by kernel_rfl) (by kernel_rfl) (by kernel_rfl) (fun _ _ _ h => h) rfl ?_ h3 ?_; rotate_left; (focus (intro w hSw; (try dsimp only at hSw);  go_simp; (try with_reducible rfl))); (try simp only [Act.put, List.setIfInBounds_toArray, List.set_cons_zero, List.set_cons_succ])
        refine tk 22 (v := ?_) rfl (by kernel_rfl) (by kernel_rfl) (by kernel_rfl) (fun _ _ _ h => h) rfl ?_ h3 ?_; rotate_left; (focus (intro w hSw; (try dsimp only at hSw);  go_simp; (try with_reducible rfl))); (try simp only [Act.put, List.setIfInBounds_toArray, List.set_cons_zero, List.set_cons_succ])
        have B9 := hid h3.bl
        clear h3 h2 hHeld U5
        refine wpAnyH_done (by kernel_rfl) ?_ _
        go_wp2_with fail
        go_ret
        exact ⟨rfl, B9.out⟩
      · clear hlt
        go_wp2_with fail
        refine (SN.out _ _ (U0.out.nth 0 rfl)).mono ?_
        rintro x w9 ⟨A9, cc9, rfl, hlc, hH, hC, hrow⟩
        obtain ⟨G, rfl, hg, hF⟩ := hrow (by omega)
        have U5 : Hid (HS [] W w9 [thB G (u * 342) (ntf l), thH b c m n (dH p u), thB P 330 (pc p)]) := hid (HS.updNew (A := []) U0.out (thH b c m n (dH p u)) rfl hC hH hF hg)
        clear hH hC hrow hg hF U0
        go_simp
        go_upto_region 22 with (fail)
        have GC := hid (show ∀ w, Fb w G (u * 342) (ntf l) → w.cell? ⟨G, 3, none⟩ = some (.bool true) from fun w h => h.ntk 0 _ HL0.out (by omega) 3 (by omega))
        refine wp_region_held_drew (S := fun (w' : World) => HS [] W w' [thB G (u * 342) (ntf l), thH b c m n (dH p u), thB P 330 (pc p)]) (by kernel_rfl) ?_ (fun hHeld => ?_)
        · exact U5.out.drew
        refine tk 0 (v := ?_) rfl (by kernel_rfl) (by kernel_rfl) (by kernel_rfl) (fun _ _ _ h => h) rfl ?_ hHeld ?_; rotate_left; (focus (intro w hSw; (try dsimp only at hSw);  go_simp; (try with_reducible rfl))); (try simp only [Act.put, List.setIfInBounds_toArray, List.set_cons_zero, List.set_cons_succ])
        refine tk 1 (v := ?_) rfl (by kernel_rfl) (by kernel_rfl) (by kernel_rfl) (fun _ _ _ h => h) rfl ?_ hHeld ?_; rotate_left; (focus (intro w hSw; (try dsimp only at hSw);  go_simp; (try with_reducible rfl))); (try simp only [Act.put, List.setIfInBounds_toArray, List.set_cons_zero, List.set_cons_succ])
        refine tk 2 (v := ?_) rfl (by kernel_rfl) (by kernel_rfl) (by kernel_rfl) (fun _ _ _ h => h) rfl ?_ hHeld ?_; rotate_left; (focus (intro w hSw; (try dsimp only at hSw);  go_simp; (try with_reducible rfl))); (try simp only [Act.put, List.setIfInBounds_toArray, List.set_cons_zero, List.set_cons_succ])
        refine tk 3 (v := ?_) rfl (by kernel_rfl) (by kernel_rfl) (by kernel_rfl) (fun _ _ _ h => h) rfl ?_ hHeld ?_; rotate_left; (focus (intro w hSw; (try dsimp only at hSw);  go_simp; (try with_reducible rfl))); (try simp only [Act.put, List.setIfInBounds_toArray, List.set_cons_zero, List.set_cons_succ])
        refine tk 4 (v := ?_) rfl (by kernel_rfl) (by kernel_rfl) (by kernel_rfl) (fun _ _ _ h => h) rfl ?_ hHeld ?_; rotate_left; (focus (intro w hSw; (try dsimp only at hSw);  go_simp; (try with_reducible rfl))); (try simp only [Act.put, List.setIfInBounds_toArray, List.set_cons_zero, List.set_cons_succ])
        refine tk 5 (v := ?_) rfl (by kernel_rfl) (by kernel_rfl) (by kernel_rfl) (fun _ _ _ h => h) rfl ?_ hHeld ?_; rotate_left; (focus (intro w hSw; (try dsimp only at hSw);  go_simp; (try with_reducible rfl))); (try simp only [Act.put, List.setIfInBounds_toArray, List.set_cons_zero, List.set_cons_succ])
        refine tk 6 (v := ?_) rfl (by kernel_rfl) (by kernel_rfl) (by kernel_rfl) (fun _ _ _ h => h) rfl ?_ hHeld ?_; rotate_left; (focus (intro w hSw; (try dsimp only at hSw); have z : 0 < u := (by omega); go_simp; (try with_reducible rfl))); (try simp only [Act.put, List.setIfInBounds_toArray, List.set_cons_zero, List.set_cons_succ])
        refine tk 7 (v := ?_) rfl (by kernel_rfl) (by kernel_rfl) (by kernel_rfl) (fun _ _ _ h => h) rfl ?_ hHeld ?_; rotate_left; (focus (intro w hSw; (try dsimp only at hSw);  go_simp; (try with_reducible rfl))); (try simp only [Act.put, List.setIfInBounds_toArray, List.set_cons_zero, List.set_cons_succ])
        refine tk 8 (v := ?_) rfl (by kernel_rfl) (by kernel_rfl) (by kernel_rfl) (fun _ _ _ h => h) rfl ?_ hHeld ?_; rotate_left; (focus (intro w hSw; (try dsimp only at hSw); have x0 := GC.out _ (hSw.fb 0 rfl); go_simp; (try with_reducible rfl))); (try simp only [Act.put, List.setIfInBounds_toArray, List.set_cons_zero, List.set_cons_succ])
        refine tk 9 (v := ?_) rfl (by kernel_rfl) (by kernel_rfl) (by kernel_rfl) (fun _ _ _ h => h) rfl ?_ hHeld ?_; rotate_left; (focus (intro w hSw; (try dsimp only at hSw);  go_simp; (try with_reducible rfl))); (try simp only [Act.put, List.setIfInBounds_toArray, List.set_cons_zero, List.set_cons_succ])
        refine tk 10 (v := ?_) rfl (by kernel_rfl) (by kernel_rfl) (by kernel_rfl) (fun _ _ _ h => h) rfl ?_ hHeld ?_; rotate_left; (focus (intro w hSw; (try dsimp only at hSw);  go_simp; (try with_reducible rfl))); (try simp only [Act.put, List.setIfInBounds_toArray, List.set_cons_zero, List.set_cons_succ])
        refine tk 11 (v := ?_) rfl (by kernel_rfl) (by kernel_rfl) (by kernel_rfl) (fun _ _ _ h => h) rfl ?_ hHeld ?_; rotate_left; (focus (intro w hSw; (try dsimp only at hSw);  go_simp; (try with_reducible rfl))); (try simp only [Act.put, List.setIfInBounds_toArray, List.set_cons_zero, List.set_cons_succ])
        refine tk 13 (v := ?_) rfl (by kernel_rfl) (by kernel_rfl) (by kernel_rfl) (fun _ _ _ h => h) rfl ?_ hHeld ?_; rotate_left; (focus (intro w hSw; (try dsimp only at hSw);  go_simp; (try with_reducible rfl))); (try simp only [Act.put, List.setIfInBounds_toArray, List.set_cons_zero, List.set_cons_succ])
        refine tk 14 (v := ?_) rfl (by kernel_rfl) (by kernel_rfl) (by kernel_rfl) (fun _ _ _ h => h) rfl ?_ hHeld ?_; rotate_left; (focus (intro w hSw; (try dsimp only at hSw); have x0 := cp.out _ (hSw.fb 2 rfl); go_simp; (try with_reducible rfl))); (try simp only [Act.put, List.setIfInBounds_toArray, List.set_cons_zero, List.set_cons_succ])
        refine only 12 rfl (by kernel_rfl) rfl (fun K hK => ?_)
        go_simp
        refine (VA.out _ _ (hHeld.nth 1 rfl)).mono ?_
        rintro e' w' ⟨rfl, rfl⟩
        try go_wp2_with fail
        refine hK.out _ _ (hHeld) (fun h2 => ?_)
        clear hK
        try simp only [Act.put, List.setIfInBounds_toArray, List.set_cons_zero, List.set_cons_succ]
        refine tk 15 (v := ?_) rfl (by kernel_rfl) (by kernel_rfl) (by kernel_rfl) (fun _ _ _ h => h) rfl ?_ h2 ?_; rotate_left; (focus (intro w hSw; (try dsimp only at hSw);  go_simp; (try with_reducible rfl))); (try simp only [Act.put, List.setIfInBounds_toArray, List.set_cons_zero, List.set_cons_succ])
        refine tk 16 (v := ?_) rfl (by kernel_rfl) (by kernel_rfl) (by kernel_rfl) (fun _ _ _ h => h) rfl ?_ h2 ?_; rotate_left; (focus (intro w hSw; (try dsimp only at hSw);  go_simp; (try with_reducible rfl))); (try simp only [Act.put, List.setIfInBounds_toArray, List.set_cons_zero, List.set_cons_succ])
        refine tk 17 (v := ?_) rfl (by kernel_rfl) (by kernel_rfl) (by kernel_rfl) (fun _ _ _ h => h) rfl ?_ h2 ?_; rotate_left; (focus (intro w hSw; (try dsimp only at hSw);  go_simp; (try with_reducible rfl))); (try simp only [Act.put, List.setIfInBounds_toArray, List.set_cons_zero, List.set_cons_succ])
        refine tk 18 (v := ?_) rfl (by kernel_rfl) (by kernel_rfl) (by kernel_rfl) (fun _ _ _ h => h) rfl ?_ h2 ?_; rotate_left; (focus (intro w hSw; (try dsimp only at hSw);  go_simp; (try with_reducible rfl))); (try simp only [Act.put, List.setIfInBounds_toArray, List.set_cons_zero, List.set_cons_succ])
        refine only 19 rfl (by kernel_rfl) rfl (fun K hK => ?_)
        go_simp
        refine (WA.out _ _ (h2.nth 1 rfl)).mono ?_
        rintro e' w' ⟨rfl, rfl⟩
        try go_wp2_with fail
        refine hK.out _ _ (h2) (fun h3 => ?_)
        clear hK
        try simp only [Act.put, List.setIfInBounds_toArray, List.set_cons_zero, List.set_cons_succ]
        refine tk 20 (v := ?_) rfl (by kernel_rfl) (by kernel_rfl) (by kernel_rfl) (fun _ _ _ h => h) rfl ?_ h3 ?_; rotate_left; (focus (intro w hSw; (try dsimp only at hSw);  go_simp; (try with_reducible rfl))); (try simp only [Act.put, List.setIfInBounds_toArray, List.set_cons_zero, List.set_cons_succ])
        refine tk 21 (v := ?_) rfl (by kernel_rfl) (by kernel_rfl) (by kernel_rfl) (fun _ _ _ h => h) rfl ?_ h3 ?_; rotate_left; (focus (intro w hSw; (try dsimp only at hSw);  go_simp; (try with_reducible rfl))); (try simp only [Act.put, List.setIfInBounds_toArray, List.set_cons_zero, List.set_cons_succ])
        refine tk 22 (v := ?_) rfl (by kernel_rfl) (by kernel_rfl) (by kernel_rfl) (fun _ _ _ h => h) rfl ?_ h3 ?_; rotate_left; (focus (intro w hSw; (try dsimp only at hSw);  go_simp; (try with_reducible rfl))); (try simp only [Act.put, List.setIfInBounds_toArray, List.set_cons_zero, List.set_cons_succ])
        have B9 := hid h3.bl
        clear h3 h2 hHeld U5
        refine wpAnyH_done (by kernel_rfl) ?_ _
        go_wp2_with fail
        go_ret
        exact ⟨rfl, B9.out⟩

set_option maxRecDepth 100000 in
theorem lifted (os : Os) (started : os.Started) (H : Type) (enc : TypeId × Value → H) :
    ReturnsInHanded {} Try.checked os 8 .any (Rows.headDeafSpec.pre6 enc Try.prog Try.f8 [] false) (Rows.headDeafSpec.post enc Try.prog Try.f8 false true false false) :=
  law_step (s := Rows.headDeafSpec) started (by kernel_rfl) Try.func8
    (ChangeSpec.witness6 (s := Rows.headDeafSpec) (enc := enc) (C := Try.checked) false ⟨#[], #[.slice none 0 0, .int .i64 0, .slice none 0 0], []⟩ 8 (by kernel_rfl) (by kernel_rfl) (by kernel_rfl) (by kernel_rfl))
    rfl (by rw [Try.params8]; decide +kernel) rfl Try.underlying4
    (fun ds h => by
      rw [Try.params8] at h
      match ds, h with
      | [_, _, _], _ => rfl)
    (fun W base args ds ps hval hA hsz => by
      rw [Try.params8] at hA hval hsz
      obtain ⟨v0, vs0, d0, ds0, p0, q0, hargs, rfl, rfl, h0, r0⟩ := trodAll_cons hA
      obtain ⟨v1, vs1, d1, ds1, p1, q1, rfl, rfl, rfl, h1, r1⟩ := trodAll_cons r0
      obtain ⟨v2, vs2, d2, ds2, p2, q2, rfl, rfl, rfl, h2, r2⟩ := trodAll_cons r1
      obtain ⟨rfl, rfl, rfl⟩ := trodAll_nil r2
      obtain rfl : args = #[v0, v1, v2] := by cases args; simp_all
      obtain ⟨A0, n0, c0, g0, rfl, hn0, hc0, hs0, hw0, hl0, hd0⟩ := open_row Try.underlying22 Try.underlying3 (by kernel_rfl) (hval 0 22 v0 rfl rfl) h0
      have re0 : c0 * 8 ≤ 140737488351232 := by
        rcases hd0 with ⟨_, h0⟩ | ⟨xs, ys, h1, h2⟩
        · omega
        · have := sized_slice hsz (j := 0) (t := 22) (e := 3) rfl (by rw [h1]; rfl) Try.underlying22
          rw [h2, show Try.prog.bytesOf 3 = 8 from by kernel_rfl] at this
          simpa [reachBytes] using this
      obtain ⟨a1, rfl, rfl, rfl, w1⟩ := open_int Try.underlying3 (hval 1 3 v1 rfl rfl) h1
      obtain ⟨A2, n2, c2, g2, rfl, hn2, hc2, hs2, hw2, hl2, hd2⟩ := open_row Try.underlying22 Try.underlying3 (by kernel_rfl) (hval 2 22 v2 rfl rfl) h2
      have re2 : c2 * 8 ≤ 140737488351232 := by
        rcases hd2 with ⟨_, h0⟩ | ⟨xs, ys, h1, h2⟩
        · omega
        · have := sized_slice hsz (j := 2) (t := 22) (e := 3) rfl (by rw [h1]; rfl) Try.underlying22
          rw [h2, show Try.prog.bytesOf 3 = 8 from by kernel_rfl] at this
          simpa [reachBytes] using this
      exact walk W A0 n0 c0 g0 hn0 hc0 hs0 (fun j => bounds_i64 (hw0 j)) hl0 re0 a1 (bounds_i64 w1) A2 n2 c2 g2 hn2 hc2 hs2 (fun j => bounds_i64 (hw2 j)) hl2 re2)

theorem proved : Rows.HeadDeafSaid :=
  OpenClaim.holds_of_wide 8 Try.f8 rfl rfl rfl rfl rfl rfl rfl ⟨rfl, rfl, rfl, rfl, rfl⟩ rfl rfl rfl rfl rfl (by kernel_rfl) Try.func8 (by kernel_rfl)
    (of_decide_eq_true (by kernel_rfl)) (by unfold Func.isWrapper; first | (rw [if_pos (by decide +kernel)]; kernel_rfl) | (rw [if_neg (by decide +kernel)]; exact ⟨rfl, rfl⟩))
    (fun os started H enc _ => lifted os started H enc)
end Go.Proofs.Ytppcanaelagfmaa.headDeaf
