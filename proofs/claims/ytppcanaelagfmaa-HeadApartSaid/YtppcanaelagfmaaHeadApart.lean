/- roundhouselaw11.HeadApart answers true for every row, any number; no condition. -/
import Derived.Test.YtppcanaelagfmaaHdKnown
import Derived.BigQuiet
import Derived.Deep.RegionHeld3
import Derived.Deep.Cut
import Derived.Deep.CutRange
import Derived.IntWalk
namespace Go.Proofs.Ytppcanaelagfmaa.headApart
set_option linter.unusedVariables false
set_option linter.unusedSimpArgs false
open Go.RowKit Go.ChangeShapes Go.WideShapes Go.ChangeAt

section
variable {S : List Nat} {W w : World} {A B : List Th} {Q : Exit → Act → World → Prop} {o : Oper} {a : Act} {K : Act → World → Prop}
theorem ow_storeI {x y : Operand} {b n : Nat} {f : Nat → Value} (off : Nat) (v : Int) (f' : Nat → Value) (ho : o.op = .store 3 x y) (hx : a.eval x = .pointer (some ⟨b, off, none⟩)) (hy : a.eval y = .int .i64 v) (hS : HS S W w (A ++ thB b n f :: B)) (hok : off + 1 ≤ n) (hf : ∀ j, j < n → patch f off 1 (fun _ => .int .i64 v) j = f' j)
    (h : ∀ w', HS S W w' (A ++ thB b n f' :: B) → K (a.put o.dst undef) w') : o.wp Try.prog a w K Q := by
  have hF : Fb w b n f := hS.1 (thB b n f) (by simp)
  refine ov_store ho hx hy (w' := w.setCell ⟨b, off, none⟩ (.int .i64 v)) ?_ (h _ (hS.set off 1 (fun _ => .int .i64 v) hok f' hf))
  have c := hF.2.1 off (by omega)
  have z := hF.2.2 off
  go_simp
end
section
variable {S : List Nat} {W w : World} {A B : List Th} {Q : Exit → Act → World → Prop} {o : Oper} {a : Act} {K : Act → World → Prop}
theorem ow_storeU {x y : Operand} {b n : Nat} {f : Nat → Value} (off : Nat) (v : Int) (f' : Nat → Value) (ho : o.op = .store 27 x y) (hx : a.eval x = .pointer (some ⟨b, off, none⟩)) (hy : a.eval y = .int .u64 v) (hS : HS S W w (A ++ thB b n f :: B)) (hok : off + 1 ≤ n) (hf : ∀ j, j < n → patch f off 1 (fun _ => .int .u64 v) j = f' j)
    (h : ∀ w', HS S W w' (A ++ thB b n f' :: B) → K (a.put o.dst undef) w') : o.wp Try.prog a w K Q := by
  have hF : Fb w b n f := hS.1 (thB b n f) (by simp)
  refine ov_store ho hx hy (w' := w.setCell ⟨b, off, none⟩ (.int .u64 v)) ?_ (h _ (hS.set off 1 (fun _ => .int .u64 v) hok f' hf))
  have c := hF.2.1 off (by omega)
  have z := hF.2.2 off
  go_simp
end
theorem fld_ring (p : Pl) (w : World) : (Instr.field 33 (.agg (FA 330 (pc (nxP p ⟨6, 0, 0, 0, 0, ⟨5, 0⟩⟩)))) 4).run Try.prog w = .ok (.agg #[.int .i64 (p.r.e + 1), .int .u64 p.r.c.a, .int .u64 p.r.c.b, .int .u64 p.r.n.a, .int .u64 p.r.n.b, .int .u64 5, .int .u64 0]) w := by
  rw [← pa_fa]
  simp only [Instr.field, run_underlying Try.underlying33, asAgg, Sem.run_bind, Sem.run_pure, Result.andThen_ok]
  have := (part_pl (nxP p ⟨6, 0, 0, 0, 0, ⟨5, 0⟩⟩) w).2.2.2.2
  refine Eq.trans (b := Result.ok (rgV (nxP p ⟨6, 0, 0, 0, 0, ⟨5, 0⟩⟩).r) w) ?_ rfl
  simpa using this
theorem fld_next (a b c d e f g : Int) (w : World) : (Instr.field 31 (.agg #[.int .i64 a, .int .u64 b, .int .u64 c, .int .u64 d, .int .u64 e, .int .u64 f, .int .u64 g]) 3).run Try.prog w = .ok (.agg #[.int .u64 f, .int .u64 g]) w := by
  simp [Instr.field, run_underlying Try.underlying31, asAgg, go_sem]
def e5 : En := ⟨6, 0, 0, 0, 0, ⟨5, 0⟩⟩
def apA (p : Pl) (f : Nat → Wd) : Hd := ⟨p, nxP p e5, [e5], zEn, 2, f⟩
def apZ (p : Pl) (f : Nat → Wd) : Hd := ⟨nxP p e5, nxP p e5, [], e5, 2, f⟩
def g0 (_ : Nat) : Wd := ⟨0, -1⟩
def g1' (pv : Int) : Nat → Wd := setW g0 0 ⟨0, pv⟩
def g2' (pv : Int) : Nat → Wd := setW (g1' pv) 1 ⟨0, pv⟩
theorem wishA (p : Pl) : AllOut p (gl [e5]) 1 (nxP p e5) 1 0 := by
  refine ⟨?_, .inl ⟨rfl, rfl⟩⟩
  have h1 : runP p (gl [e5]) 1 = if (apR p e5).2 = 0 then some (apR p e5).1 else none := rfl
  rw [h1, show apR p e5 = (nxP p e5, 0) from q_rot _ _]
  rfl
theorem heardA {p : Pl} {k : Nat} {f : Nat → Wd} {pv : Int} (hk : k < 2) (hf : f k = ⟨0, -1⟩) (hv : 0 ≤ pv) : heardH (apA p f) ⟨(k : Int), 0, pv, false, true, zEn, zPl⟩ = apA p (setW f k ⟨0, pv⟩) := by
  have h1 : mx pv = pv := by unfold mx; rw [if_neg (by omega)]
  have h2 : (k : Int) < 2 := by omega
  have h3 : (0 : Int) ≤ k := by omega
  unfold heardH earB apA
  have h4 : (k : Int) < ((2 : Nat) : Int) := by omega
  simp only [h4, h3, h1, decide_true, Bool.and_self, if_true, Int.toNat_natCast]
  rw [hf, if_pos (by unfold cntB; simp; omega)]
theorem sA (p : Pl) : sendH (apA p (g2' p.v)) = apZ p (g2' p.v) := by
  unfold sendH
  have h1 : allB (apA p (g2' p.v)) = true := by
    unfold allB
    rw [List.all_eq_true]
    intro i hi
    have hi2 : i < 2 := by simpa [apA] using hi
    show ((g2' p.v i).v == p.v) = true
    rcases i with _ | _ | i
    · simp [g2', g1', setW]
    · simp [g2', setW]
    · omega
  rw [if_pos h1]
  show pubH (apA p (g2' p.v)) = _
  have h2 : pubH (apA p (g2' p.v)) = if (apR p e5).2 = 0 then { apA p (g2' p.v) with pl := (apR p e5).1, la := e5, q := [] } else { apA p (g2' p.v) with q := [] } := rfl
  rw [h2, show apR p e5 = (nxP p e5, 0) from q_rot _ _]
  rfl
theorem sA2 (p : Pl) : sendH (apZ p (g2' p.v)) = apZ p (g2' p.v) := by
  unfold sendH
  split
  · rfl
  · rfl
theorem noteA (p : Pl) (k : Nat) (hk : k < 2) : noteH (apZ p (g2' p.v)) k = ⟨k, 0, p.v + 1, false, false, e5, zPl⟩ := by
  have h0 : g2' p.v k = ⟨0, p.v⟩ := by
    rcases k with _ | _ | k
    · simp [g2', g1', setW]
    · simp [g2', setW]
    · omega
  have h1 : oneB (apZ p (g2' p.v)) k = true := by
    show ((6 : Int) != 0 && ((g2' p.v k).v == p.v + 1 - 1)) = true
    rw [h0]
    simp
  unfold noteH
  rw [if_pos h1]
  show (⟨(k : Int), (g2' p.v k).b, p.v + 1, false, false, e5, zPl⟩ : Nt) = _
  rw [h0]
theorem nA (p : Pl) : notesK (apZ p (g2' p.v)) 2 = [⟨0, 0, p.v + 1, false, false, e5, zPl⟩, ⟨1, 0, p.v + 1, false, false, e5, zPl⟩] := by
  have h : ∀ k, k < 2 → ((apZ p (g2' p.v)).wd k).v < (apZ p (g2' p.v)).pl.v := by
    intro k hk
    show (g2' p.v k).v < p.v + 1
    rcases k with _ | _ | k
    · simp [g2', g1', setW]; omega
    · simp [g2', setW]; omega
    · omega
  rw [notesK_succ, if_pos (h 1 (by omega)), notesK_succ, if_pos (h 0 (by omega)), noteA p 0 (by omega), noteA p 1 (by omega)]
  rfl
theorem sB3 (p : Pl) (hv : 0 ≤ p.v) : sendH (newH p 3) = newH p 3 := by
  unfold sendH
  split <;> rfl
theorem nB3 (p : Pl) (hv : 0 ≤ p.v) : (notesK (newH p 3) 3).length = 3 := by
  rw [notesK_succ, if_pos (by show (-1 : Int) < p.v; omega), notesK_succ, if_pos (by show (-1 : Int) < p.v; omega), notesK_succ, if_pos (by show (-1 : Int) < p.v; omega)]
  rfl
theorem build_nt024F (u v : Int) (w : World) : (Instr.build 58 #[(0, .int .i64 u), (2, .int .i64 v), (4, .bool true)]).run Try.prog w = .ok (.agg (FA 342 (ntc ⟨u, 0, v, false, true, zEn, zPl⟩))) w := run_build w _ _ _ (by kernel_rfl)
attribute [local irreducible] FA FL
set_option maxRecDepth 100000 in
set_option maxHeartbeats 8000000 in
theorem walk (W : World) (A1 : Option Addr) (n1 c1 : Nat) (g1 : Nat → Int) (hn1 : n1 ≤ c1) (hc1 : c1 ≤ maxLen) (hr1 : Is W A1 n1 g1) (hg1 : IsI g1) (hl1 : ∀ ad, A1 = some ad → 0 < n1 → ad.block < W.heap.size) (re1 : c1 * 8 ≤ 140737488351232) (a0 : Int) (r_a0 : -9223372036854775808 ≤ a0 ∧ a0 ≤ 9223372036854775807) :
    Calls Try.prog 11 #[.slice A1 n1 c1, .int .i64 a0] W fun e w' => e = .returned (.bool true) ∧ Below W.heap.size W w' := by
  unfold maxLen at hc1
  have hnm : (n1 : Int) ≤ 9223372036854775807 := by have := hn1; omega
  have HL := hid hl1
  clear hl1 re1
  obtain ⟨p, hp⟩ : ∃ p, p = mkP g1 (min n1 30) := ⟨_, rfl⟩
  have HQ := hid (show Pinv p 30 from by rw [hp]; exact (mkP_inv g1 _).mono (by omega))
  have MK := hid (fun (w : World) (h : Is w A1 n1 g1) (hl : ∀ ad, A1 = some ad → 0 < n1 → ad.block < w.heap.size) => (show Calls Try.prog 13 #[.slice A1 n1 c1, .int .i64 30] w fun x w' => x = .returned (.agg (FA 330 (pc p))) ∧ Below w.heap.size w w' from by rw [hp]; exact make_fa w A1 n1 c1 g1 h hl hnm 30 (by omega)))
  clear hp
  obtain ⟨pv, hpv⟩ : ∃ x, p.v = x := ⟨_, rfl⟩
  have HPV := hid hpv
  have hv1 : 0 ≤ pv := by rw [← hpv]; exact HQ.out.1.1
  have hv2 : pv ≤ 30 := by rw [← hpv]; exact HQ.out.1.2
  clear hpv
  have S0 : Hid (HS [] W W []) := hid HS.start
  go_enter Try.func11, Try.ntmps11
  go_wp2_with fail
  refine (hknown_any _).mono ?_
  rintro x w1 ⟨rfl, hB⟩
  have R1 := hid (hr1.below hB (Nat.le_refl _))
  have B1 := hid hB
  have S1 : Hid (HS [] W w1 []) := hid (S0.out.below hB)
  clear hr1 hB S0
  go_wp2_with fail
  refine (MK.out _ R1.out (fun ad e h => Nat.lt_of_lt_of_le (HL.out ad e h) B1.out.size)).mono ?_
  rintro x w2 ⟨rfl, hb⟩
  have S2 : Hid (HS [] W w2 []) := hid (S1.out.below hb)
  clear hb S1 MK
  go_simp
  go_upto_region 4 with (first | ((with_reducible refine wl_id ?_); refine wl_ow rfl (ow_alloc rfl (zpl_fa _) (by omega) S2.out ?_); intro P w_ hZ _; have SA := hid hZ; clear hZ) | ((with_reducible refine wl_id ?_); refine wl_ow rfl (ow_store (A := []) 0 330 (pc p) (pc p) rfl rfl rfl SA.out (by omega) (fun j hj => patch_all _ _ _ j hj) info_pl (pc_one _) ?_); intro w_ hZ; have SX := hid hZ; clear hZ))
  have S3 : Hid (HS [] W _ [thB P 330 (pc p)]) := hid (SX.out)
  have NW := hid (hnew_fa p (2) ⟨by omega, by omega⟩)
  go_wp2_with ((with_reducible refine wl_id ?_); refine wl_ow rfl (ow_load 0 rfl 0 330 (pc p) rfl rfl S3.out (by omega) (fun j hj => by rw [Nat.zero_add]) Try.underlying33 rfl info_pl ?_))
  refine (NW.out _).mono ?_
  rintro x w103 ⟨a, ca, ma, rfl, hH, hg1, hg2, hg3, hB⟩
  have S4 : Hid (HS [] W w103 [thH a ca ma (2) (newH p (2)), thB P 330 (pc p)]) := hid (HS.addH S3.out hH hg1 hg2 hg3 hB)
  clear hH hg1 hg2 hg3 hB NW S3
  go_simp
  have NW := hid (hnew_fa p (3) ⟨by omega, by omega⟩)
  go_wp2_with ((with_reducible refine wl_id ?_); refine wl_ow rfl (ow_load 1 rfl 0 330 (pc p) rfl rfl S4.out (by omega) (fun j hj => by rw [Nat.zero_add]) Try.underlying33 rfl info_pl ?_))
  refine (NW.out _).mono ?_
  rintro x w104 ⟨b, cb, mb, rfl, hH, hg1, hg2, hg3, hB⟩
  have S5 : Hid (HS [] W w104 [thH b cb mb (3) (newH p (3)), thH a ca ma (2) (newH p (2)), thB P 330 (pc p)]) := hid (HS.addH S4.out hH hg1 hg2 hg3 hB)
  clear hH hg1 hg2 hg3 hB NW S4
  go_simp
  go_wp2_with fail
  have SE := se_made (w := w104) [e5] (T := 44) rfl
  have U1 : Hid (HS [] W (w104.alloc (.cells #[.int .i64 6, .int .i64 0, .int .i64 0, .int .i64 0, .int .i64 0, .int .u64 5, .int .u64 0] 44)) (thC w104.heap.size [.int .i64 6, .int .i64 0, .int .i64 0, .int .i64 0, .int .i64 0, .int .u64 5, .int .u64 0] :: [thH b cb mb (3) (newH p (3)), thH a ca ma (2) (newH p (2)), thB P 330 (pc p)])) := hid (S5.out.cells (T := 44) [.int .i64 6, .int .i64 0, .int .i64 0, .int .i64 0, .int .i64 0, .int .u64 5, .int .u64 0])
  refine (wish_any (U1.out.nth 2 rfl : HeadAt _ a ca ma 2 (newH p 2)) (gl [e5]) _ 1 1 SE (fun ad e h0 => ?_) (show 0 + 1 ≤ 200 by omega) 30 HQ.out (by omega)).mono ?_
  · injection e with e
    subst e
    have h1 : HeadAt w104 a ca ma 2 (newH p 2) := S5.out.nth 1 rfl
    have := h1.lt
    have := h1.ltc
    have := h1.ltm
    simp
    omega
  rintro x w6 ⟨q_, j_, er_, ho, rfl, hH, hC⟩
  obtain ⟨a_, b', c'⟩ := ho.uniq (wishA p)
  subst a_; subst b'; subst c'
  rw [if_pos rfl] at hH
  have hH2 : HeadAt w6 a ca ma 2 (apA p g0) := hH
  have U2 : Hid (HS [] W w6 (thC w104.heap.size [.int .i64 6, .int .i64 0, .int .i64 0, .int .i64 0, .int .i64 0, .int .u64 5, .int .u64 0] :: [thH b cb mb (3) (newH p (3)), thH a ca ma 2 (apA p g0), thB P 330 (pc p)])) := hid (HS.upd (A := [thC w104.heap.size [.int .i64 6, .int .i64 0, .int .i64 0, .int .i64 0, .int .i64 0, .int .u64 5, .int .u64 0], thH b cb mb (3) (newH p (3))]) (B := [thB P 330 (pc p)]) U1.out (thH a ca ma 2 (apA p g0)) rfl hC hH2)
  clear hH hH2 hC ho SE U1 S5
  generalize w104.heap.size = E at *
  go_simp
  have x5 := (U2.out.ce 0 rfl).2.1 5 _ rfl
  have z5 := (U2.out.ce 0 rfl).2.2 5
  go_upto_region 12 with (fail)
  have U3 : Hid (HS [] W (w6.setCell ⟨E, 5, none⟩ (.int .u64 6)) (thC E [.int .i64 6, .int .i64 0, .int .i64 0, .int .i64 0, .int .i64 0, .int .u64 6, .int .u64 0] :: [thH b cb mb (3) (newH p (3)), thH a ca ma 2 (apA p g0), thB P 330 (pc p)])) := hid (HS.setC (A := []) U2.out 5 (.int .u64 6) (by decide))
  clear x5 z5 U2
  generalize w6.setCell ⟨E, 5, none⟩ (.int .u64 6) = w7 at *
  have U4 := hid U3.out.tail
  clear U3
  have cp := hid (show ∀ w, Fb w P 330 (pc p) → w.cell? ⟨P, 0, none⟩ = some (.int .i64 pv) from fun w h => by rw [← HPV.out]; exact h.2.1 0 (by omega))
  have cp0 := cp.out _ (U4.out.nth 2 rfl)
  go_upto_region 12 with (fail)
  apply wp_region_lit
  refine wl_val (v := ?_) rfl ?_ ?_; rotate_left; (focus ( go_simp; (try with_reducible rfl))); (try simp only [Act.put, List.setIfInBounds_toArray, List.set_cons_zero, List.set_cons_succ])
  refine wl_val (v := ?_) rfl ?_ ?_; rotate_left; (focus ( go_simp; (try with_reducible rfl))); (try simp only [Act.put, List.setIfInBounds_toArray, List.set_cons_zero, List.set_cons_succ])
  refine wl_val (v := ?_) rfl ?_ ?_; rotate_left; (focus ( go_simp; (try with_reducible rfl))); (try simp only [Act.put, List.setIfInBounds_toArray, List.set_cons_zero, List.set_cons_succ])
  refine wl_build3 rfl rfl rfl rfl rfl (build_nt024F 0 pv _) ?_
  try simp only [Act.put, List.setIfInBounds_toArray, List.set_cons_zero, List.set_cons_succ]
  go_wp2_with fail
  refine (heard_fa (U4.out.nth 1 rfl : HeadAt _ a ca ma 2 (apA p (g0))) ⟨0, 0, pv, false, true, zEn, zPl⟩ (show (2 : Nat) ≤ 16 by omega) (by omega) (apA p (g1' pv)) (heardA (k := 0) (by omega) rfl hv1)).mono ?_
  rintro x w8 ⟨rfl, hH, hC⟩
  have U5 : Hid (HS [] W w8 [thH b cb mb (3) (newH p (3)), thH a ca ma (2 + 1) (apA p (g1' pv)), thB P 330 (pc p)]) := hid (HS.upd (A := [thH b cb mb (3) (newH p (3))]) (B := [thB P 330 (pc p)]) U4.out (thH a ca ma (2 + 1) (apA p (g1' pv))) rfl hC hH)
  clear hH hC cp0 U4
  go_simp
  have cp0 := cp.out _ (U5.out.nth 2 rfl)
  go_upto_region 13 with (fail)
  apply wp_region_lit
  refine wl_val (v := ?_) rfl ?_ ?_; rotate_left; (focus ( go_simp; (try with_reducible rfl))); (try simp only [Act.put, List.setIfInBounds_toArray, List.set_cons_zero, List.set_cons_succ])
  refine wl_val (v := ?_) rfl ?_ ?_; rotate_left; (focus ( go_simp; (try with_reducible rfl))); (try simp only [Act.put, List.setIfInBounds_toArray, List.set_cons_zero, List.set_cons_succ])
  refine wl_val (v := ?_) rfl ?_ ?_; rotate_left; (focus ( go_simp; (try with_reducible rfl))); (try simp only [Act.put, List.setIfInBounds_toArray, List.set_cons_zero, List.set_cons_succ])
  refine wl_build3 rfl rfl rfl rfl rfl (build_nt024F 1 pv _) ?_
  try simp only [Act.put, List.setIfInBounds_toArray, List.set_cons_zero, List.set_cons_succ]
  go_wp2_with fail
  refine (heard_fa (U5.out.nth 1 rfl : HeadAt _ a ca ma 3 (apA p (g1' pv))) ⟨1, 0, pv, false, true, zEn, zPl⟩ (show (2 : Nat) ≤ 16 by omega) (by omega) (apA p (g2' pv)) (heardA (k := 1) (by omega) rfl hv1)).mono ?_
  rintro x w9 ⟨rfl, hH, hC⟩
  have U6 : Hid (HS [] W w9 [thH b cb mb (3) (newH p (3)), thH a ca ma (3 + 1) (apA p (g2' pv)), thB P 330 (pc p)]) := hid (HS.upd (A := [thH b cb mb (3) (newH p (3))]) (B := [thB P 330 (pc p)]) U5.out (thH a ca ma (3 + 1) (apA p (g2' pv))) rfl hC hH)
  clear hH hC cp0 U5
  go_simp
  go_wp2_with fail
  have U6' : Hid (HS [] W w9 [thH b cb mb (3) (newH p (3)), thH a ca ma (3 + 1) (apA p (g2' p.v)), thB P 330 (pc p)]) := hid (by rw [HPV.out]; exact U6.out)
  refine (send_fa (U6'.out.nth 1 rfl : HeadAt _ a ca ma (3 + 1) (apA p (g2' p.v))) (show (2 : Nat) ≤ 16 by omega) (HQ.out.pb (by omega)) (by rw [sA p]; show 0 ≤ p.v + 1 ∧ p.v + 1 ≤ 1000000000; rw [HPV.out]; omega) (apZ p (g2' p.v)) [⟨0, 0, p.v + 1, false, false, e5, zPl⟩, ⟨1, 0, p.v + 1, false, false, e5, zPl⟩] (sA p) (nA p)).mono ?_
  rintro x w10 ⟨A_U7, ccU7, rfl, hlc, hH, hC, hrow⟩
  obtain ⟨G1, rfl, hg, hF⟩ := hrow (by simp)
  have U7 : Hid (HS [] W w10 (thB G1 684 (ntf [⟨0, 0, p.v + 1, false, false, e5, zPl⟩, ⟨1, 0, p.v + 1, false, false, e5, zPl⟩]) :: [thH b cb mb (3) (newH p (3)), thH a ca ma (3 + 1) (apZ p (g2' p.v)), thB P 330 (pc p)])) := hid (HS.updNew (A := [thH b cb mb (3) (newH p (3))]) U6'.out (thH a ca ma (3 + 1) (apZ p (g2' p.v))) rfl hC hH hF hg)
  clear hH hC hrow hg hF U6' U6
  simp only [List.length_cons, List.length_nil] at hlc
  go_simp
  go_wp2_with fail
  go_loopg [12] 2 (fun gh i wx => ∃ (k : Nat) (g : Nat → Value), gh = 2 - k ∧ k ≤ 2 ∧ i = .int .i64 (k : Int) ∧ HS [] W wx (thB G1 684 g :: [thH b cb mb (3) (newH p (3)), thH a ca ma (3 + 1) (apZ p (g2' p.v)), thB P 330 (pc p)]))
  case atStart => exact ⟨0, _, rfl, by omega, rfl, U7.out⟩
  case round =>
    clear U7
    obtain ⟨k, g, hgh, hk, rfl, hS⟩ := hrel
    have U8 := hid hS
    clear hS
    by_cases hlt : (k : Int) < 2
    · have hkn : k < 2 := by omega
      go_upto_region 18 with (fail)
      apply wp_region_lit
      refine wl_val (v := ?_) rfl ?_ ?_; rotate_left; (focus ( go_simp; (try with_reducible rfl))); (try simp only [Act.put, List.setIfInBounds_toArray, List.set_cons_zero, List.set_cons_succ])
      refine wl_val (v := ?_) rfl ?_ ?_; rotate_left; (focus ( go_simp; (try with_reducible rfl))); (try simp only [Act.put, List.setIfInBounds_toArray, List.set_cons_zero, List.set_cons_succ])
      refine wl_val (v := ?_) rfl ?_ ?_; rotate_left; (focus ( go_simp; (try with_reducible rfl))); (try simp only [Act.put, List.setIfInBounds_toArray, List.set_cons_zero, List.set_cons_succ])
      refine wl_val (v := ?_) rfl ?_ ?_; rotate_left; (focus ( go_simp; (try with_reducible rfl))); (try simp only [Act.put, List.setIfInBounds_toArray, List.set_cons_zero, List.set_cons_succ])
      refine wl_val (v := ?_) rfl ?_ ?_; rotate_left; (focus ( go_simp; (try with_reducible rfl))); (try simp only [Act.put, List.setIfInBounds_toArray, List.set_cons_zero, List.set_cons_succ])
      refine wl_val (v := ?_) rfl ?_ ?_; rotate_left; (focus ( go_simp; (try with_reducible rfl))); (try simp only [Act.put, List.setIfInBounds_toArray, List.set_cons_zero, List.set_cons_succ])
      refine wl_val (v := ?_) rfl ?_ ?_; rotate_left; (focus ( go_simp; (try with_reducible rfl))); (try simp only [Act.put, List.setIfInBounds_toArray, List.set_cons_zero, List.set_cons_succ])
      refine wl_val (v := ?_) rfl ?_ ?_; rotate_left; (focus ( go_simp; (try with_reducible rfl))); (try simp only [Act.put, List.setIfInBounds_toArray, List.set_cons_zero, List.set_cons_succ])
      refine wl_ow rfl (ow_storeU (A := []) (k * 342 + 10) _ _ rfl rfl rfl U8.out (by omega) (fun j hj => rfl) ?_)
      intro w11 hZ
      have U9 := hid hZ
      clear hZ U8
      try simp only [Act.put, List.setIfInBounds_toArray, List.set_cons_zero, List.set_cons_succ]
      go_upto_region 19 with (fail)
      apply wp_region_lit
      refine wl_val (v := ?_) rfl ?_ ?_; rotate_left; (focus ( go_simp; (try with_reducible rfl))); (try simp only [Act.put, List.setIfInBounds_toArray, List.set_cons_zero, List.set_cons_succ])
      refine wl_val (v := ?_) rfl ?_ ?_; rotate_left; (focus ( go_simp; (try with_reducible rfl))); (try simp only [Act.put, List.setIfInBounds_toArray, List.set_cons_zero, List.set_cons_succ])
      refine wl_val (v := ?_) rfl ?_ ?_; rotate_left; (focus ( go_simp; (try with_reducible rfl))); (try simp only [Act.put, List.setIfInBounds_toArray, List.set_cons_zero, List.set_cons_succ])
      refine wl_val (v := ?_) rfl ?_ ?_; rotate_left; (focus ( go_simp; (try with_reducible rfl))); (try simp only [Act.put, List.setIfInBounds_toArray, List.set_cons_zero, List.set_cons_succ])
      refine wl_val (v := ?_) rfl ?_ ?_; rotate_left; (focus ( go_simp; (try with_reducible rfl))); (try simp only [Act.put, List.setIfInBounds_toArray, List.set_cons_zero, List.set_cons_succ])
      refine wl_ow rfl (ow_storeI (A := []) (k * 342 + 2) _ _ rfl rfl rfl U9.out (by omega) (fun j hj => rfl) ?_)
      intro w12 hZ
      have U10 := hid hZ
      clear hZ U9
      try simp only [Act.put, List.setIfInBounds_toArray, List.set_cons_zero, List.set_cons_succ]
      go_wp2_with fail
      go_roundg (2 - (k + 1))
      case rel => exact ⟨k + 1, _, by omega, by omega, by go_num, U10.out⟩
      case measure => omega
    · have U9 : Hid (HS [] W wr [thH b cb mb (3) (newH p (3)), thH a ca ma (3 + 1) (apZ p (g2' p.v)), thB P 330 (pc p)]) := hid U8.out.tail
      clear U8
      go_wp2_with fail
      refine (send_fa (U9.out.nth 1 rfl : HeadAt _ a ca ma (3 + 1) (apZ p (g2' p.v))) (show (2 : Nat) ≤ 16 by omega) ((nxP_inv HQ.out e5 (show (0 : Int).toNat < 64 by decide)).pb (by omega)) (by rw [sA2 p]; show 0 ≤ p.v + 1 ∧ p.v + 1 ≤ 1000000000; rw [HPV.out]; omega) (apZ p (g2' p.v)) [⟨0, 0, p.v + 1, false, false, e5, zPl⟩, ⟨1, 0, p.v + 1, false, false, e5, zPl⟩] (sA2 p) (nA p)).mono ?_
      rintro x w13 ⟨A_U11, ccU11, rfl, hlc, hH, hC, hrow⟩
      obtain ⟨G2, rfl, hg, hF⟩ := hrow (by simp)
      have U11 : Hid (HS [] W w13 (thB G2 684 (ntf [⟨0, 0, p.v + 1, false, false, e5, zPl⟩, ⟨1, 0, p.v + 1, false, false, e5, zPl⟩]) :: [thH b cb mb (3) (newH p (3)), thH a ca ma (3 + 1) (apZ p (g2' p.v)), thB P 330 (pc p)])) := hid (HS.updNew (A := [thH b cb mb (3) (newH p (3))]) U9.out (thH a ca ma (3 + 1) (apZ p (g2' p.v))) rfl hC hH hF hg)
      clear hH hC hrow hg hF U9
      simp only [List.length_cons, List.length_nil] at hlc
      go_simp
      go_upto_region 21 with (fail)
      have VB := hid (show ∀ (w : World), HeadAt w b cb mb 3 (newH p 3) → Calls Try.prog 21 #[.pointer (some ⟨b, 0, none⟩)] w fun x w' => x = .returned (.int .i64 pv) ∧ w = w' from fun w h => by rw [← HPV.out]; exact version_any h)
      have WB_ := hid (show ∀ (w : World), HeadAt w b cb mb 3 (newH p 3) → Calls Try.prog 19 #[.pointer (some ⟨b, 0, none⟩)] w fun x w' => x = .returned (.int .i64 0) ∧ w = w' from fun w h => waiting_any h)
      have SB := hid (show ∀ (w : World), HeadAt w b cb mb 3 (newH p 3) → Calls Try.prog 22 #[.pointer (some ⟨b, 0, none⟩)] w fun x w' => ∃ (A : Option Addr) (cc : Nat), x = .returned (.slice A 3 cc) ∧ HeadAt w' b cb mb 3 (newH p 3) ∧ Ch [b, cb, mb] w w' from fun w h => (send_fa h (show (3 : Nat) ≤ 16 by omega) (HQ.out.pb (by omega)) (by rw [sB3 p HQ.out.1.1]; exact ⟨HQ.out.1.1, Int.le_trans HQ.out.1.2 (by omega)⟩) (newH p 3) _ (sB3 p HQ.out.1.1) rfl).mono (fun x w' ⟨A, cc, hx, _, hH, hC, _⟩ => ⟨A, cc, by rw [hx, show (notesK (newH p 3) (newH p 3).un).length = 3 from nB3 p HQ.out.1.1], hH, hC⟩))
      have PP := hid (show ∀ (w : World), HeadAt w a ca ma (3 + 1) (apZ p (g2' p.v)) → Calls Try.prog 25 #[.pointer (some ⟨a, 0, none⟩)] w fun x w' => x = .returned (.agg (FA 330 (pc (nxP p ⟨6, 0, 0, 0, 0, ⟨5, 0⟩⟩)))) ∧ Below w.heap.size w w' from fun w h => pool_fa h)
      have GC := hid (show ∀ w, Fb w G2 684 (ntf [⟨0, 0, p.v + 1, false, false, e5, zPl⟩, ⟨1, 0, p.v + 1, false, false, e5, zPl⟩]) → w.cell? ⟨G2, 10, none⟩ = some (.int .u64 5) from fun w h => h.ntk 0 _ rfl (by omega) 10 (by omega))
      have GV := hid (show ∀ w, Fb w G2 684 (ntf [⟨0, 0, p.v + 1, false, false, e5, zPl⟩, ⟨1, 0, p.v + 1, false, false, e5, zPl⟩]) → w.cell? ⟨G2, 2, none⟩ = some (.int .i64 (pv + 1)) from fun w h => by rw [← HPV.out]; exact h.ntk 0 _ rfl (by omega) 2 (by omega))
      refine wp_region_held_drew (S := fun (w' : World) => HS [] W w' (thB G2 684 (ntf [⟨0, 0, p.v + 1, false, false, e5, zPl⟩, ⟨1, 0, p.v + 1, false, false, e5, zPl⟩]) :: [thH b cb mb (3) (newH p (3)), thH a ca ma (3 + 1) (apZ p (g2' p.v)), thB P 330 (pc p)])) (by kernel_rfl) ?_ (fun hHeld => ?_)
      · exact U11.out.drew
      refine tk 0 (v := ?_) rfl (by kernel_rfl) (by kernel_rfl) (by kernel_rfl) (fun _ _ _ h => h) rfl ?_ hHeld ?_; rotate_left; (focus (intro w hSw; (try dsimp only at hSw);  go_simp; (try with_reducible rfl))); (try simp only [Act.put, List.setIfInBounds_toArray, List.set_cons_zero, List.set_cons_succ])
      refine tk 2 (v := ?_) rfl (by kernel_rfl) (by kernel_rfl) (by kernel_rfl) (fun _ _ _ h => h) rfl ?_ hHeld ?_; rotate_left; (focus (intro w hSw; (try dsimp only at hSw);  go_simp; (try with_reducible rfl))); (try simp only [Act.put, List.setIfInBounds_toArray, List.set_cons_zero, List.set_cons_succ])
      refine tk 3 (v := ?_) rfl (by kernel_rfl) (by kernel_rfl) (by kernel_rfl) (fun _ _ _ h => h) rfl ?_ hHeld ?_; rotate_left; (focus (intro w hSw; (try dsimp only at hSw); have x0 := cp.out _ (hSw.fb 3 rfl); go_simp; (try with_reducible rfl))); (try simp only [Act.put, List.setIfInBounds_toArray, List.set_cons_zero, List.set_cons_succ])
      refine only 1 rfl (by kernel_rfl) rfl (fun K hK => ?_)
      go_simp
      refine (VB.out _ (hHeld.nth 1 rfl)).mono ?_
      rintro e' w' ⟨rfl, rfl⟩
      try go_wp2_with fail
      refine hK.out _ _ (hHeld) (fun h2 => ?_)
      clear hK
      try simp only [Act.put, List.setIfInBounds_toArray, List.set_cons_zero, List.set_cons_succ]
      refine tk 4 (v := ?_) rfl (by kernel_rfl) (by kernel_rfl) (by kernel_rfl) (fun _ _ _ h => h) rfl ?_ h2 ?_; rotate_left; (focus (intro w hSw; (try dsimp only at hSw);  go_simp; (try with_reducible rfl))); (try simp only [Act.put, List.setIfInBounds_toArray, List.set_cons_zero, List.set_cons_succ])
      refine tk 5 (v := ?_) rfl (by kernel_rfl) (by kernel_rfl) (by kernel_rfl) (fun _ _ _ h => h) rfl ?_ h2 ?_; rotate_left; (focus (intro w hSw; (try dsimp only at hSw);  go_simp; (try with_reducible rfl))); (try simp only [Act.put, List.setIfInBounds_toArray, List.set_cons_zero, List.set_cons_succ])
      refine tk 6 (v := ?_) rfl (by kernel_rfl) (by kernel_rfl) (by kernel_rfl) (fun _ _ _ h => h) rfl ?_ h2 ?_; rotate_left; (focus (intro w hSw; (try dsimp only at hSw);  go_simp; (try with_reducible rfl))); (try simp only [Act.put, List.setIfInBounds_toArray, List.set_cons_zero, List.set_cons_succ])
      refine only 7 rfl (by kernel_rfl) rfl (fun K hK => ?_)
      go_simp
      refine (WB_.out _ (h2.nth 1 rfl)).mono ?_
      rintro e' w' ⟨rfl, rfl⟩
      try go_wp2_with fail
      refine hK.out _ _ (h2) (fun h3 => ?_)
      clear hK
      try simp only [Act.put, List.setIfInBounds_toArray, List.set_cons_zero, List.set_cons_succ]
      refine tk 8 (v := ?_) rfl (by kernel_rfl) (by kernel_rfl) (by kernel_rfl) (fun _ _ _ h => h) rfl ?_ h3 ?_; rotate_left; (focus (intro w hSw; (try dsimp only at hSw);  go_simp; (try with_reducible rfl))); (try simp only [Act.put, List.setIfInBounds_toArray, List.set_cons_zero, List.set_cons_succ])
      refine tk 9 (v := ?_) rfl (by kernel_rfl) (by kernel_rfl) (by kernel_rfl) (fun _ _ _ h => h) rfl ?_ h3 ?_; rotate_left; (focus (intro w hSw; (try dsimp only at hSw);  go_simp; (try with_reducible rfl))); (try simp only [Act.put, List.setIfInBounds_toArray, List.set_cons_zero, List.set_cons_succ])
      refine tk 10 (v := ?_) rfl (by kernel_rfl) (by kernel_rfl) (by kernel_rfl) (fun _ _ _ h => h) rfl ?_ h3 ?_; rotate_left; (focus (intro w hSw; (try dsimp only at hSw);  go_simp; (try with_reducible rfl))); (try simp only [Act.put, List.setIfInBounds_toArray, List.set_cons_zero, List.set_cons_succ])
      refine tk 11 (v := ?_) rfl (by kernel_rfl) (by kernel_rfl) (by kernel_rfl) (fun _ _ _ h => h) rfl ?_ h3 ?_; rotate_left; (focus (intro w hSw; (try dsimp only at hSw);  go_simp; (try with_reducible rfl))); (try simp only [Act.put, List.setIfInBounds_toArray, List.set_cons_zero, List.set_cons_succ])
      refine only 12 rfl (by kernel_rfl) rfl (fun K hK => ?_)
      go_simp
      refine (SB.out _ (h3.nth 1 rfl)).mono ?_
      rintro e' w' ⟨A_, cc_, rfl, hH, hC⟩
      try go_wp2_with fail
      have hS4 : HS [] W w' (thB G2 684 (ntf [⟨0, 0, p.v + 1, false, false, e5, zPl⟩, ⟨1, 0, p.v + 1, false, false, e5, zPl⟩]) :: [thH b cb mb (3) (newH p (3)), thH a ca ma (3 + 1) (apZ p (g2' p.v)), thB P 330 (pc p)]) := HS.upd (A := [thB G2 684 (ntf [⟨0, 0, p.v + 1, false, false, e5, zPl⟩, ⟨1, 0, p.v + 1, false, false, e5, zPl⟩])]) (B := [thH a ca ma (3 + 1) (apZ p (g2' p.v)), thB P 330 (pc p)]) h3 (thH b cb mb (3) (newH p (3))) rfl hC hH
      refine hK.out _ _ (hS4) (fun h4 => ?_)
      clear hK
      try simp only [Act.put, List.setIfInBounds_toArray, List.set_cons_zero, List.set_cons_succ]
      refine tk 13 (v := ?_) rfl (by kernel_rfl) (by kernel_rfl) (by kernel_rfl) (fun _ _ _ h => h) rfl ?_ h4 ?_; rotate_left; (focus (intro w hSw; (try dsimp only at hSw);  go_simp; (try with_reducible rfl))); (try simp only [Act.put, List.setIfInBounds_toArray, List.set_cons_zero, List.set_cons_succ])
      refine tk 14 (v := ?_) rfl (by kernel_rfl) (by kernel_rfl) (by kernel_rfl) (fun _ _ _ h => h) rfl ?_ h4 ?_; rotate_left; (focus (intro w hSw; (try dsimp only at hSw);  go_simp; (try with_reducible rfl))); (try simp only [Act.put, List.setIfInBounds_toArray, List.set_cons_zero, List.set_cons_succ])
      refine tk 15 (v := ?_) rfl (by kernel_rfl) (by kernel_rfl) (by kernel_rfl) (fun _ _ _ h => h) rfl ?_ h4 ?_; rotate_left; (focus (intro w hSw; (try dsimp only at hSw);  go_simp; (try with_reducible rfl))); (try simp only [Act.put, List.setIfInBounds_toArray, List.set_cons_zero, List.set_cons_succ])
      refine tk 16 (v := ?_) rfl (by kernel_rfl) (by kernel_rfl) (by kernel_rfl) (fun _ _ _ h => h) rfl ?_ h4 ?_; rotate_left; (focus (intro w hSw; (try dsimp only at hSw);  go_simp; (try with_reducible rfl))); (try simp only [Act.put, List.setIfInBounds_toArray, List.set_cons_zero, List.set_cons_succ])
      refine tk 17 (v := ?_) rfl (by kernel_rfl) (by kernel_rfl) (by kernel_rfl) (fun _ _ _ h => h) rfl ?_ h4 ?_; rotate_left; (focus (intro w hSw; (try dsimp only at hSw);  go_simp; (try with_reducible rfl))); (try simp only [Act.put, List.setIfInBounds_toArray, List.set_cons_zero, List.set_cons_succ])
      refine tk 21 (v := ?_) rfl (by kernel_rfl) (by kernel_rfl) (by kernel_rfl) (fun _ _ _ h => h) rfl ?_ h4 ?_; rotate_left; (focus (intro w hSw; (try dsimp only at hSw);  go_simp; (try with_reducible rfl))); (try simp only [Act.put, List.setIfInBounds_toArray, List.set_cons_zero, List.set_cons_succ])
      refine only 18 rfl (by kernel_rfl) rfl (fun K hK => ?_)
      go_simp
      refine (PP.out _ (h4.nth 2 rfl)).mono ?_
      rintro e' w' ⟨rfl, hb⟩
      try go_wp2_with fail
      refine hK.out _ _ (h4.below hb) (fun h5 => ?_)
      clear hK
      try simp only [Act.put, List.setIfInBounds_toArray, List.set_cons_zero, List.set_cons_succ]
      refine tk 19 (v := ?_) rfl (by kernel_rfl) (by kernel_rfl) (by kernel_rfl) (fun _ _ _ h => h) rfl ?_ h5 ?_; rotate_left; (focus (intro w hSw; (try dsimp only at hSw); have x0 := fld_ring p w; go_simp; (try with_reducible rfl))); (try simp only [Act.put, List.setIfInBounds_toArray, List.set_cons_zero, List.set_cons_succ])
      refine tk 20 (v := ?_) rfl (by kernel_rfl) (by kernel_rfl) (by kernel_rfl) (fun _ _ _ h => h) rfl ?_ h5 ?_; rotate_left; (focus (intro w hSw; (try dsimp only at hSw); have x0 := fld_next (p.r.e + 1) p.r.c.a p.r.c.b p.r.n.a p.r.n.b 5 0 w; go_simp; (try with_reducible rfl))); (try simp only [Act.put, List.setIfInBounds_toArray, List.set_cons_zero, List.set_cons_succ])
      refine tk 22 (v := ?_) rfl (by kernel_rfl) (by kernel_rfl) (by kernel_rfl) (fun _ _ _ h => h) rfl ?_ h5 ?_; rotate_left; (focus (intro w hSw; (try dsimp only at hSw);  go_simp; (try with_reducible rfl))); (try simp only [Act.put, List.setIfInBounds_toArray, List.set_cons_zero, List.set_cons_succ])
      refine tk 23 (v := ?_) rfl (by kernel_rfl) (by kernel_rfl) (by kernel_rfl) (fun _ _ _ h => h) rfl ?_ h5 ?_; rotate_left; (focus (intro w hSw; (try dsimp only at hSw);  go_simp; (try with_reducible rfl))); (try simp only [Act.put, List.setIfInBounds_toArray, List.set_cons_zero, List.set_cons_succ])
      refine tk 24 (v := ?_) rfl (by kernel_rfl) (by kernel_rfl) (by kernel_rfl) (fun _ _ _ h => h) rfl ?_ h5 ?_; rotate_left; (focus (intro w hSw; (try dsimp only at hSw);  go_simp; (try with_reducible rfl))); (try simp only [Act.put, List.setIfInBounds_toArray, List.set_cons_zero, List.set_cons_succ])
      refine tk 25 (v := ?_) rfl (by kernel_rfl) (by kernel_rfl) (by kernel_rfl) (fun _ _ _ h => h) rfl ?_ h5 ?_; rotate_left; (focus (intro w hSw; (try dsimp only at hSw);  go_simp; (try with_reducible rfl))); (try simp only [Act.put, List.setIfInBounds_toArray, List.set_cons_zero, List.set_cons_succ])
      refine tk 26 (v := ?_) rfl (by kernel_rfl) (by kernel_rfl) (by kernel_rfl) (fun _ _ _ h => h) rfl ?_ h5 ?_; rotate_left; (focus (intro w hSw; (try dsimp only at hSw);  go_simp; (try with_reducible rfl))); (try simp only [Act.put, List.setIfInBounds_toArray, List.set_cons_zero, List.set_cons_succ])
      refine tk 27 (v := ?_) rfl (by kernel_rfl) (by kernel_rfl) (by kernel_rfl) (fun _ _ _ h => h) rfl ?_ h5 ?_; rotate_left; (focus (intro w hSw; (try dsimp only at hSw);  go_simp; (try with_reducible rfl))); (try simp only [Act.put, List.setIfInBounds_toArray, List.set_cons_zero, List.set_cons_succ])
      refine tk 28 (v := ?_) rfl (by kernel_rfl) (by kernel_rfl) (by kernel_rfl) (fun _ _ _ h => h) rfl ?_ h5 ?_; rotate_left; (focus (intro w hSw; (try dsimp only at hSw);  go_simp; (try with_reducible rfl))); (try simp only [Act.put, List.setIfInBounds_toArray, List.set_cons_zero, List.set_cons_succ])
      refine tk 29 (v := ?_) rfl (by kernel_rfl) (by kernel_rfl) (by kernel_rfl) (fun _ _ _ h => h) rfl ?_ h5 ?_; rotate_left; (focus (intro w hSw; (try dsimp only at hSw);  go_simp; (try with_reducible rfl))); (try simp only [Act.put, List.setIfInBounds_toArray, List.set_cons_zero, List.set_cons_succ])
      refine tk 30 (v := ?_) rfl (by kernel_rfl) (by kernel_rfl) (by kernel_rfl) (fun _ _ _ h => h) rfl ?_ h5 ?_; rotate_left; (focus (intro w hSw; (try dsimp only at hSw);  go_simp; (try with_reducible rfl))); (try simp only [Act.put, List.setIfInBounds_toArray, List.set_cons_zero, List.set_cons_succ])
      refine tk 31 (v := ?_) rfl (by kernel_rfl) (by kernel_rfl) (by kernel_rfl) (fun _ _ _ h => h) rfl ?_ h5 ?_; rotate_left; (focus (intro w hSw; (try dsimp only at hSw);  go_simp; (try with_reducible rfl))); (try simp only [Act.put, List.setIfInBounds_toArray, List.set_cons_zero, List.set_cons_succ])
      refine tk 32 (v := ?_) rfl (by kernel_rfl) (by kernel_rfl) (by kernel_rfl) (fun _ _ _ h => h) rfl ?_ h5 ?_; rotate_left; (focus (intro w hSw; (try dsimp only at hSw);  go_simp; (try with_reducible rfl))); (try simp only [Act.put, List.setIfInBounds_toArray, List.set_cons_zero, List.set_cons_succ])
      refine tk 33 (v := ?_) rfl (by kernel_rfl) (by kernel_rfl) (by kernel_rfl) (fun _ _ _ h => h) rfl ?_ h5 ?_; rotate_left; (focus (intro w hSw; (try dsimp only at hSw);  go_simp; (try with_reducible rfl))); (try simp only [Act.put, List.setIfInBounds_toArray, List.set_cons_zero, List.set_cons_succ])
      refine tk 34 (v := ?_) rfl (by kernel_rfl) (by kernel_rfl) (by kernel_rfl) (fun _ _ _ h => h) rfl ?_ h5 ?_; rotate_left; (focus (intro w hSw; (try dsimp only at hSw);  go_simp; (try with_reducible rfl))); (try simp only [Act.put, List.setIfInBounds_toArray, List.set_cons_zero, List.set_cons_succ])
      refine tk 35 (v := ?_) rfl (by kernel_rfl) (by kernel_rfl) (by kernel_rfl) (fun _ _ _ h => h) rfl ?_ h5 ?_; rotate_left; (focus (intro w hSw; (try dsimp only at hSw); have x0 := GC.out _ (hSw.fb 0 rfl); go_simp; (try with_reducible rfl))); (try simp only [Act.put, List.setIfInBounds_toArray, List.set_cons_zero, List.set_cons_succ])
      refine tk 36 (v := ?_) rfl (by kernel_rfl) (by kernel_rfl) (by kernel_rfl) (fun _ _ _ h => h) rfl ?_ h5 ?_; rotate_left; (focus (intro w hSw; (try dsimp only at hSw);  go_simp; (try with_reducible rfl))); (try simp only [Act.put, List.setIfInBounds_toArray, List.set_cons_zero, List.set_cons_succ])
      refine tk 37 (v := ?_) rfl (by kernel_rfl) (by kernel_rfl) (by kernel_rfl) (fun _ _ _ h => h) rfl ?_ h5 ?_; rotate_left; (focus (intro w hSw; (try dsimp only at hSw);  go_simp; (try with_reducible rfl))); (try simp only [Act.put, List.setIfInBounds_toArray, List.set_cons_zero, List.set_cons_succ])
      refine tk 38 (v := ?_) rfl (by kernel_rfl) (by kernel_rfl) (by kernel_rfl) (fun _ _ _ h => h) rfl ?_ h5 ?_; rotate_left; (focus (intro w hSw; (try dsimp only at hSw);  go_simp; (try with_reducible rfl))); (try simp only [Act.put, List.setIfInBounds_toArray, List.set_cons_zero, List.set_cons_succ])
      refine tk 39 (v := ?_) rfl (by kernel_rfl) (by kernel_rfl) (by kernel_rfl) (fun _ _ _ h => h) rfl ?_ h5 ?_; rotate_left; (focus (intro w hSw; (try dsimp only at hSw);  go_simp; (try with_reducible rfl))); (try simp only [Act.put, List.setIfInBounds_toArray, List.set_cons_zero, List.set_cons_succ])
      refine tk 40 (v := ?_) rfl (by kernel_rfl) (by kernel_rfl) (by kernel_rfl) (fun _ _ _ h => h) rfl ?_ h5 ?_; rotate_left; (focus (intro w hSw; (try dsimp only at hSw);  go_simp; (try with_reducible rfl))); (try simp only [Act.put, List.setIfInBounds_toArray, List.set_cons_zero, List.set_cons_succ])
      refine tk 41 (v := ?_) rfl (by kernel_rfl) (by kernel_rfl) (by kernel_rfl) (fun _ _ _ h => h) rfl ?_ h5 ?_; rotate_left; (focus (intro w hSw; (try dsimp only at hSw);  go_simp; (try with_reducible rfl))); (try simp only [Act.put, List.setIfInBounds_toArray, List.set_cons_zero, List.set_cons_succ])
      refine tk 42 (v := ?_) rfl (by kernel_rfl) (by kernel_rfl) (by kernel_rfl) (fun _ _ _ h => h) rfl ?_ h5 ?_; rotate_left; (focus (intro w hSw; (try dsimp only at hSw); have x0 := GV.out _ (hSw.fb 0 rfl); go_simp; (try with_reducible rfl))); (try simp only [Act.put, List.setIfInBounds_toArray, List.set_cons_zero, List.set_cons_succ])
      refine tk 43 (v := ?_) rfl (by kernel_rfl) (by kernel_rfl) (by kernel_rfl) (fun _ _ _ h => h) rfl ?_ h5 ?_; rotate_left; (focus (intro w hSw; (try dsimp only at hSw);  go_simp; (try with_reducible rfl))); (try simp only [Act.put, List.setIfInBounds_toArray, List.set_cons_zero, List.set_cons_succ])
      refine tk 44 (v := ?_) rfl (by kernel_rfl) (by kernel_rfl) (by kernel_rfl) (fun _ _ _ h => h) rfl ?_ h5 ?_; rotate_left; (focus (intro w hSw; (try dsimp only at hSw); have x0 := cp.out _ (hSw.fb 3 rfl); go_simp; (try with_reducible rfl))); (try simp only [Act.put, List.setIfInBounds_toArray, List.set_cons_zero, List.set_cons_succ])
      refine tk 45 (v := ?_) rfl (by kernel_rfl) (by kernel_rfl) (by kernel_rfl) (fun _ _ _ h => h) rfl ?_ h5 ?_; rotate_left; (focus (intro w hSw; (try dsimp only at hSw); have x9 : IntKind.i64.wrap (pv + 1) = pv + 1 := IntWalk.i64_in _ (by omega); go_simp; (try with_reducible rfl))); (try simp only [Act.put, List.setIfInBounds_toArray, List.set_cons_zero, List.set_cons_succ])
      refine tk 46 (v := ?_) rfl (by kernel_rfl) (by kernel_rfl) (by kernel_rfl) (fun _ _ _ h => h) rfl ?_ h5 ?_; rotate_left; (focus (intro w hSw; (try dsimp only at hSw);  go_simp; (try with_reducible rfl))); (try simp only [Act.put, List.setIfInBounds_toArray, List.set_cons_zero, List.set_cons_succ])
      refine tk 47 (v := ?_) rfl (by kernel_rfl) (by kernel_rfl) (by kernel_rfl) (fun _ _ _ h => h) rfl ?_ h5 ?_; rotate_left; (focus (intro w hSw; (try dsimp only at hSw);  go_simp; (try with_reducible rfl))); (try simp only [Act.put, List.setIfInBounds_toArray, List.set_cons_zero, List.set_cons_succ])
      refine tk 48 (v := ?_) rfl (by kernel_rfl) (by kernel_rfl) (by kernel_rfl) (fun _ _ _ h => h) rfl ?_ h5 ?_; rotate_left; (focus (intro w hSw; (try dsimp only at hSw);  go_simp; (try with_reducible rfl))); (try simp only [Act.put, List.setIfInBounds_toArray, List.set_cons_zero, List.set_cons_succ])
      have B9 := hid h5.bl
      clear h5 h4 h3 h2 hHeld U11
      refine wpAnyH_done (by kernel_rfl) ?_ _
      go_wp2_with fail
      go_ret
      exact ⟨rfl, B9.out⟩

set_option maxRecDepth 100000 in
theorem lifted (os : Os) (started : os.Started) (H : Type) (enc : TypeId × Value → H) :
    ReturnsInHanded {} Try.checked os 11 .any (Rows.headApartSpec.pre6 enc Try.prog Try.f11 [] false) (Rows.headApartSpec.post enc Try.prog Try.f11 false true false false) :=
  law_step (s := Rows.headApartSpec) started (by kernel_rfl) Try.func11
    (ChangeSpec.witness6 (s := Rows.headApartSpec) (enc := enc) (C := Try.checked) false ⟨#[], #[.slice none 0 0, .int .i64 0], []⟩ 8 (by kernel_rfl) (by kernel_rfl) (by kernel_rfl) (by kernel_rfl))
    rfl (by rw [Try.params11]; decide +kernel) rfl Try.underlying4
    (fun ds h => by
      rw [Try.params11] at h
      match ds, h with
      | [_, _], _ => rfl)
    (fun W base args ds ps hval hA hsz => by
      rw [Try.params11] at hA hval hsz
      obtain ⟨v0, vs0, d0, ds0, p0, q0, hargs, rfl, rfl, h0, r0⟩ := trodAll_cons hA
      obtain ⟨v1, vs1, d1, ds1, p1, q1, rfl, rfl, rfl, h1, r1⟩ := trodAll_cons r0
      obtain ⟨rfl, rfl, rfl⟩ := trodAll_nil r1
      obtain rfl : args = #[v0, v1] := by cases args; simp_all
      obtain ⟨A0, n0, c0, g0, rfl, hn0, hc0, hs0, hw0, hl0, hd0⟩ := open_row Try.underlying22 Try.underlying3 (by kernel_rfl) (hval 0 22 v0 rfl rfl) h0
      have re0 : c0 * 8 ≤ 140737488351232 := by
        rcases hd0 with ⟨_, h0⟩ | ⟨xs, ys, h1, h2⟩
        · omega
        · have := sized_slice hsz (j := 0) (t := 22) (e := 3) rfl (by rw [h1]; rfl) Try.underlying22
          rw [h2, show Try.prog.bytesOf 3 = 8 from by kernel_rfl] at this
          simpa [reachBytes] using this
      obtain ⟨a1, rfl, rfl, rfl, w1⟩ := open_int Try.underlying3 (hval 1 3 v1 rfl rfl) h1
      exact walk W A0 n0 c0 g0 hn0 hc0 hs0 (fun j => bounds_i64 (hw0 j)) hl0 re0 a1 (bounds_i64 w1))

theorem proved : Rows.HeadApartSaid :=
  OpenClaim.holds_of_wide 11 Try.f11 rfl rfl rfl rfl rfl rfl rfl ⟨rfl, rfl, rfl, rfl, rfl⟩ rfl rfl rfl rfl rfl (by kernel_rfl) Try.func11 (by kernel_rfl)
    (of_decide_eq_true (by kernel_rfl)) (by unfold Func.isWrapper; first | (rw [if_pos (by decide +kernel)]; kernel_rfl) | (rw [if_neg (by decide +kernel)]; exact ⟨rfl, rfl⟩))
    (fun os started H enc _ => lifted os started H enc)
end Go.Proofs.Ytppcanaelagfmaa.headApart
