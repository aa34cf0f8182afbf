/- roundhouselaw11.HeadGoes answers true for two rows of numbers, any number of units; no condition. -/
import Derived.Test.YtppcanaelagfmaaOwn
import Derived.Test.YtppcanaelagfmaaHdRow
import Derived.Test.YtppcanaelagfmaaHdKnown
import Derived.BigQuiet
import Derived.Deep.RegionHeld3
import Derived.Deep.Cut
import Derived.Deep.CutRange
import Derived.IntWalk
namespace Go.Proofs.Ytppcanaelagfmaa.headGoes
set_option linter.unusedVariables false
set_option linter.unusedSimpArgs false
open Go.RowKit Go.ChangeShapes Go.WideShapes Go.ChangeAt
section
variable {w : World} {b c m n : Nat} {h : Hd}
theorem sendG (hH : HeadAt w b c m n h) (hu : h.un ≤ 16) (hp : PB h.pl) (h' : Hd) (hv2 : 0 ≤ h'.pl.v ∧ h'.pl.v ≤ 1000000000) (l : List Nt) (k : Nat) (he : sendH h = h') (hl : notesK h' h.un = l) (hk : l.length = k) (h0 : 0 < k) :
    Calls Try.prog 22 #[.pointer (some ⟨b, 0, none⟩)] w fun x w' => ∃ (G cc : Nat), x = .returned (.slice (some ⟨G, 0, none⟩) k cc) ∧ k ≤ cc ∧ HeadAt w' b c m n h' ∧ Ch [b, c, m] w w' ∧ w.heap.size ≤ G ∧ Fb w' G (k * 342) (ntf l) :=
  (send_fa hH hu hp (by rw [he]; exact hv2) h' l he hl).mono fun x w' ⟨A, cc, hx, hlc, hH2, hC, hrow⟩ => by
    subst hk
    obtain ⟨G, rfl, hg, hF⟩ := hrow h0
    exact ⟨G, cc, hx, hlc, hH2, hC, hg, hF⟩
theorem sendL (hH : HeadAt w b c m n h) (hu : h.un ≤ 16) (hp : PB h.pl) (h' : Hd) (hv2 : 0 ≤ h'.pl.v ∧ h'.pl.v ≤ 1000000000) (k : Nat) (he : sendH h = h') (hk : (notesK h' h.un).length = k) :
    Calls Try.prog 22 #[.pointer (some ⟨b, 0, none⟩)] w fun x w' => ∃ (A : Option Addr) (cc : Nat), x = .returned (.slice A k cc) ∧ k ≤ cc ∧ HeadAt w' b c m n h' ∧ Ch [b, c, m] w w' :=
  (send_fa hH hu hp (by rw [he]; exact hv2) h' _ he rfl).mono fun x w' ⟨A, cc, hx, hlc, hH2, hC, hrow⟩ => by
    subst hk
    exact ⟨A, cc, hx, hlc, hH2, hC⟩
end

theorem build_nt024F (u v : Int) (w : World) : (Instr.build 58 #[(0, .int .i64 u), (2, .int .i64 v), (4, .bool true)]).run Try.prog w = .ok (.agg (FA 342 (ntc ⟨u, 0, v, false, true, zEn, zPl⟩))) w := run_build w _ _ _ (by kernel_rfl)
/-- What waits behind the first i of a entries. -/
def rsL (g : Nat → En) (a i : Nat) : List En := (List.range (a - i)).map fun j => g (i + j)
def hG (P q : Pl) (l : List En) (La : En) (u : Nat) (f : Nat → Wd) : Hd := ⟨P, q, l, La, u, f⟩
theorem rs_len (g : Nat → En) (a i : Nat) : (rsL g a i).length = a - i := by simp [rsL]
theorem rs_cons (g : Nat → En) {a i : Nat} (h : i < a) : rsL g a i = g i :: rsL g a (i + 1) := by
  unfold rsL
  rw [show a - i = (a - (i + 1)) + 1 by omega, List.range_succ_eq_map, List.map_cons, List.map_map]
  refine congr (congrArg _ (by simp)) (List.map_congr_left fun j _ => ?_)
  show g (i + (j + 1)) = g (i + 1 + j)
  rw [show i + (j + 1) = i + 1 + j by omega]
theorem rs_nil (g : Nat → En) (a : Nat) : rsL g a a = [] := by simp [rsL]
theorem run_pre {p : Pl} {g : Nat → En} {a : Nat} {q : Pl} (h : runP p g a = some q) {i : Nat} (hi : i ≤ a) : ∃ P, runP p g i = some P := by
  cases h1 : runP p g i with
  | some P => exact ⟨P, rfl⟩
  | none => rw [runP_none h1 a hi] at h; cases h
theorem run_step {p : Pl} {g : Nat → En} {i : Nat} {P P' : Pl} (h : runP p g i = some P) (h' : runP p g (i + 1) = some P') : apR P (g i) = (P', 0) := by
  unfold runP at h'
  rw [h] at h'
  simp only at h'
  by_cases h0 : (apR P (g i)).2 = 0
  · rw [if_pos h0] at h'
    injection h' with h'
    exact Prod.ext h' h0
  · rw [if_neg h0] at h'; cases h'
theorem all_up {h : Hd} (hf : ∀ j, j < h.un → (h.wd j).v = h.pl.v) : allB h = true := by
  unfold allB
  rw [List.all_eq_true]
  intro i hi
  rw [hf i (by simpa using hi)]
  simp
theorem send_go {P P' q : Pl} {g : Nat → En} {a i u : Nat} {La : En} {f : Nat → Wd} (hi : i < a) (ha : apR P (g i) = (P', 0)) (hf : ∀ j, j < u → f j = ⟨0, P.v⟩) : sendH (hG P q (rsL g a i) La u f) = hG P' q (rsL g a (i + 1)) (g i) u f := by
  unfold sendH
  rw [if_pos (all_up (fun j hj => by show (f j).v = P.v; rw [hf j hj]))]
  rw [rs_cons g hi]
  show (if (apR P (g i)).2 = 0 then hG (apR P (g i)).1 q (rsL g a (i + 1)) (g i) u f else hG P q (rsL g a (i + 1)) La u f) = _
  rw [ha, if_pos rfl]
theorem send_end {P q : Pl} {g : Nat → En} {a u : Nat} {La : En} {f : Nat → Wd} : sendH (hG P q (rsL g a a) La u f) = hG P q (rsL g a a) La u f := by
  rw [rs_nil]
  unfold sendH
  split <;> rfl
theorem heardG {P q : Pl} {l : List En} {La : En} {u k : Nat} {f : Nat → Wd} (hk : k < u) (hf : (f k).b = 0 ∧ (f k).v ≤ P.v) (hv : 0 ≤ P.v) : heardH (hG P q l La u f) ⟨(k : Int), 0, P.v, false, true, zEn, zPl⟩ = hG P q l La u (setW f k ⟨0, P.v⟩) := by
  have h1 : mx P.v = P.v := by unfold mx; rw [if_neg (by omega)]
  have e1 : earB (hG P q l La u f) ⟨(k : Int), 0, P.v, false, true, zEn, zPl⟩ = true := by
    unfold earB hG
    have a1 : (0 : Int) ≤ k := by omega
    have a2 : (k : Int) < u := by omega
    simp only [a1, a2, decide_true, Bool.and_self]
  obtain ⟨b0, hle⟩ := hf
  have e2 : cntB (f k) ⟨0, P.v⟩ = decide ((f k).v < P.v) := by unfold cntB; rw [b0]; simp
  have e3 : heardH (hG P q l La u f) ⟨(k : Int), 0, P.v, false, true, zEn, zPl⟩ = if decide ((f k).v < P.v) = true then hG P q l La u (setW f k ⟨0, P.v⟩) else hG P q l La u f := by
    unfold heardH
    rw [if_pos e1]
    simp only [Int.toNat_natCast, h1]
    rw [show (hG P q l La u f).wd = f from rfl, e2]
    rfl
  rw [e3]
  by_cases hlt : (f k).v < P.v
  · rw [if_pos (by simpa using hlt)]
  · rw [if_neg (by simpa using hlt)]
    have : setW f k ⟨0, P.v⟩ = f := by
      funext x
      unfold setW
      by_cases e : x = k
      · rw [if_pos e, e]
        have hx : (f k).v = P.v := by omega
        cases hh : f k with
        | mk b v => rw [hh] at b0 hx; simp only at b0 hx; rw [b0, hx]
      · rw [if_neg e]
    rw [this]
theorem rapply_fa (p : Pl) (e : En) (hp : PB p) (w : World) : Calls Try.prog 24 #[.agg (FA 330 (pc p)), .agg #[.int .i64 e.k, .int .i64 e.s, .int .i64 e.a, .int .i64 e.p, .int .i64 e.w, .int .u64 e.y.a, .int .u64 e.y.b]] w fun x w' => x = .returned (.tuple #[.agg (FA 330 (pc (apR p e).1)), .int .i64 (apR p e).2]) ∧ Below w.heap.size w w' := rapply_any p e hp w
theorem ldF {S : List Nat} {W w : World} {L : List Th} {p : Pl} {b k : Nat} (h : HS S W w L) (hk : L[k]? = some (thB b 330 (pc p))) : (Instr.loadAt 33 (.pointer (some ⟨b, 0, none⟩))).run Try.prog w = .ok (.agg (FA 330 (pc p))) w := (h.fb k hk).load 0 330 (pc p) (by omega) (fun j hj => by rw [Nat.zero_add]) Try.underlying33 rfl info_pl
theorem set_le {f : Nat → Wd} {k : Nat} {V : Int} (h : ∀ j, (f j).b = 0 ∧ (f j).v ≤ V) : ∀ j, (setW f k ⟨0, V⟩ j).b = 0 ∧ (setW f k ⟨0, V⟩ j).v ≤ V := by
  intro j
  unfold setW
  by_cases e : j = k
  · rw [if_pos e]; exact ⟨rfl, Int.le_refl _⟩
  · rw [if_neg e]; exact h j
theorem set_upV {f : Nat → Wd} {k : Nat} {V : Int} (h : ∀ j, j < k → f j = ⟨0, V⟩) : ∀ j, j < k + 1 → setW f k ⟨0, V⟩ j = ⟨0, V⟩ := by
  intro j hj
  unfold setW
  by_cases e : j = k
  · rw [if_pos e]
  · rw [if_neg e]; exact h j (by omega)
attribute [local irreducible] FA FL
set_option maxRecDepth 100000 in
set_option maxHeartbeats 8000000 in
theorem walk (W : World) (A1 : Option Addr) (n1 c1 : Nat) (g1 : Nat → Int) (hn1 : n1 ≤ c1) (hc1 : c1 ≤ maxLen) (hr1 : Is W A1 n1 g1) (hg1 : IsI g1) (hl1 : ∀ ad, A1 = some ad → 0 < n1 → ad.block < W.heap.size) (re1 : c1 * 8 ≤ 140737488351232) (a0 : Int) (r_a0 : -9223372036854775808 ≤ a0 ∧ a0 ≤ 9223372036854775807) (A2 : Option Addr) (n2 c2 : Nat) (g2 : Nat → Int) (hn2 : n2 ≤ c2) (hc2 : c2 ≤ maxLen) (hr2 : Is W A2 n2 g2) (hg2 : IsI g2) (hl2 : ∀ ad, A2 = some ad → 0 < n2 → ad.block < W.heap.size) (re2 : c2 * 8 ≤ 140737488351232) :
    Calls Try.prog 7 #[.slice A1 n1 c1, .int .i64 a0, .slice A2 n2 c2] W fun e w' => e = .returned (.bool true) ∧ Below W.heap.size W w' := by
  unfold maxLen at hc1
  have hnm : (n1 : Int) ≤ 9223372036854775807 := by have := hn1; omega
  have HL := hid hl1
  clear hl1 re1
  obtain ⟨p, hp⟩ : ∃ p, p = mkP g1 (min n1 30) := ⟨_, rfl⟩
  have HQ := hid (show Pinv p 30 from by rw [hp]; exact (mkP_inv g1 _).mono (by omega))
  have MK := hid (fun (w : World) (h : Is w A1 n1 g1) (hl : ∀ ad, A1 = some ad → 0 < n1 → ad.block < w.heap.size) => (show Calls Try.prog 13 #[.slice A1 n1 c1, .int .i64 30] w fun x w' => x = .returned (.agg (FA 330 (pc p))) ∧ Below w.heap.size w w' from by rw [hp]; exact make_fa w A1 n1 c1 g1 h hl hnm 30 (by omega)))
  clear hp
  obtain ⟨x0, hx0⟩ : ∃ x : Nat, (x : Int) = wi a0 5 := ⟨(wi a0 5).toNat, by have := wi_bd a0 5 (by omega); omega⟩
  have bx0 := wi_bd a0 5 (by omega)
  rw [← hx0] at bx0
  have Wx0 := hid (fun w => re_i64 (within_any a0 5 w (by omega) (by omega)) hx0.symm)
  clear hx0
  obtain ⟨bx01, bx02⟩ := bx0
  obtain ⟨u, hu⟩ : ∃ u : Nat, u = 1 + x0 := ⟨_, rfl⟩
  have hu1 : 1 ≤ u := by omega
  have hu2 : u ≤ 5 := by omega
  have HUX := hid (show (1 : Int) + x0 = u from by omega)
  obtain ⟨pv, hpv⟩ : ∃ x, p.v = x := ⟨_, rfl⟩
  have HPV := hid hpv
  have hv1 : 0 ≤ pv := by rw [← hpv]; exact HQ.out.1.1
  have hv2 : pv ≤ 30 := by rw [← hpv]; exact HQ.out.1.2
  clear hpv
  have HR2 := hid (show ∀ (w : World) (L : List Th), HS [] W w L → Is w A2 n2 g2 from fun w L h => hr2.below h.bl (Nat.le_refl _))
  have HG2 := hid hg2
  clear hr2 hl2 re2 hg2
  unfold maxLen at hc2
  have hnm2 : (n2 : Int) ≤ 9223372036854775807 := by have := hn2; omega
  have S0 : Hid (HS [] W W []) := hid HS.start
  go_enter Try.func7, Try.ntmps7
  go_wp2_with fail
  refine (hknown_any _).mono ?_
  rintro x w1 ⟨rfl, hB⟩
  have R1 := hid (hr1.below hB (Nat.le_refl _))
  have B1 := hid hB
  have S1 : Hid (HS [] W w1 []) := hid (S0.out.below hB)
  clear hr1 hB S0
  go_wp2_with fail
  refine (MK.out _ R1.out (fun ad e h => Nat.lt_of_lt_of_le (HL.out ad e h) B1.out.size)).mono ?_
  rintro x w2 ⟨rfl, hb⟩
  have S2 : Hid (HS [] W w2 []) := hid (S1.out.below hb)
  clear hb S1 MK
  go_simp
  go_upto_region 4 with (first | ((with_reducible refine wl_id ?_); refine wl_ow rfl (ow_alloc rfl (zpl_fa _) (by omega) S2.out ?_); intro P w_ hZ _; have SA := hid hZ; clear hZ) | ((with_reducible refine wl_id ?_); refine wl_ow rfl (ow_store (A := []) 0 330 (pc p) (pc p) rfl rfl rfl SA.out (by omega) (fun j hj => patch_all _ _ _ j hj) info_pl (pc_one _) ?_); intro w_ hZ; have SX := hid hZ; clear hZ))
  have S3 : Hid (HS [] W _ [thB P 330 (pc p)]) := hid (SX.out)
  go_wp2_with fail
  refine (Wx0.out _).mono ?_
  rintro x w_ ⟨rfl, rfl⟩
  go_simp
  clear hu
  go_upto_region 5 with (fail)
  rw [HUX.out]
  have NW := hid (hnew_fa p u ⟨by omega, by omega⟩)
  go_wp2_with ((with_reducible refine wl_id ?_); refine wl_ow rfl (ow_load 0 rfl 0 330 (pc p) rfl rfl S3.out (by omega) (fun j hj => by rw [Nat.zero_add]) Try.underlying33 rfl info_pl ?_))
  refine (NW.out _).mono ?_
  rintro x w6 ⟨b, c, m, rfl, hH, hg1, hg2, hg3, hB⟩
  have S4 : Hid (HS [] W w6 [thH b c m u (hG p p [] zEn u (fun _ => ⟨0, -1⟩)), thB P 330 (pc p)]) := hid (HS.addH S3.out (h := newH p u) hH hg1 hg2 hg3 hB)
  clear hH hg1 hg2 hg3 hB NW S3
  go_simp
  go_upto_region 9 with (fail)
  go_upto_region 10 with (first | ((with_reducible refine wl_id ?_); refine wl_ow rfl (ow_load 1 rfl 0 330 (pc p) rfl rfl S4.out (by omega) (fun j hj => by rw [Nat.zero_add]) Try.underlying33 rfl info_pl ?_)) | (first | ((with_reducible refine wl_id ?_); refine wl_ow rfl (ow_alloc rfl (zpl_fa _) (by omega) S4.out ?_); intro Q w_ hZ _; have SA := hid hZ; clear hZ) | ((with_reducible refine wl_id ?_); refine wl_ow rfl (ow_store (A := []) 0 330 (pc p) (pc p) rfl rfl rfl SA.out (by omega) (fun j hj => patch_all _ _ _ j hj) info_pl (pc_one _) ?_); intro w_ hZ; have SX := hid hZ; clear hZ)))
  have SY : Hid (HS [] W _ [thE (.slice none 0 0) 0 (fun _ => zEn), thB Q 330 (pc p), thH b c m u (hG p p [] zEn u (fun _ => ⟨0, -1⟩)), thB P 330 (pc p)]) := hid SX.out.nilE
  clear SX
  go_wp2_with fail
  go_loopg [11, 13] 12 (fun gh v i wx => ∃ (k a : Nat) (A : Option Addr) (d : Nat) (g : Nat → En) (q : Pl), gh = 12 - k ∧ k ≤ 12 ∧ k ≤ n2 ∧ a ≤ k ∧ v = .slice A a d ∧ a ≤ d ∧ i = .int .i64 (k : Int) ∧ runP p g a = some q ∧ Pinv q (30 + a) ∧ HS [] W wx [thE (.slice A a d) a g, thB Q 330 (pc q), thH b c m u (hG p p [] zEn u (fun _ => ⟨0, -1⟩)), thB P 330 (pc p)])
  case atStart => exact ⟨0, 0, none, 0, fun _ => zEn, p, by omega, by omega, by omega, by omega, rfl, by omega, rfl, rfl, HQ.out.mono (by omega), SY.out⟩
  case round =>
    clear SY
    obtain ⟨k, a, A, d, g, q, hgh, hk, hkn, hak, rfl, hcap, rfl, hrun, hpi, hS⟩ := hrel
    have U0 := hid hS
    have HRU := hid hrun
    have HPI := hid hpi
    clear hS hrun hpi
    go_upto_region 11 with (fail)
    obtain ⟨bb, hbb⟩ : ∃ bb : Bool, bb = (decide (k < n2) && decide (k < 12)) := ⟨_, rfl⟩
    have HBB := hid hbb
    clear hbb
    go_cut [45] from 38 to 45 (fun x wx => x = .bool bb ∧ wr = wx)
    case first =>
      by_cases h1 : (k : Int) < n2
      · by_cases h2 : (k : Int) < 12
        · go_wp2_with fail
          go_meet
          exact ⟨by rw [HBB.out]; simp; omega, rfl⟩
        · go_wp2_with fail
          go_meet
          exact ⟨by rw [HBB.out]; simp; omega, rfl⟩
      · go_wp2_with fail
        go_meet
        exact ⟨by rw [HBB.out]; simp; omega, rfl⟩
    case rest =>
      obtain ⟨rfl, rfl⟩ := hcut
      cases bb
      · clear HBB
        go_wp2_with fail
        have SE := hid (U0.out.se 0 rfl)
        refine (wish_any (U0.out.nth 2 rfl : HeadAt _ b c m u (hG p p [] zEn u (fun _ => ⟨0, -1⟩))) g A a d SE.out (fun ad e h0 => ?_) (show 0 + a ≤ 200 by omega) 30 HQ.out (by omega)).mono ?_
        · obtain ⟨A', c', hv, _, _, hA⟩ := Ow.form_ (U0.out.row (A := []) : Ow _ 0 44 7 (.slice A a d) a (fun j => enc (g (j / 7)) (j % 7)))
          injection hv with hv1 _ _
          obtain ⟨gg, e2, _, _⟩ := hA ad (hv1.symm.trans e)
          subst e2
          have hnd := U0.out.2.2.1
          subst e
          simp [thE, thW, thH, thB, Value.ownBlock] at hnd ⊢
          omega
        rintro x w8 ⟨q_, j_, er_, ho, rfl, hH, hC⟩
        obtain ⟨e1, e2, e3⟩ := ho.uniq (.all HRU.out)
        subst e1; subst e2; subst e3
        rw [if_pos rfl] at hH
        skip
        have hH2 : HeadAt w8 b c m u (hG p q_ (rsL g j_ 0) zEn u (fun _ => ⟨0, -1⟩)) := by
          have e : rsL g j_ 0 = [] ++ (List.range j_).map g := by unfold rsL; simp
          rw [e]
          exact hH
        have U1 : Hid (HS [] W w8 [thE (.slice A j_ d) j_ g, thB Q 330 (pc q_), thH b c m u (hG p q_ (rsL g j_ 0) zEn u (fun _ => ⟨0, -1⟩)), thB P 330 (pc p)]) := hid (HS.upd (A := [thE (.slice A j_ d) j_ g, thB Q 330 (pc q_)]) (B := [thB P 330 (pc p)]) U0.out (thH b c m u (hG p q_ (rsL g j_ 0) zEn u (fun _ => ⟨0, -1⟩))) rfl hC hH2)
        clear hH hH2 hC ho SE U0
        go_simp
        go_wp2_with fail
        have WA := hid (show ∀ (w : World) (n : Nat), HeadAt w b c m n (hG p q_ (rsL g j_ 0) zEn u (fun _ => ⟨0, -1⟩)) → Calls Try.prog 19 #[.pointer (some ⟨b, 0, none⟩)] w fun x w' => x = .returned (.int .i64 (((j_ : Nat) : Int))) ∧ w = w' from fun w n h => by have h2 := waiting_any h; rw [show (hG p q_ (rsL g j_ 0) zEn u (fun _ => ⟨0, -1⟩)).q.length = j_ from by show (rsL g j_ 0).length = j_; rw [rs_len]; omega] at h2; exact h2)
        refine (WA.out _ _ (U1.out.nth 2 rfl)).mono ?_
        rintro x w' ⟨rfl, rfl⟩
        clear WA
        go_simp
        go_wp2_with fail
        have cp := hid (show ∀ w, Fb w P 330 (pc p) → w.cell? ⟨P, 0, none⟩ = some (.int .i64 pv) from fun w h => by rw [← HPV.out]; exact h.2.1 0 (by omega))
        have GI := hid HPI.out
        clear HPI
        skip
        obtain ⟨PP, hPP⟩ : ∃ x, x = P := ⟨_, rfl⟩
        rw [← hPP] at U1 cp ⊢
        clear hPP
        go_loopg [16, 17] (j_ + 1) (fun gh iv kv wx => ∃ (i cc n : Nat) (P : Pl) (La : En) (f : Nat → Wd), gh = j_ + 1 - i ∧ i ≤ j_ + 1 ∧ cc = min i j_ ∧ n ≤ 5 + 5 * i ∧ iv = .int .i64 (i : Int) ∧ runP p g cc = some P ∧ (∀ j, (f j).b = 0 ∧ (f j).v ≤ P.v) ∧ HS [] W wx [thE (.slice A j_ d) j_ g, thB Q 330 (pc q_), thH b c m n (hG P q_ (rsL g j_ cc) La u f), thB PP 330 (pc p)])
        case atStart => exact ⟨0, 0, u, p, zEn, fun _ => ⟨0, -1⟩, by omega, by omega, by omega, by omega, rfl, rfl, fun j => ⟨rfl, by show (-1 : Int) ≤ p.v; rw [HPV.out]; omega⟩, U1.out⟩
        case round =>
          clear U1
          obtain ⟨i, cc, n, P, La, f, hgh, hi, hcc, hn, rfl, hrun, hf, hS⟩ := hrel
          have U2 := hid hS
          have HRP := hid hrun
          have HF := hid hf
          clear hS hrun hf
          obtain ⟨V, hV⟩ : ∃ V, P.v = V := ⟨_, rfl⟩
          have HV := hid hV
          have HVV := hid (show V = pv + cc from by rw [← hV, runP_v HRP.out, HPV.out])
          have HPI := hid (run_invH HQ.out HRP.out)
          have hV1 : 0 ≤ V := by have := HVV.out; omega
          have hV2 : V ≤ 42 := by have := HVV.out; omega
          clear hV
          by_cases hlt : (i : Int) ≤ j_
          · have hci : cc = i := by omega
            subst hci
            clear hcc
            have VA := hid (show ∀ (w : World) (n : Nat) (f : Nat → Wd), HeadAt w b c m n (hG P q_ (rsL g j_ cc) La u f) → Calls Try.prog 21 #[.pointer (some ⟨b, 0, none⟩)] w fun x w' => x = .returned (.int .i64 V) ∧ w = w' from fun w n f h => by rw [← HV.out]; exact version_any h)
            go_upto_region 22 with (fail)
            refine wp_region_held_drew (S := fun (w' : World) => HS [] W w' [thE (.slice A j_ d) j_ g, thB Q 330 (pc q_), thH b c m n (hG P q_ (rsL g j_ cc) La u f), thB PP 330 (pc p)]) (by kernel_rfl) ?_ (fun hHeld => ?_)
            · exact U2.out.drew
            refine tk 0 (v := ?_) rfl (by kernel_rfl) (by kernel_rfl) (by kernel_rfl) (fun _ _ _ h => h) rfl ?_ hHeld ?_; rotate_left; (focus (intro w hSw; (try dsimp only at hSw);  go_simp; (try with_reducible rfl))); (try simp only [Act.put, List.setIfInBounds_toArray, List.set_cons_zero, List.set_cons_succ])
            refine tk 2 (v := ?_) rfl (by kernel_rfl) (by kernel_rfl) (by kernel_rfl) (fun _ _ _ h => h) rfl ?_ hHeld ?_; rotate_left; (focus (intro w hSw; (try dsimp only at hSw);  go_simp; (try with_reducible rfl))); (try simp only [Act.put, List.setIfInBounds_toArray, List.set_cons_zero, List.set_cons_succ])
            refine tk 3 (v := ?_) rfl (by kernel_rfl) (by kernel_rfl) (by kernel_rfl) (fun _ _ _ h => h) rfl ?_ hHeld ?_; rotate_left; (focus (intro w hSw; (try dsimp only at hSw); have x0 := cp.out _ (hSw.fb 3 rfl); go_simp; (try with_reducible rfl))); (try simp only [Act.put, List.setIfInBounds_toArray, List.set_cons_zero, List.set_cons_succ])
            refine tk 4 (v := ?_) rfl (by kernel_rfl) (by kernel_rfl) (by kernel_rfl) (fun _ _ _ h => h) rfl ?_ hHeld ?_; rotate_left; (focus (intro w hSw; (try dsimp only at hSw);  go_simp; (try with_reducible rfl))); (try simp only [Act.put, List.setIfInBounds_toArray, List.set_cons_zero, List.set_cons_succ])
            refine tk 5 (v := ?_) rfl (by kernel_rfl) (by kernel_rfl) (by kernel_rfl) (fun _ _ _ h => h) rfl ?_ hHeld ?_; rotate_left; (focus (intro w hSw; (try dsimp only at hSw); have x9 : IntKind.i64.wrap (pv + (cc : Int)) = pv + cc := IntWalk.i64_in _ (by omega); go_simp; (try with_reducible rfl))); (try simp only [Act.put, List.setIfInBounds_toArray, List.set_cons_zero, List.set_cons_succ])
            refine only 1 rfl (by kernel_rfl) rfl (fun K hK => ?_)
            go_simp
            refine (VA.out _ _ _ (hHeld.nth 2 rfl)).mono ?_
            rintro e' w' ⟨rfl, rfl⟩
            try go_wp2_with fail
            refine hK.out _ _ (hHeld) (fun h2 => ?_)
            clear hK
            try simp only [Act.put, List.setIfInBounds_toArray, List.set_cons_zero, List.set_cons_succ]
            refine tk 6 (v := ?_) rfl (by kernel_rfl) (by kernel_rfl) (by kernel_rfl) (fun _ _ _ h => h) rfl ?_ h2 ?_; rotate_left; (focus (intro w hSw; (try dsimp only at hSw); have x6 : (V != pv + (cc : Int)) = false := (by rw [HVV.out]; simp); go_simp; (try with_reducible rfl))); (try simp only [Act.put, List.setIfInBounds_toArray, List.set_cons_zero, List.set_cons_succ])
            have U3 := hid h2
            clear h2 hHeld U2
            refine wpAnyH_done (by kernel_rfl) ?_ _
            go_wp2_with fail
            go_loopw [17] (fun kv wx => ∃ (k n' : Nat) (f : Nat → Wd), k ≤ u ∧ n' ≤ n + k ∧ kv = .int .i64 (k : Int) ∧ (∀ j, (f j).b = 0 ∧ (f j).v ≤ V) ∧ (∀ j, j < k → f j = ⟨0, V⟩) ∧ HS [] W wx [thE (.slice A j_ d) j_ g, thB Q 330 (pc q_), thH b c m n' (hG P q_ (rsL g j_ cc) La u f), thB PP 330 (pc p)]) (fun k _ => u - (intOf k).toNat)
            case atStart => exact ⟨0, n, f, by omega, by omega, rfl, by rw [← HV.out]; exact HF.out, fun i hi => absurd hi (Nat.not_lt_zero _), U3.out⟩
            case round =>
              clear U3 HF
              obtain ⟨k, n', f, hk, hn', rfl, hle, hup, hS⟩ := hrel
              have U4 := hid hS
              have HLE := hid hle
              have HUP := hid hup
              clear hS hle hup
              by_cases hltk : (k : Int) < u
              · have hku : k < u := by omega
                go_upto_region 27 with (fail)
                apply wp_region_lit
                refine wl_val (v := ?_) rfl ?_ ?_; rotate_left; (focus ( go_simp; (try with_reducible rfl))); (try simp only [Act.put, List.setIfInBounds_toArray, List.set_cons_zero, List.set_cons_succ])
                refine wl_val (v := ?_) rfl ?_ ?_; rotate_left; (focus ( go_simp; (try with_reducible rfl))); (try simp only [Act.put, List.setIfInBounds_toArray, List.set_cons_zero, List.set_cons_succ])
                refine wl_val (v := ?_) rfl ?_ ?_; rotate_left; (focus ( go_simp; (try with_reducible rfl))); (try simp only [Act.put, List.setIfInBounds_toArray, List.set_cons_zero, List.set_cons_succ])
                go_wp2_with fail
                refine (VA.out _ _ _ (U4.out.nth 2 rfl)).mono ?_
                rintro x w_ ⟨rfl, rfl⟩
                go_simp
                apply_assumption
                refine wl_build3 rfl rfl rfl rfl rfl (build_nt024F (k : Int) V _) ?_
                try simp only [Act.put, List.setIfInBounds_toArray, List.set_cons_zero, List.set_cons_succ]
                go_wp2_with fail
                refine (heard_fa (U4.out.nth 2 rfl : HeadAt _ b c m n' (hG P q_ (rsL g j_ cc) La u f)) ⟨(k : Int), 0, V, false, true, zEn, zPl⟩ (show u ≤ 16 by omega) (by omega) (hG P q_ (rsL g j_ cc) La u (setW f k ⟨0, V⟩)) (by have := heardG (q := q_) (l := rsL g j_ cc) (La := La) hku (show (f k).b = 0 ∧ (f k).v ≤ P.v by rw [HV.out]; exact HLE.out k) (show 0 ≤ P.v by rw [HV.out]; exact hV1); rw [HV.out] at this; exact this)).mono ?_
                rintro x w9 ⟨rfl, hH, hC⟩
                have U5 : Hid (HS [] W w9 [thE (.slice A j_ d) j_ g, thB Q 330 (pc q_), thH b c m (n' + 1) (hG P q_ (rsL g j_ cc) La u (setW f k ⟨0, V⟩)), thB PP 330 (pc p)]) := hid (HS.upd (A := [thE (.slice A j_ d) j_ g, thB Q 330 (pc q_)]) (B := [thB PP 330 (pc p)]) U4.out (thH b c m (n' + 1) (hG P q_ (rsL g j_ cc) La u (setW f k ⟨0, V⟩))) rfl hC hH)
                clear hH hC U4
                go_simp
                go_wp2_with fail
                go_roundw
                case rel => exact ⟨k + 1, n' + 1, _, by omega, by omega, by go_num, set_le HLE.out, set_upV HUP.out, U5.out⟩
                case measure => simp [intOf]; omega
              · have hku : k = u := by omega
                have ALL := hid (show ∀ j, j < u → f j = ⟨0, P.v⟩ from by rw [HV.out, ← hku]; exact HUP.out)
                clear HUP hku
                go_wp2_with fail
                by_cases hia : cc < j_
                · obtain ⟨P', hP'⟩ := run_pre HRU.out (show cc + 1 ≤ j_ by omega)
                  have HP' := hid hP'
                  have AP := hid (run_step HRP.out hP')
                  have HPV' := hid (show P'.v = V + 1 from by rw [runP_v hP', HPV.out]; have := HVV.out; omega)
                  clear hP'
                  refine (sendL (U4.out.nth 2 rfl : HeadAt _ b c m n' (hG P q_ (rsL g j_ cc) La u f)) (show u ≤ 16 by omega) (HPI.out.pb (by omega)) (hG P' q_ (rsL g j_ (cc + 1)) (g cc) u f) (show 0 ≤ P'.v ∧ P'.v ≤ 1000000000 by rw [HPV'.out]; omega) _ (send_go hia AP.out ALL.out) rfl).mono ?_
                  rintro x w9 ⟨A5, cc5, rfl, hlc5, hH, hC⟩
                  have U5 : Hid (HS [] W w9 [thE (.slice A j_ d) j_ g, thB Q 330 (pc q_), thH b c m n' (hG P' q_ (rsL g j_ (cc + 1)) (g cc) u f), thB PP 330 (pc p)]) := hid (HS.upd (A := [thE (.slice A j_ d) j_ g, thB Q 330 (pc q_)]) (B := [thB PP 330 (pc p)]) U4.out (thH b c m n' (hG P' q_ (rsL g j_ (cc + 1)) (g cc) u f)) rfl hC hH)
                  clear hH hC U4 hlc5
                  go_simp
                  go_wp2_with fail
                  have WB := hid (show ∀ (w : World) (n : Nat), HeadAt w b c m n (hG P' q_ (rsL g j_ (cc + 1)) (g cc) u f) → Calls Try.prog 19 #[.pointer (some ⟨b, 0, none⟩)] w fun x w' => x = .returned (.int .i64 (((j_ - (cc + 1) : Nat) : Int))) ∧ w = w' from fun w n h => by have h2 := waiting_any h; rw [show (hG P' q_ (rsL g j_ (cc + 1)) (g cc) u f).q.length = j_ - (cc + 1) from by show (rsL g j_ (cc + 1)).length = _; rw [rs_len]] at h2; exact h2)
                  refine (WB.out _ _ (U5.out.nth 2 rfl)).mono ?_
                  rintro x w' ⟨rfl, rfl⟩
                  clear WB
                  go_simp
                  have x1 : IntKind.i64.wrap ((j_ : Int) - (cc : Int)) = (j_ : Int) - cc := IntWalk.i64_in _ (by omega)
                  have x2 : IntKind.i64.wrap ((j_ : Int) - (cc : Int) - 1) = (j_ : Int) - cc - 1 := IntWalk.i64_in _ (by omega)
                  have x3 : max ((j_ : Int) - (cc : Int) - 1) 0 = ((j_ - (cc + 1) : Nat) : Int) := by omega
                  go_wp2_with fail
                  go_roundg (j_ + 1 - (cc + 1))
                  case rel => exact ⟨cc + 1, cc + 1, n', P', g cc, f, by omega, by omega, by omega, by omega, by go_num, HP'.out, fun j => ⟨(HLE.out j).1, by have h1 := (HLE.out j).2; have h2 := HPV'.out; omega⟩, U5.out⟩
                  case measure => omega
                · have hcj : cc = j_ := by omega
                  have HCJ := hid hcj
                  have hcj : cc = j_ := by omega
                  have HCJ := hid hcj
                  refine (sendL (U4.out.nth 2 rfl : HeadAt _ b c m n' (hG P q_ (rsL g j_ cc) La u f)) (show u ≤ 16 by omega) (HPI.out.pb (by omega)) (hG P q_ (rsL g j_ cc) La u f) (show 0 ≤ P.v ∧ P.v ≤ 1000000000 by rw [HV.out]; omega) _ (by rw [HCJ.out]; exact send_end) rfl).mono ?_
                  rintro x w9 ⟨A5, cc5, rfl, hlc5, hH, hC⟩
                  have U5 : Hid (HS [] W w9 [thE (.slice A j_ d) j_ g, thB Q 330 (pc q_), thH b c m n' (hG P q_ (rsL g j_ cc) La u f), thB PP 330 (pc p)]) := hid (HS.upd (A := [thE (.slice A j_ d) j_ g, thB Q 330 (pc q_)]) (B := [thB PP 330 (pc p)]) U4.out (thH b c m n' (hG P q_ (rsL g j_ cc) La u f)) rfl hC hH)
                  clear hH hC U4 hlc5
                  go_simp
                  go_wp2_with fail
                  have WB := hid (show ∀ (w : World) (n : Nat), HeadAt w b c m n (hG P q_ (rsL g j_ cc) La u f) → Calls Try.prog 19 #[.pointer (some ⟨b, 0, none⟩)] w fun x w' => x = .returned (.int .i64 (((0 : Nat) : Int))) ∧ w = w' from fun w n h => by have h2 := waiting_any h; rw [show (hG P q_ (rsL g j_ cc) La u f).q.length = 0 from by show (rsL g j_ cc).length = _; rw [rs_len]; have := HCJ.out; omega] at h2; exact h2)
                  refine (WB.out _ _ (U5.out.nth 2 rfl)).mono ?_
                  rintro x w' ⟨rfl, rfl⟩
                  clear WB
                  go_simp
                  have x1 : IntKind.i64.wrap ((j_ : Int) - (cc : Int)) = (j_ : Int) - cc := IntWalk.i64_in _ (by omega)
                  have x2 : IntKind.i64.wrap ((j_ : Int) - (cc : Int) - 1) = (j_ : Int) - cc - 1 := IntWalk.i64_in _ (by omega)
                  have x3 : max ((j_ : Int) - (cc : Int) - 1) 0 = ((0 : Nat) : Int) := by omega
                  go_wp2_with fail
                  go_roundg (j_ + 1 - (cc + 1))
                  case rel => exact ⟨cc + 1, cc, n', P, La, f, by omega, by omega, by omega, by omega, by go_num, HRP.out, fun j => ⟨(HLE.out j).1, by have h1 := (HLE.out j).2; have h2 := HV.out; omega⟩, U5.out⟩
                  case measure => omega
          · have hcj : cc = j_ := by omega
            have hPq : P = q_ := by have h1 := HRP.out; rw [hcj, HRU.out] at h1; exact (Option.some.inj h1).symm
            subst hPq
            clear hcc
            go_upto_region 31 with (fail)
            have VA := hid (show ∀ (w : World), HeadAt w b c m n (hG P P (rsL g j_ cc) La u f) → Calls Try.prog 21 #[.pointer (some ⟨b, 0, none⟩)] w fun x w' => x = .returned (.int .i64 V) ∧ w = w' from fun w h => by rw [← HV.out]; exact version_any h)
            have cq := hid (show ∀ w, Fb w Q 330 (pc P) → w.cell? ⟨Q, 0, none⟩ = some (.int .i64 V) from fun w h => by rw [← HV.out]; exact h.2.1 0 (by omega))
            refine wp_region_held_drew (S := fun (w' : World) => HS [] W w' [thE (.slice A j_ d) j_ g, thB Q 330 (pc P), thH b c m n (hG P P (rsL g j_ cc) La u f), thB PP 330 (pc p)]) (by kernel_rfl) ?_ (fun hHeld => ?_)
            · exact U2.out.drew
            refine tk 0 (v := ?_) rfl (by kernel_rfl) (by kernel_rfl) (by kernel_rfl) (fun _ _ _ h => h) rfl ?_ hHeld ?_; rotate_left; (focus (intro w hSw; (try dsimp only at hSw);  go_simp; (try with_reducible rfl))); (try simp only [Act.put, List.setIfInBounds_toArray, List.set_cons_zero, List.set_cons_succ])
            refine tk 2 (v := .agg (FA 330 (pc P))) rfl (by kernel_rfl) (by kernel_rfl) (by kernel_rfl) (fun _ _ _ h => h) rfl (fun w hSw => ex_load rfl rfl (ldF hSw (k := 1) rfl)) hHeld ?_; (try simp only [Act.put, List.setIfInBounds_toArray, List.set_cons_zero, List.set_cons_succ])
            refine only 1 rfl (by kernel_rfl) rfl (fun K hK => ?_)
            go_simp
            refine (pool_fa (hHeld.nth 2 rfl : HeadAt _ b c m n (hG P P (rsL g j_ cc) La u f))).mono ?_
            rintro e' w' ⟨rfl, hb⟩
            try go_wp2_with fail
            refine hK.out _ _ (hHeld.below hb) (fun h2 => ?_)
            clear hK
            try simp only [Act.put, List.setIfInBounds_toArray, List.set_cons_zero, List.set_cons_succ]
            refine tk 3 (v := .bool true) rfl (by kernel_rfl) (by kernel_rfl) (by kernel_rfl) (fun _ _ _ h => h) rfl (fun w hSw => ex_eqF _ _ rfl P rfl rfl w) h2 ?_; (try simp only [Act.put, List.setIfInBounds_toArray, List.set_cons_zero, List.set_cons_succ])
            refine tk 4 (v := ?_) rfl (by kernel_rfl) (by kernel_rfl) (by kernel_rfl) (fun _ _ _ h => h) rfl ?_ h2 ?_; rotate_left; (focus (intro w hSw; (try dsimp only at hSw);  go_simp; (try with_reducible rfl))); (try simp only [Act.put, List.setIfInBounds_toArray, List.set_cons_zero, List.set_cons_succ])
            refine tk 5 (v := ?_) rfl (by kernel_rfl) (by kernel_rfl) (by kernel_rfl) (fun _ _ _ h => h) rfl ?_ h2 ?_; rotate_left; (focus (intro w hSw; (try dsimp only at hSw);  go_simp; (try with_reducible rfl))); (try simp only [Act.put, List.setIfInBounds_toArray, List.set_cons_zero, List.set_cons_succ])
            refine tk 7 (v := ?_) rfl (by kernel_rfl) (by kernel_rfl) (by kernel_rfl) (fun _ _ _ h => h) rfl ?_ h2 ?_; rotate_left; (focus (intro w hSw; (try dsimp only at hSw);  go_simp; (try with_reducible rfl))); (try simp only [Act.put, List.setIfInBounds_toArray, List.set_cons_zero, List.set_cons_succ])
            refine tk 8 (v := ?_) rfl (by kernel_rfl) (by kernel_rfl) (by kernel_rfl) (fun _ _ _ h => h) rfl ?_ h2 ?_; rotate_left; (focus (intro w hSw; (try dsimp only at hSw); have x0 := cq.out _ (hSw.fb 1 rfl); go_simp; (try with_reducible rfl))); (try simp only [Act.put, List.setIfInBounds_toArray, List.set_cons_zero, List.set_cons_succ])
            refine only 6 rfl (by kernel_rfl) rfl (fun K hK => ?_)
            go_simp
            refine (VA.out _ (h2.nth 2 rfl)).mono ?_
            rintro e' w' ⟨rfl, rfl⟩
            try go_wp2_with fail
            refine hK.out _ _ (h2) (fun h3 => ?_)
            clear hK
            try simp only [Act.put, List.setIfInBounds_toArray, List.set_cons_zero, List.set_cons_succ]
            refine tk 9 (v := ?_) rfl (by kernel_rfl) (by kernel_rfl) (by kernel_rfl) (fun _ _ _ h => h) rfl ?_ h3 ?_; rotate_left; (focus (intro w hSw; (try dsimp only at hSw);  go_simp; (try with_reducible rfl))); (try simp only [Act.put, List.setIfInBounds_toArray, List.set_cons_zero, List.set_cons_succ])
            refine tk 10 (v := ?_) rfl (by kernel_rfl) (by kernel_rfl) (by kernel_rfl) (fun _ _ _ h => h) rfl ?_ h3 ?_; rotate_left; (focus (intro w hSw; (try dsimp only at hSw);  go_simp; (try with_reducible rfl))); (try simp only [Act.put, List.setIfInBounds_toArray, List.set_cons_zero, List.set_cons_succ])
            refine tk 11 (v := ?_) rfl (by kernel_rfl) (by kernel_rfl) (by kernel_rfl) (fun _ _ _ h => h) rfl ?_ h3 ?_; rotate_left; (focus (intro w hSw; (try dsimp only at hSw);  go_simp; (try with_reducible rfl))); (try simp only [Act.put, List.setIfInBounds_toArray, List.set_cons_zero, List.set_cons_succ])
            have B9 := hid h3.bl
            clear h3 h2 hHeld U2
            refine wpAnyH_done (by kernel_rfl) ?_ _
            go_wp2_with fail
            go_ret
            exact ⟨rfl, B9.out⟩
      · have hkn2 : k < n2 ∧ k < 12 := by have := HBB.out; simp at this; exact this
        obtain ⟨hl1, hl2⟩ := hkn2
        clear HBB
        have i1 : (k : Int) < n2 := by omega
        have i2 : (k : Int) < 12 := by omega
        obtain ⟨bb, off, rfl⟩ := Sl.addr (HR2.out _ _ U0.out) (by omega)
        have RR := hid (fun (w : World) (L : List Th) (h : HS [] W w L) => Sl.at_ (show Sl w (some ⟨bb, off, none⟩) n2 (fun j => .int .i64 (g2 j)) from HR2.out w L h) (j := k) (by omega))
        have EN0 := fun w => entry_any (g2 k) w
        obtain ⟨gk, hgk⟩ : ∃ x, x = g2 k := ⟨_, rfl⟩
        rw [← hgk] at EN0 RR
        clear hgk
        obtain ⟨en, hen⟩ : ∃ en, en = enN gk := ⟨_, rfl⟩
        rw [← hen] at EN0
        clear hen
        unfold enV at EN0
        have EN := hid EN0
        clear EN0
        have RP0 := fun w => rapply_fa q en (HPI.out.pb (by omega)) w
        have HAR := hid (show runP p (setE g a en) (a + 1) = if (apR q en).2 = 0 then some (apR q en).1 else none from by
            have h1 : runP p (setE g a en) a = some q := by rw [← HRU.out]; exact run_cong fun j hj => by unfold setE; rw [if_neg (by omega)]
            unfold runP
            rw [h1]
            simp only
            rw [show setE g a en a = en by unfold setE; rw [if_pos rfl]])
        have HIV := hid (fun h0 => apR_inv HPI.out (e := en) h0)
        generalize apR q en = ar at *
        obtain ⟨q2, er⟩ := ar
        simp only at RP0
        have RP := hid RP0
        clear RP0
        go_upto_region 13 with (fail)
        go_cut [14, 15] from 48 to 57 (fun x y wx => ∃ U : Nat, x = .pointer (some ⟨U, 0, none⟩) ∧ y = .int .i64 er ∧ HS [] W wx (thB U 330 (pc q2) :: [thE (.slice A a d) a g, thB Q 330 (pc q), thH b c m u (hG p p [] zEn u (fun _ => ⟨0, -1⟩)), thB P 330 (pc p)]))
        case first =>
          refine wp_region_held_drew (S := fun (w' : World) => HS [] W w' [thE (.slice A a d) a g, thB Q 330 (pc q), thH b c m u (hG p p [] zEn u (fun _ => ⟨0, -1⟩)), thB P 330 (pc p)]) (by kernel_rfl) ?_ (fun hHeld => ?_)
          · exact U0.out.drew
          refine tk 0 (v := .agg (FA 330 (pc q))) rfl (by kernel_rfl) (by kernel_rfl) (by kernel_rfl) (fun _ _ _ h => h) rfl (fun w hSw => ex_load rfl rfl (ldF hSw (k := 1) rfl)) hHeld ?_; (try simp only [Act.put, List.setIfInBounds_toArray, List.set_cons_zero, List.set_cons_succ])
          refine tk 1 (v := ?_) rfl (by kernel_rfl) (by kernel_rfl) (by kernel_rfl) (fun _ _ _ h => h) rfl ?_ hHeld ?_; rotate_left; (focus (intro w hSw; (try dsimp only at hSw);  go_simp; (try with_reducible rfl))); (try simp only [Act.put, List.setIfInBounds_toArray, List.set_cons_zero, List.set_cons_succ])
          refine tk 2 (v := ?_) rfl (by kernel_rfl) (by kernel_rfl) (by kernel_rfl) (fun _ _ _ h => h) rfl ?_ hHeld ?_; rotate_left; (focus (intro w hSw; (try dsimp only at hSw);  go_simp; (try with_reducible rfl))); (try simp only [Act.put, List.setIfInBounds_toArray, List.set_cons_zero, List.set_cons_succ])
          refine tk 3 (v := ?_) rfl (by kernel_rfl) (by kernel_rfl) (by kernel_rfl) (fun _ _ _ h => h) rfl ?_ hHeld ?_; rotate_left; (focus (intro w hSw; (try dsimp only at hSw); have z1 : (0 : Int) ≤ k := (by omega); have z3 : k < n2 := (by omega); have z4 : (0 : Nat) ≤ k := Nat.zero_le _; go_simp; (try with_reducible rfl))); (try simp only [Act.put, List.setIfInBounds_toArray, List.set_cons_zero, List.set_cons_succ])
          refine tk 4 (v := ?_) rfl (by kernel_rfl) (by kernel_rfl) (by kernel_rfl) (fun _ _ _ h => h) rfl ?_ hHeld ?_; rotate_left; (focus (intro w hSw; (try dsimp only at hSw); have xc := RR.out w _ hSw; go_simp; (try with_reducible rfl))); (try simp only [Act.put, List.setIfInBounds_toArray, List.set_cons_zero, List.set_cons_succ])
          refine twoUp 5 10 rfl rfl (by kernel_rfl) rfl rfl (fun K hK => ?_) (fun K hK => ?_)
          · go_simp
            refine (EN.out _).mono ?_
            rintro e' w' ⟨rfl, hb⟩
            try go_wp2_with fail
            refine hK.out _ _ (hHeld.below hb) (fun hz0 => ?_)
            clear hK
            try simp only [Act.put, List.setIfInBounds_toArray, List.set_cons_zero, List.set_cons_succ]
            refine twoUp 6 10 rfl rfl (by kernel_rfl) rfl rfl (fun K hK => ?_) (fun K hK => ?_)
            · go_simp
              refine (RP.out _).mono ?_
              rintro e' w' ⟨rfl, hb⟩
              try go_wp2_with fail
              refine hK.out _ _ (hz0.below hb) (fun hz1 => ?_)
              clear hK
              try simp only [Act.put, List.setIfInBounds_toArray, List.set_cons_zero, List.set_cons_succ]
              refine tk 7 (v := ?_) rfl (by kernel_rfl) (by kernel_rfl) (by kernel_rfl) (fun _ _ _ h => h) rfl ?_ hz1 ?_; rotate_left; (focus (intro w hSw; (try dsimp only at hSw);  go_simp; (try with_reducible rfl))); (try simp only [Act.put, List.setIfInBounds_toArray, List.set_cons_zero, List.set_cons_succ])
              refine tk 8 (v := ?_) rfl (by kernel_rfl) (by kernel_rfl) (by kernel_rfl) (fun _ _ _ h => h) rfl ?_ hz1 ?_; rotate_left; (focus (intro w hSw; (try dsimp only at hSw);  go_simp; (try with_reducible rfl))); (try simp only [Act.put, List.setIfInBounds_toArray, List.set_cons_zero, List.set_cons_succ])
              refine tk 9 (v := ?_) rfl (by kernel_rfl) (by kernel_rfl) (by kernel_rfl) (fun _ _ _ h => h) rfl ?_ hz1 ?_; rotate_left; (focus (intro w hSw; (try dsimp only at hSw);  go_simp; (try with_reducible rfl))); (try simp only [Act.put, List.setIfInBounds_toArray, List.set_cons_zero, List.set_cons_succ])
              refine only 10 rfl (by kernel_rfl) rfl (fun K hK => ?_)
              refine ow_alloc rfl (zpl_fa _) (by omega) hz1 (fun U w' hN hU => ?_)
              refine hK.out _ _ (hN.tail) (fun hz2 => ?_)
              clear hK
              try simp only [Act.put, List.setIfInBounds_toArray, List.set_cons_zero, List.set_cons_succ]
              refine only 11 rfl (by kernel_rfl) rfl (fun K hK => ?_)
              refine ow_store (A := []) 0 330 (pc q2) (pc q2) rfl rfl rfl hN (by omega) (fun j hj => patch_all _ _ _ j hj) info_pl (pc_one q2) (fun w' hN2 => ?_)
              refine hK.out _ _ (hN2.tail) (fun hE => ?_)
              clear hK
              try simp only [Act.put, List.setIfInBounds_toArray, List.set_cons_zero, List.set_cons_succ]
              refine tk 12 (v := ?_) rfl (by kernel_rfl) (by kernel_rfl) (by kernel_rfl) (fun _ _ _ h => h) rfl ?_ hE ?_; rotate_left; (focus (intro w hSw; (try dsimp only at hSw);  go_simp; (try with_reducible rfl))); (try simp only [Act.put, List.setIfInBounds_toArray, List.set_cons_zero, List.set_cons_succ])
              refine wpAnyH_done (by kernel_rfl) ?_ _
              go_wp2_with fail
              go_meet
              exact ⟨U, rfl, rfl, hN2⟩
            · refine ow_alloc rfl (zpl_fa _) (by omega) hz0 (fun U w' hN hU => ?_)
              refine hK.out _ _ (hN.tail) (fun hz1 => ?_)
              clear hK
              try simp only [Act.put, List.setIfInBounds_toArray, List.set_cons_zero, List.set_cons_succ]
              refine only 6 rfl (by kernel_rfl) rfl (fun K hK => ?_)
              go_simp
              refine (RP.out _).mono ?_
              rintro e' w' ⟨rfl, hb⟩
              try go_wp2_with fail
              have hN := hN.below hb
              refine hK.out _ _ (hz1.below hb) (fun hz2 => ?_)
              clear hK
              try simp only [Act.put, List.setIfInBounds_toArray, List.set_cons_zero, List.set_cons_succ]
              refine tk 7 (v := ?_) rfl (by kernel_rfl) (by kernel_rfl) (by kernel_rfl) (fun _ _ _ h => h) rfl ?_ hz2 ?_; rotate_left; (focus (intro w hSw; (try dsimp only at hSw);  go_simp; (try with_reducible rfl))); (try simp only [Act.put, List.setIfInBounds_toArray, List.set_cons_zero, List.set_cons_succ])
              refine tk 8 (v := ?_) rfl (by kernel_rfl) (by kernel_rfl) (by kernel_rfl) (fun _ _ _ h => h) rfl ?_ hz2 ?_; rotate_left; (focus (intro w hSw; (try dsimp only at hSw);  go_simp; (try with_reducible rfl))); (try simp only [Act.put, List.setIfInBounds_toArray, List.set_cons_zero, List.set_cons_succ])
              refine tk 9 (v := ?_) rfl (by kernel_rfl) (by kernel_rfl) (by kernel_rfl) (fun _ _ _ h => h) rfl ?_ hz2 ?_; rotate_left; (focus (intro w hSw; (try dsimp only at hSw);  go_simp; (try with_reducible rfl))); (try simp only [Act.put, List.setIfInBounds_toArray, List.set_cons_zero, List.set_cons_succ])
              refine only 11 rfl (by kernel_rfl) rfl (fun K hK => ?_)
              refine ow_store (A := []) 0 330 (pc q2) (pc q2) rfl rfl rfl hN (by omega) (fun j hj => patch_all _ _ _ j hj) info_pl (pc_one q2) (fun w' hN2 => ?_)
              refine hK.out _ _ (hN2.tail) (fun hE => ?_)
              clear hK
              try simp only [Act.put, List.setIfInBounds_toArray, List.set_cons_zero, List.set_cons_succ]
              refine tk 12 (v := ?_) rfl (by kernel_rfl) (by kernel_rfl) (by kernel_rfl) (fun _ _ _ h => h) rfl ?_ hE ?_; rotate_left; (focus (intro w hSw; (try dsimp only at hSw);  go_simp; (try with_reducible rfl))); (try simp only [Act.put, List.setIfInBounds_toArray, List.set_cons_zero, List.set_cons_succ])
              refine wpAnyH_done (by kernel_rfl) ?_ _
              go_wp2_with fail
              go_meet
              exact ⟨U, rfl, rfl, hN2⟩
          · refine ow_alloc rfl (zpl_fa _) (by omega) hHeld (fun U w' hN hU => ?_)
            refine hK.out _ _ (hN.tail) (fun hz0 => ?_)
            clear hK
            try simp only [Act.put, List.setIfInBounds_toArray, List.set_cons_zero, List.set_cons_succ]
            refine only 5 rfl (by kernel_rfl) rfl (fun K hK => ?_)
            go_simp
            refine (EN.out _).mono ?_
            rintro e' w' ⟨rfl, hb⟩
            try go_wp2_with fail
            have hN := hN.below hb
            refine hK.out _ _ (hz0.below hb) (fun hz1 => ?_)
            clear hK
            try simp only [Act.put, List.setIfInBounds_toArray, List.set_cons_zero, List.set_cons_succ]
            refine only 6 rfl (by kernel_rfl) rfl (fun K hK => ?_)
            go_simp
            refine (RP.out _).mono ?_
            rintro e' w' ⟨rfl, hb⟩
            try go_wp2_with fail
            have hN := hN.below hb
            refine hK.out _ _ (hz1.below hb) (fun hz2 => ?_)
            clear hK
            try simp only [Act.put, List.setIfInBounds_toArray, List.set_cons_zero, List.set_cons_succ]
            refine tk 7 (v := ?_) rfl (by kernel_rfl) (by kernel_rfl) (by kernel_rfl) (fun _ _ _ h => h) rfl ?_ hz2 ?_; rotate_left; (focus (intro w hSw; (try dsimp only at hSw);  go_simp; (try with_reducible rfl))); (try simp only [Act.put, List.setIfInBounds_toArray, List.set_cons_zero, List.set_cons_succ])
            refine tk 8 (v := ?_) rfl (by kernel_rfl) (by kernel_rfl) (by kernel_rfl) (fun _ _ _ h => h) rfl ?_ hz2 ?_; rotate_left; (focus (intro w hSw; (try dsimp only at hSw);  go_simp; (try with_reducible rfl))); (try simp only [Act.put, List.setIfInBounds_toArray, List.set_cons_zero, List.set_cons_succ])
            refine tk 9 (v := ?_) rfl (by kernel_rfl) (by kernel_rfl) (by kernel_rfl) (fun _ _ _ h => h) rfl ?_ hz2 ?_; rotate_left; (focus (intro w hSw; (try dsimp only at hSw);  go_simp; (try with_reducible rfl))); (try simp only [Act.put, List.setIfInBounds_toArray, List.set_cons_zero, List.set_cons_succ])
            refine only 11 rfl (by kernel_rfl) rfl (fun K hK => ?_)
            refine ow_store (A := []) 0 330 (pc q2) (pc q2) rfl rfl rfl hN (by omega) (fun j hj => patch_all _ _ _ j hj) info_pl (pc_one q2) (fun w' hN2 => ?_)
            refine hK.out _ _ (hN2.tail) (fun hE => ?_)
            clear hK
            try simp only [Act.put, List.setIfInBounds_toArray, List.set_cons_zero, List.set_cons_succ]
            refine tk 12 (v := ?_) rfl (by kernel_rfl) (by kernel_rfl) (by kernel_rfl) (fun _ _ _ h => h) rfl ?_ hE ?_; rotate_left; (focus (intro w hSw; (try dsimp only at hSw);  go_simp; (try with_reducible rfl))); (try simp only [Act.put, List.setIfInBounds_toArray, List.set_cons_zero, List.set_cons_succ])
            refine wpAnyH_done (by kernel_rfl) ?_ _
            go_wp2_with fail
            go_meet
            exact ⟨U, rfl, rfl, hN2⟩
        case rest =>
          obtain ⟨X, rfl, rfl, hS⟩ := hcut
          have U1 := hid hS
          clear hS U0
          by_cases her : er = 0
          · subst her
            replace HAR := hid (HAR.out.trans (if_pos rfl))
            replace HIV := hid (HIV.out rfl)
            go_upto_region 16 with (first | ((with_reducible refine wl_id ?_); refine wl_ow rfl (ov_val (ex_load rfl rfl (ldF U1.out (k := 0) rfl)) ?_)) | ((with_reducible refine wl_id ?_); refine wl_ow rfl (ow_store (A := [thE (.slice A a d) a g]) 0 330 (pc q2) (pc q2) rfl rfl rfl U1.out.tail (by omega) (fun j hj => patch_all _ _ _ j hj) info_pl (pc_one _) ?_); intro w_ hZ; have U2 : Hid (HS [] W w_ [thE (.slice A a d) a g, thB Q 330 (pc q2), thH b c m u (hG p p [] zEn u (fun _ => ⟨0, -1⟩)), thB P 330 (pc p)]) := hid hZ; clear hZ))
            have xc := RR.out _ _ U2.out
            have z1 : (0 : Int) ≤ k := (by omega)
            have z3 : k < n2 := (by omega)
            go_wp2_with fail
            clear xc
            refine (EN.out _).mono ?_
            rintro x w8 ⟨rfl, hb⟩
            have U3 := hid (U2.out.below hb)
            clear hb U2
            go_wp2_with (at_builtin; refine wpList_plain rfl fun _ hK => ow_appE (A := []) (.tmp 61) (.tmp 67) rfl rfl en rfl (HS.alloc U3.out _) (Ce.made rfl) (by omega) (fun A' c' w9 hN hcc => hK _ _ ?_); have U4 := hid hN; clear hN)
            go_roundg (12 - (k + 1))
            case rel => exact ⟨k + 1, a + 1, A', c', setE g a en, q2, by omega, by omega, by omega, by omega, rfl, hcc, by go_num, HAR.out, HIV.out.mono (by omega), U4.out⟩
            case measure => omega
          · have U2 := hid U1.out.tail
            clear U1
            go_wp2_with fail
            go_roundg (12 - (k + 1))
            case rel => exact ⟨k + 1, a, A, d, g, q, by omega, by omega, by omega, by omega, rfl, hcap, by go_num, HRU.out, HPI.out, U2.out⟩
            case measure => omega

set_option maxRecDepth 100000 in
theorem lifted (os : Os) (started : os.Started) (H : Type) (enc : TypeId × Value → H) :
    ReturnsInHanded {} Try.checked os 7 .any (Rows.headGoesSpec.pre6 enc Try.prog Try.f7 [] false) (Rows.headGoesSpec.post enc Try.prog Try.f7 false true false false) :=
  law_step (s := Rows.headGoesSpec) started (by kernel_rfl) Try.func7
    (ChangeSpec.witness6 (s := Rows.headGoesSpec) (enc := enc) (C := Try.checked) false ⟨#[], #[.slice none 0 0, .int .i64 0, .slice none 0 0], []⟩ 8 (by kernel_rfl) (by kernel_rfl) (by kernel_rfl) (by kernel_rfl))
    rfl (by rw [Try.params7]; decide +kernel) rfl Try.underlying4
    (fun ds h => by
      rw [Try.params7] at h
      match ds, h with
      | [_, _, _], _ => rfl)
    (fun W base args ds ps hval hA hsz => by
      rw [Try.params7] at hA hval hsz
      obtain ⟨v0, vs0, d0, ds0, p0, q0, hargs, rfl, rfl, h0, r0⟩ := trodAll_cons hA
      obtain ⟨v1, vs1, d1, ds1, p1, q1, rfl, rfl, rfl, h1, r1⟩ := trodAll_cons r0
      obtain ⟨v2, vs2, d2, ds2, p2, q2, rfl, rfl, rfl, h2, r2⟩ := trodAll_cons r1
      obtain ⟨rfl, rfl, rfl⟩ := trodAll_nil r2
      obtain rfl : args = #[v0, v1, v2] := by cases args; simp_all
      obtain ⟨A0, n0, c0, g0, rfl, hn0, hc0, hs0, hw0, hl0, hd0⟩ := open_row Try.underlying22 Try.underlying3 (by kernel_rfl) (hval 0 22 v0 rfl rfl) h0
      have re0 : c0 * 8 ≤ 140737488351232 := by
        rcases hd0 with ⟨_, h0⟩ | ⟨xs, ys, h1, h2⟩
        · omega
        · have := sized_slice hsz (j := 0) (t := 22) (e := 3) rfl (by rw [h1]; rfl) Try.underlying22
          rw [h2, show Try.prog.bytesOf 3 = 8 from by kernel_rfl] at this
          simpa [reachBytes] using this
      obtain ⟨a1, rfl, rfl, rfl, w1⟩ := open_int Try.underlying3 (hval 1 3 v1 rfl rfl) h1
      obtain ⟨A2, n2, c2, g2, rfl, hn2, hc2, hs2, hw2, hl2, hd2⟩ := open_row Try.underlying22 Try.underlying3 (by kernel_rfl) (hval 2 22 v2 rfl rfl) h2
      have re2 : c2 * 8 ≤ 140737488351232 := by
        rcases hd2 with ⟨_, h0⟩ | ⟨xs, ys, h1, h2⟩
        · omega
        · have := sized_slice hsz (j := 2) (t := 22) (e := 3) rfl (by rw [h1]; rfl) Try.underlying22
          rw [h2, show Try.prog.bytesOf 3 = 8 from by kernel_rfl] at this
          simpa [reachBytes] using this
      exact walk W A0 n0 c0 g0 hn0 hc0 hs0 (fun j => bounds_i64 (hw0 j)) hl0 re0 a1 (bounds_i64 w1) A2 n2 c2 g2 hn2 hc2 hs2 (fun j => bounds_i64 (hw2 j)) hl2 re2)

theorem proved : Rows.HeadGoesSaid :=
  OpenClaim.holds_of_wide 7 Try.f7 rfl rfl rfl rfl rfl rfl rfl ⟨rfl, rfl, rfl, rfl, rfl⟩ rfl rfl rfl rfl rfl (by kernel_rfl) Try.func7 (by kernel_rfl)
    (of_decide_eq_true (by kernel_rfl)) (by unfold Func.isWrapper; first | (rw [if_pos (by decide +kernel)]; kernel_rfl) | (rw [if_neg (by decide +kernel)]; exact ⟨rfl, rfl⟩))
    (fun os started H enc _ => lifted os started H enc)
end Go.Proofs.Ytppcanaelagfmaa.headGoes
