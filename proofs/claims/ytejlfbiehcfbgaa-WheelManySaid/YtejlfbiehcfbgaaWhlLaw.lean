/- What the laws share. -/
import Derived.Test.YtejlfbiehcfbgaaWhlMake
import Derived.Test.YtejlfbiehcfbgaaPolRow
import Derived.Deep.CutRange
import Derived.BigQuiet
import Derived.Deep.RegionHeld3
import Derived.Deep.Cut
namespace Go.Proofs.Ytejlfbiehcfbgaa
set_option linter.unusedVariables false
set_option linter.unusedSimpArgs false
open Go.RowKit Go.ChangeShapes Go.WideShapes Go.ChangeAt

theorem Pw.step {p : Pl} (h : Pw p) {e : En} (h0 : (apR p e).2 = 0) : Pw (apR p e).1 := by
  obtain ⟨hc, _, h1⟩ := apR_ok h0
  obtain ⟨k1, k2, s0, s1, _⟩ := chk_ok hc
  have hB : e.k = 1 → (0 ≤ e.a ∧ e.a ≤ 4294967295) ∧ (0 ≤ e.p ∧ e.p ≤ 65535) ∧ 1 ≤ e.w ∧ e.w ≤ 8 := by
    intro hk
    rw [chk_eq] at hc
    rw [hk] at hc
    simp only [Int.reduceBEq, Bool.true_and] at hc
    cases hb : mayB e.a e.p && inR e.w 1 8
    · rw [hb] at hc
      revert hc
      cases inR e.s 0 63 <;> simp
    · simp only [Bool.and_eq_true] at hb
      obtain ⟨hm, hw⟩ := hb
      unfold mayB at hm
      simp only [Bool.and_eq_true] at hm
      have h1 := inR_iff hm.1
      have h2 := inR_iff hm.2
      have h3 := inR_iff hw
      omega
  rw [h1]
  have hC : (0 ≤ (chS p e e.s.toNat).ad ∧ (chS p e e.s.toNat).ad ≤ 4294967295) ∧ (0 ≤ (chS p e e.s.toNat).po ∧ (chS p e e.s.toNat).po ≤ 65535) ∧ ((chS p e e.s.toNat).st ≠ 0 → 1 ≤ (chS p e e.s.toNat).we ∧ (chS p e e.s.toNat).we ≤ 8) := by
    have n64 : e.s.toNat < 64 := by omega
    have hn := h _ n64
    have hr : refE p e e.s.toNat = 0 := (apR_ok h0).2.1
    have hf : fitB p e e.s.toNat = true := by
      unfold refE at hr
      cases hb : fitB p e e.s.toNat
      · rw [hb] at hr; exact absurd hr (by simp)
      · rfl
    have hk : e.k = 1 ∨ e.k = 2 ∨ e.k = 3 ∨ e.k = 4 ∨ e.k = 5 ∨ e.k = 6 := by omega
    unfold fitB at hf
    unfold chS
    rcases hk with k | k | k | k | k | k
    all_goals (rw [k] at hf ⊢; simp only [Int.reduceBEq, cond_true, cond_false, Bool.or_true, Bool.or_false] at hf ⊢)
    · exact ⟨(hB k).1, (hB k).2.1, fun _ => (hB k).2.2⟩
    · simp only [Bool.or_eq_true, beq_iff_eq] at hf
      exact ⟨hn.1, hn.2.1, fun _ => hn.2.2 (by omega)⟩
    · simp only [beq_iff_eq] at hf
      exact ⟨hn.1, hn.2.1, fun _ => hn.2.2 (by omega)⟩
    · simp only [Bool.or_eq_true, beq_iff_eq] at hf
      exact ⟨hn.1, hn.2.1, fun _ => hn.2.2 (by omega)⟩
    · exact ⟨by show (0 : Int) ≤ 0 ∧ (0 : Int) ≤ 4294967295; decide, by show (0 : Int) ≤ 0 ∧ (0 : Int) ≤ 65535; decide, fun h => absurd rfl h⟩
    · exact hn
  unfold nxP
  cases (e.k == 6)
  · intro i hi
    simp only [cond_false, setS]
    by_cases e' : i = e.s.toNat
    · rw [if_pos e']; exact hC
    · rw [if_neg e']; exact h i hi
  · exact h
theorem mk_pw (g : Nat → Int) : ∀ k : Nat, Pw (mkP g k)
  | 0 => fun i _ => ⟨by show (0 : Int) ≤ 0 ∧ (0 : Int) ≤ 4294967295; decide, by show (0 : Int) ≤ 0 ∧ (0 : Int) ≤ 65535; decide, fun h => absurd rfl h⟩
  | k + 1 => by
    have ih := mk_pw g k
    unfold mkP
    split
    · rename_i h; exact ih.step h
    · exact ih
/-- A place of a wheel: nobody's if nobody takes turns, else an active slot's. -/
theorem whl_val {p : Pl} {j : Nat} (hj : j < 127) : (offW (wtP p) 64 = 0 ∧ whlW p j = -1) ∨ (0 < offW (wtP p) 64 ∧ ∃ i : Nat, i < 64 ∧ (p.s i).st = 2 ∧ whlW p j = i) := by
  unfold whlW
  by_cases h : offW (wtP p) 64 = 0
  · rw [if_pos h]; exact .inl ⟨h, rfl⟩
  · rw [if_neg h]
    obtain ⟨i, h1, h2, h3⟩ := wk_full (at_ := atP p) (by_ := byP p) (by omega) (by_of p) j hj
    refine .inr ⟨by omega, i, h1, ?_, h3⟩
    by_cases hs : (p.s i).st = 2
    · exact hs
    · unfold wtP at h2
      rw [if_neg hs] at h2
      omega
theorem whl_none {p : Pl} (h : offW (wtP p) 64 = 0) : cnW (whlW p) (-1) 127 = 127 := by
  unfold whlW
  rw [if_pos h]
  exact cn_all _ _ (fun _ _ => rfl)
theorem whl_cn {p : Pl} (hT : 0 < offW (wtP p) 64) (i : Nat) : cnW (whlW p) (i : Int) 127 = tnW (wtP p) i 127 := by
  unfold whlW
  rw [if_neg (by omega)]
  exact wk_cn hT (by_of p) i 127 (Nat.le_refl _)
def wP0 : Pl := ⟨0, 1, 2, fun _ => zSp, ⟨1, zKy, zKy, zKy⟩⟩
def wE1 : En := ⟨1, 3, 5, 6, 1, zKy⟩
def wE2 : En := ⟨2, 3, 0, 0, 0, zKy⟩
def wQ0 : Pl := ⟨2, 1, 2, setS (setS (fun _ => zSp) 3 ⟨1, 5, 6, 1, 0⟩) 3 ⟨2, 5, 6, 1, 0⟩, ⟨1, zKy, zKy, zKy⟩⟩
theorem wInv : Pinv wP0 0 := ⟨⟨by decide, by decide⟩, ⟨by decide, by decide⟩, fun i hi => (by show ((0:Int) ≤ 0 ∧ (0:Int) ≤ 0 + 1) ∧ (0:Int) ≤ 0 ∧ (0:Int) ≤ 4; decide)⟩
theorem wA1 : apR wP0 wE1 = (⟨1, 1, 2, setS (fun _ => zSp) 3 ⟨1, 5, 6, 1, 0⟩, ⟨1, zKy, zKy, zKy⟩⟩, 0) := rfl
theorem wA2 : apR ⟨1, 1, 2, setS (fun _ => zSp) 3 ⟨1, 5, 6, 1, 0⟩, ⟨1, zKy, zKy, zKy⟩⟩ wE2 = (wQ0, 0) := rfl
theorem wAll : AllOut wP0 (gl [wE1, wE2]) 2 wQ0 2 0 := by
  refine ⟨?_, .inl ⟨rfl, rfl⟩⟩
  have h1 : runP wP0 (gl [wE1, wE2]) 1 = some ⟨1, 1, 2, setS (fun _ => zSp) 3 ⟨1, 5, 6, 1, 0⟩, ⟨1, zKy, zKy, zKy⟩⟩ := by
    unfold runP runP
    show (if (apR wP0 wE1).2 = 0 then some (apR wP0 wE1).1 else none) = _
    rw [wA1]
    rfl
  show runP wP0 (gl [wE1, wE2]) (1 + 1) = _
  unfold runP
  rw [h1]
  show (if (apR _ wE2).2 = 0 then some (apR _ wE2).1 else none) = _
  rw [wA2]
  rfl
theorem wPw : Pw wP0 := fun i _ => ⟨by show (0 : Int) ≤ 0 ∧ (0 : Int) ≤ 4294967295; decide, by show (0 : Int) ≤ 0 ∧ (0 : Int) ≤ 65535; decide, fun h => absurd rfl h⟩
theorem wQs (i : Nat) : wQ0.s i = if i = 3 then ⟨2, 5, 6, 1, 0⟩ else zSp := by
  unfold wQ0 setS
  simp only
  by_cases h : i = 3
  · rw [if_pos h, if_pos h]
  · rw [if_neg h, if_neg h, if_neg h]
theorem wQw : Pw wQ0 := by
  intro i _
  rw [wQs]
  by_cases h : i = 3
  · rw [if_pos h]; exact ⟨by decide, by decide, fun _ => by decide⟩
  · rw [if_neg h]; exact ⟨by decide, by decide, fun h => absurd rfl h⟩
theorem wT0 : offW (wtP wP0) 64 = 0 := zero_off (fun i _ => by unfold wtP; exact if_neg (by show ¬ (0 : Int) = 2; decide))
theorem wQT {i : Nat} : 0 < wtP wQ0 i → i = 3 := by
  intro h
  unfold wtP at h
  rw [wQs] at h
  by_cases e : i = 3
  · exact e
  · rw [if_neg e] at h; exact absurd h (by simp [zSp])
theorem wQ3 : wtP wQ0 3 = 1 := by unfold wtP; rw [wQs]; rfl
theorem wQoff : 0 < offW (wtP wQ0) 64 := by
  have h1 : offW (wtP wQ0) 4 = offW (wtP wQ0) 3 + wtP wQ0 3 := rfl
  have := off_mono (wtP wQ0) (show 4 ≤ 64 by omega)
  rw [wQ3] at h1
  omega
theorem wQv {j : Nat} (hj : j < 127) : whlW wQ0 j = 3 := by
  unfold whlW
  rw [if_neg (by have := wQoff; omega)]
  obtain ⟨i, h1, h2, h3⟩ := wk_full (at_ := atP wQ0) (by_ := byP wQ0) wQoff (by_of wQ0) j hj
  rw [h3, wQT h2]
  rfl
theorem w0v {j : Nat} : whlW wP0 j = -1 := by unfold whlW; rw [if_pos wT0]
theorem wSe (w : World) (b : Nat) (hb : w.heap.size = b) : Se (w.alloc (.cells #[.int .i64 1, .int .i64 3, .int .i64 5, .int .i64 6, .int .i64 1, .int .u64 0, .int .u64 0, .int .i64 2, .int .i64 3, .int .i64 0, .int .i64 0, .int .i64 0, .int .u64 0, .int .u64 0] 49)) (some ⟨b, 0, none⟩) 2 (gl [wE1, wE2]) := se_made [wE1, wE2] hb
theorem fl_ok (a b : Int) : Fl.okI (flN a b) := by
  unfold flN Fl.okI I64
  have h1 := wi_bd a 4294967296 (by omega)
  have h2 := wi_bd (a.tdiv 7) 65536 (by omega)
  have h3 := wi_bd b 4294967296 (by omega)
  have h4 := wi_bd (b.tdiv 7) 65536 (by omega)
  simp only
  omega
def zFl : Fl := ⟨0, 0, 0, 0⟩
attribute [local irreducible] PA ia cAt cBy atP byP wtP S3 sumW S5 pkW
set_option maxRecDepth 100000 in
set_option maxHeartbeats 4000000 in
theorem known7_any (w : World) : Calls Try.prog 13 #[] w fun x w' => x = .returned (.bool true) ∧ Below w.heap.size w w' := by
  have hz : ∀ w : World, (zeroValue 33).run Try.prog w = .ok (.agg (PA zPl)) w := fun w => zero_pl w
  have hz1 := pa_size zPl
  have hz2 := pa_ne zPl
  obtain ⟨p0, hp0⟩ : ∃ p0 : Pl, p0 = wP0 := ⟨_, rfl⟩
  obtain ⟨q0, hq0⟩ : ∃ q0 : Pl, q0 = wQ0 := ⟨_, rfl⟩
  have NW := hid (show ∀ w, Calls Try.prog 28 #[.int .i64 1, .int .i64 2, .agg #[.int .u64 0, .int .u64 0], .agg #[.int .u64 0, .int .u64 0]] w fun x w' => x = .returned (.tuple #[.agg (PA p0), .int .i64 0]) ∧ Below w.heap.size w w' from by rw [hp0]; exact fun w => rnew_any 1 2 ⟨0, 0⟩ ⟨0, 0⟩ w)
  have AL := hid (show ∀ (A : Option Addr) (w : World), Se w A 2 (gl [wE1, wE2]) → Calls Try.prog 27 #[.agg (PA p0), .slice A 2 2] w fun x w' => x = .returned (.tuple #[.agg (PA q0), .int .i64 2, .int .i64 0]) ∧ Below w.heap.size w w' from by rw [hp0, hq0]; exact fun A w h => (rall_any wP0 _ A 2 2 w h (by omega) 0 wInv (by omega)).mono (fun x w' ⟨q, k, er, hx, ho, hb⟩ => by obtain ⟨a, b, c⟩ := ho.uniq wAll; subst a; subst b; subst c; exact ⟨hx, hb⟩))
  have M0 := hid (show ∀ w, Calls Try.prog 15 #[.agg (PA p0)] w fun x w' => ∃ B : Nat, x = .returned (.slice (some ⟨B, 0, none⟩) 127 127) ∧ w.heap.size ≤ B ∧ IA w' B 127 (fun _ => -1) ∧ Below w.heap.size w w' from fun w => (make7_any p0 (by rw [hp0]; exact wPw) w).mono (fun x w' ⟨B, h1, h2, h3, h4⟩ => ⟨B, h1, h2, h3.as_ (fun j _ => by rw [hp0]; exact w0v), h4⟩))
  have M1 := hid (show ∀ w, Calls Try.prog 15 #[.agg (PA q0)] w fun x w' => ∃ B : Nat, x = .returned (.slice (some ⟨B, 0, none⟩) 127 127) ∧ w.heap.size ≤ B ∧ IA w' B 127 (fun _ => 3) ∧ Below w.heap.size w w' from fun w => (make7_any q0 (by rw [hq0]; exact wQw) w).mono (fun x w' ⟨B, h1, h2, h3, h4⟩ => ⟨B, h1, h2, h3.as_ (fun j hj => by rw [hq0]; exact wQv hj), h4⟩))
  have SH0 := hid (fun (A : Option Addr) (w : World) (h : Is w A 127 (fun _ => -1)) => re_i64 (share_any A 127 127 _ (-1) ⟨by decide, by decide⟩ w h (by decide)) (show ((cnW (fun _ => -1) (-1) 127 : Nat) : Int) = 127 from by rw [cn_all _ _ (fun _ _ => rfl)]; rfl))
  have SH1 := hid (fun (A : Option Addr) (w : World) (h : Is w A 127 (fun _ => 3)) => re_i64 (share_any A 127 127 _ 3 ⟨by decide, by decide⟩ w h (by decide)) (show ((cnW (fun _ => 3) 3 127 : Nat) : Int) = 127 from by rw [cn_all _ _ (fun _ _ => rfl)]; rfl))
  have PK := hid (fun (A : Option Addr) (w : World) (h : Is w A 127 (fun _ => 3)) => (show Calls Try.prog 18 #[.slice A 127 127, .agg #[.int .i64 0, .int .i64 0, .int .i64 0, .int .i64 0]] w fun e w' => e = .returned (.int .i64 3) ∧ Below w.heap.size w w' from pick_any A 127 _ zFl ⟨⟨by decide, by decide⟩, ⟨by decide, by decide⟩, ⟨by decide, by decide⟩, ⟨by decide, by decide⟩⟩ w h))
  clear hp0 hq0
  go_enter Try.func13, Try.ntmps13
  go_wp2_with fail
  refine (NW.out _).mono ?_
  rintro x w1 ⟨rfl, hb⟩
  have S1 := hid (SG.start hb)
  clear hb
  have ST := hid ((sg_new (w := w1) (T := 33)).storeA p0)
  have S2 := hid (SG.put S1.out (T := 33) zPl p0 (by simp))
  go_upto_region 2 with ((with_reducible refine wl_id ?_); refine wl_store rfl rfl rfl rfl ST.out ?_)
  clear ST S1
  generalize (w1.alloc (.cells (PA zPl) 33)).setCells w1.heap.size 0 (PA p0).toList = w2 at *
  generalize w1.heap.size = P at *
  have LP := (SG.get S2.out (b := P) (p := p0) (by simp)).loadA
  go_wp2_with ((with_reducible refine wl_id ?_); refine wl_load rfl rfl rfl LP ?_)
  refine (M0.out _).mono ?_
  rintro x w3 ⟨B0, rfl, l0, hI, hb⟩
  clear LP
  have I3 := hid hI
  have S3 := hid (S2.out.below hb)
  clear hI hb S2
  go_upto_region 3 with (fail)
  have LP := (SG.get S3.out (b := P) (p := p0) (by simp)).loadA
  go_wp2_with ((with_reducible refine wl_id ?_); refine wl_load rfl rfl rfl LP ?_)
  clear LP
  have SE := wSe w3 _ rfl
  have S4 := hid (S3.out.alloc (.cells #[.int .i64 1, .int .i64 3, .int .i64 5, .int .i64 6, .int .i64 1, .int .u64 0, .int .u64 0, .int .i64 2, .int .i64 3, .int .i64 0, .int .i64 0, .int .i64 0, .int .u64 0, .int .u64 0] 49))
  have I4 := hid (I3.out.alloc (.cells #[.int .i64 1, .int .i64 3, .int .i64 5, .int .i64 6, .int .i64 1, .int .u64 0, .int .u64 0, .int .i64 2, .int .i64 3, .int .i64 0, .int .i64 0, .int .i64 0, .int .u64 0, .int .u64 0] 49))
  clear S3 I3
  generalize w3.alloc (.cells #[.int .i64 1, .int .i64 3, .int .i64 5, .int .i64 6, .int .i64 1, .int .u64 0, .int .u64 0, .int .i64 2, .int .i64 3, .int .i64 0, .int .i64 0, .int .i64 0, .int .u64 0, .int .u64 0] 49) = w4 at *
  generalize w3.heap.size = E at *
  refine (AL.out _ _ SE).mono ?_
  rintro x w5 ⟨rfl, hb⟩
  have S5 := hid (S4.out.below hb)
  have I5 := hid (I4.out.below hb)
  clear hb SE S4 I4
  have ST := hid ((sg_new (w := w5) (T := 33)).storeA q0)
  have S6 := hid (SG.put S5.out (T := 33) zPl q0 (by simp))
  have I6 := hid (I5.out.below (below_put (T := 33) zPl q0))
  go_upto_region 4 with ((with_reducible refine wl_id ?_); refine wl_store rfl rfl rfl rfl ST.out ?_)
  clear ST S5 I5
  generalize (w5.alloc (.cells (PA zPl) 33)).setCells w5.heap.size 0 (PA q0).toList = w6 at *
  generalize w5.heap.size = Q at *
  have LQ := (SG.get S6.out (b := Q) (p := q0) (by simp)).loadA
  go_wp2_with ((with_reducible refine wl_id ?_); refine wl_load rfl rfl rfl LQ ?_)
  refine (M1.out _).mono ?_
  rintro x w7 ⟨B1, rfl, l1, hI, hb⟩
  clear LQ
  have J7 := hid hI
  have I7 := hid (I6.out.below hb)
  have B7 := hid (S6.out.bl.trans (hb.mono S6.out.bl.size))
  clear hI hb S6 I6
  have c0 := I7.out.2.1 0 (by omega)
  go_wp2_with fail
  refine (SH0.out _ _ I7.out.slice).mono ?_
  rintro x w' ⟨rfl, rfl⟩
  go_wp2_with fail
  refine (SH1.out _ _ J7.out.slice).mono ?_
  rintro x w' ⟨rfl, rfl⟩
  go_wp2_with fail
  refine (PK.out _ _ J7.out.slice).mono ?_
  rintro x w8 ⟨rfl, hb⟩
  go_wp2_with fail
  go_ret
  exact ⟨rfl, B7.out.trans (hb.mono B7.out.size)⟩
end Go.Proofs.Ytejlfbiehcfbgaa
