/- roundhouselaw7.WheelShares answers true for every row; no condition. -/
import Derived.Test.YtejlfbiehcfbgaaWhlLaw3
import Derived.Deep.LoopGhost
import Derived.BigQuiet
import Derived.Deep.RegionHeld3
import Derived.Deep.Cut
namespace Go.Proofs.Ytejlfbiehcfbgaa.wheelShares
set_option linter.unusedVariables false
set_option linter.unusedSimpArgs false
open Go.RowKit Go.ChangeShapes Go.WideShapes Go.ChangeAt

theorem off_le {p : Pl} (hp : Pw p) : ∀ {i : Nat}, i ≤ 64 → offW (wtP p) i ≤ 8 * i
  | 0, _ => Nat.le_refl _
  | i + 1, h => by
    have h1 : offW (wtP p) (i + 1) = offW (wtP p) i + wtP p i := rfl
    have := off_le hp (i := i) (by omega)
    have := wt_le hp i (by omega)
    omega
theorem off_next {p : Pl} (hp : Pw p) {k : Nat} (hk : k < 64) : ((p.s k).st = 2 → ((offW (wtP p) (k + 1) : Nat) : Int) = (offW (wtP p) k : Nat) + (p.s k).we) ∧ ((p.s k).st ≠ 2 → offW (wtP p) (k + 1) = offW (wtP p) k) := by
  have h1 : offW (wtP p) (k + 1) = offW (wtP p) k + wtP p k := rfl
  refine ⟨fun h => ?_, fun h => ?_⟩
  · have h2 := (hp k hk).2.2 (by rw [h]; decide)
    have h3 : wtP p k = (p.s k).we.toNat := by unfold wtP; rw [if_pos h]
    omega
  · have h3 : wtP p k = 0 := by unfold wtP; rw [if_neg h]
    omega
/-- All shares of slots up to one. -/
def aS (p : Pl) : Nat → Nat
  | 0 => 0
  | k + 1 => aS p k + cnW (whlW p) (k : Int) 127
theorem aS_next (p : Pl) (k : Nat) : aS p (k + 1) = aS p k + cnW (whlW p) (k : Int) 127 := rfl
theorem aS_le (p : Pl) : ∀ k, aS p k ≤ 127 * k
  | 0 => Nat.le_refl _
  | k + 1 => by
    have h1 := aS_next p k
    have h2 := aS_le p k
    have h3 := cn_le (whlW p) (k : Int) 127
    omega
theorem aS_end (p : Pl) (hT : 0 < offW (wtP p) 64) : aS p 64 = 127 := by
  have key : ∀ k, aS p k = tnSW (wtP p) 127 k := by
    intro k
    induction k with
    | zero => rfl
    | succ k ih =>
      show aS p k + cnW (whlW p) (k : Int) 127 = tnSW (wtP p) 127 k + tnW (wtP p) k 127
      rw [ih, whl_cn hT]
  rw [key, tnS_eq hT]
theorem share_bd {p : Pl} (hp : Pw p) {i : Nat} (hi : i < 64) : ((p.s i).st ≠ 2 → cnW (whlW p) (i : Int) 127 = 0) ∧
    ((p.s i).st = 2 → 0 < offW (wtP p) 64 ∧ 1 ≤ (p.s i).we ∧ (p.s i).we ≤ 8 ∧ 127 / offW (wtP p) 64 * (p.s i).we.toNat ≤ cnW (whlW p) (i : Int) 127 ∧ cnW (whlW p) (i : Int) 127 ≤ 127 / offW (wtP p) 64 * (p.s i).we.toNat + (p.s i).we.toNat) := by
  refine ⟨fun h => whl_not h, fun h => ?_⟩
  have h2 := (hp i hi).2.2 (by rw [h]; decide)
  have h3 : wtP p i = (p.s i).we.toNat := by unfold wtP; rw [if_pos h]
  have hT : 0 < offW (wtP p) 64 := by
    have h1 : offW (wtP p) (i + 1) = offW (wtP p) i + wtP p i := rfl
    have := off_mono (wtP p) (show i + 1 ≤ 64 by omega)
    omega
  have h4 := tn_127 (wt := wtP p) hi hT
  rw [← h3, whl_cn hT, h4]
  refine ⟨hT, h2.1, h2.2, by omega, by omega⟩
theorem share_int {st we : Int} {n tn : Nat} {TT : Int} (h : (st ≠ 2 → n = 0) ∧ (st = 2 → 0 < tn ∧ 1 ≤ we ∧ we ≤ 8 ∧ 127 / tn * we.toNat ≤ n ∧ n ≤ 127 / tn * we.toNat + we.toNat)) (hT : TT = (tn : Int)) :
    (st ≠ 2 → n = 0) ∧ (st = 2 → ∃ F m1 m2 : Int, (127 : Int).tdiv TT = F ∧ (127 : Int) / TT = F ∧ IntKind.i64.wrap (F * we) = m1 ∧ IntKind.i64.wrap ((F + 1) * we) = m2 ∧ m1 ≤ n ∧ (n : Int) ≤ m2 ∧ 1 ≤ TT ∧ 0 ≤ F ∧ F ≤ 127 ∧ 1 ≤ we ∧ we ≤ 8) := by
  refine ⟨h.1, fun hs => ?_⟩
  obtain ⟨h0, w1, w2, b1, b2⟩ := h.2 hs
  obtain ⟨wn, rfl⟩ : ∃ wn : Nat, we = wn := ⟨we.toNat, by omega⟩
  simp only [Int.toNat_natCast] at b1 b2
  subst hT
  have hF : (127 : Int) / (tn : Int) = ((127 / tn : Nat) : Int) := by push_cast; rfl
  have hle : 127 / tn ≤ 127 := Nat.div_le_self _ _
  generalize 127 / tn = F at *
  have hm1 : F * wn ≤ 127 * 8 := Nat.mul_le_mul hle (by omega)
  have hc1 : (F : Int) * (wn : Int) = ((F * wn : Nat) : Int) := by push_cast; rfl
  have hc2 : ((F : Int) + 1) * (wn : Int) = ((F * wn + wn : Nat) : Int) := by push_cast; rw [Int.add_mul, Int.one_mul]
  refine ⟨F, F * wn, (F + 1) * wn, ?_, hF, ?_, ?_, ?_, ?_, by omega, by omega, by omega, w1, w2⟩
  · rw [Int.tdiv_eq_ediv_of_nonneg (by omega)]; exact hF
  · rw [hc1]; exact IntWalk.i64_in _ (by omega)
  · rw [hc2]; exact IntWalk.i64_in _ (by omega)
  · rw [hc1]; omega
  · rw [hc2]; omega
attribute [local irreducible] PA ia cAt cBy atP byP wtP S3 sumW S5 pkW
set_option maxRecDepth 100000 in
set_option maxHeartbeats 8000000 in
theorem walk (W : World) (A1 : Option Addr) (n1 c1 : Nat) (g1 : Nat → Int) (hn1 : n1 ≤ c1) (hc1 : c1 ≤ maxLen) (hr1 : Is W A1 n1 g1) (hg1 : IsI g1) (hl1 : ∀ ad, A1 = some ad → 0 < n1 → ad.block < W.heap.size) (re1 : c1 * 8 ≤ 140737488351232) :
    Calls Try.prog 4 #[.slice A1 n1 c1] W fun e w' => e = .returned (.bool true) ∧ Below W.heap.size W w' := by
  have hz : ∀ w : World, (zeroValue 33).run Try.prog w = .ok (.agg (PA zPl)) w := fun w => zero_pl w
  have hz1 := pa_size zPl
  have hz2 := pa_ne zPl
  unfold maxLen at hc1
  have hnm : (n1 : Int) ≤ 9223372036854775807 := by have := hn1; omega
  have HL := hid hl1
  clear hl1 re1
  obtain ⟨p, hp⟩ : ∃ p, p = mkP g1 (min n1 60) := ⟨_, rfl⟩
  have HQ := hid (show Pinv p 60 from by rw [hp]; exact (mkP_inv g1 _).mono (by omega))
  have HPW := hid (show Pw p from by rw [hp]; exact mk_pw g1 _)
  have MK := hid (fun (w : World) (h : Is w A1 n1 g1) (hl : ∀ ad, A1 = some ad → 0 < n1 → ad.block < w.heap.size) => (show Calls Try.prog 14 #[.slice A1 n1 c1, .int .i64 60] w fun x w' => x = .returned (.agg (PA p)) ∧ Below w.heap.size w w' from by rw [hp]; exact make_any w A1 n1 c1 g1 h hl hnm 60 (by omega)))
  clear hp
  have M7 := hid (show ∀ w, Calls Try.prog 15 #[.agg (PA p)] w fun x w' => ∃ B : Nat, x = .returned (.slice (some ⟨B, 0, none⟩) 127 127) ∧ w.heap.size ≤ B ∧ IA w' B 127 (whlW p) ∧ Below w.heap.size w w' from fun w => make7_any p HPW.out w)
  have SH := hid (fun (B i : Nat) (hi : i < 64) (w : World) (h : IA w B 127 (whlW p)) => share_any (some ⟨B, 0, none⟩) 127 127 (whlW p) (i : Int) ⟨by omega, by omega⟩ w h.slice (by decide))
  have SN := hid (fun (B : Nat) (w : World) (h : IA w B 127 (whlW p)) => share_any (some ⟨B, 0, none⟩) 127 127 (whlW p) (-1) ⟨by decide, by decide⟩ w h.slice (by decide))
  go_enter Try.func4, Try.ntmps4
  go_wp2_with fail
  refine (known7_any _).mono ?_
  rintro x w1 ⟨rfl, hB⟩
  have R1 := hid (hr1.below hB (Nat.le_refl _))
  have B1 := hid hB
  clear hr1 hB
  go_wp2_with fail
  refine (MK.out _ R1.out (fun ad e h => Nat.lt_of_lt_of_le (HL.out ad e h) B1.out.size)).mono ?_
  rintro x w2 ⟨rfl, hb⟩
  have S2 := hid ((SG.start B1.out).below hb)
  clear hb R1 B1 MK
  have ST := hid ((sg_new (w := w2) (T := 33)).storeA p)
  have S3 := hid (SG.put S2.out (T := 33) zPl p (by simp))
  go_upto_region 4 with ((with_reducible refine wl_id ?_); refine wl_store rfl rfl rfl rfl ST.out ?_)
  clear ST S2
  generalize (w2.alloc (.cells (PA zPl) 33)).setCells w2.heap.size 0 (PA p).toList = w3 at *
  generalize w2.heap.size = P at *
  have LP := (SG.get S3.out (b := P) (p := p) (by simp)).loadA
  go_wp2_with ((with_reducible refine wl_id ?_); refine wl_load rfl rfl rfl LP ?_)
  refine (M7.out _).mono ?_
  rintro x w4 ⟨B, rfl, lB, hI, hb⟩
  clear LP
  have I4 := hid hI
  have S4 := hid (S3.out.below hb)
  clear hI hb S3 M7
  go_wp2_with fail
  go_loopw [5, 7] (fun s i wr => ∃ k : Nat, k ≤ 64 ∧ i = .int .i64 (k : Int) ∧ s = .int .i64 ((offW (wtP p) k : Nat) : Int) ∧ wr = w4) (fun _ i _ => 64 - (intOf i).toNat)
  case atStart => exact ⟨0, by omega, rfl, rfl, rfl⟩
  case round =>
    obtain ⟨k, hk, rfl, rfl, rfl⟩ := hrel
    have hol := off_le HPW.out (i := k) hk
    by_cases hlt : k < 64
    · have i0 : (0 : Int) ≤ k := by omega
      have i1 : (k : Int) < 64 := by omega
      have P4 := SG.get S4.out (b := P) (p := p) (by simp)
      have cs : wr.cell? ⟨P, 3 + k * 5, none⟩ = some (.int .i64 (p.s k).st) := P4.cs k 0 hlt (by omega)
      have cw : wr.cell? ⟨P, 3 + k * 5 + 3, none⟩ = some (.int .i64 (p.s k).we) := P4.cs k 3 hlt (by omega)
      clear P4
      have HO := hid (off_next HPW.out hlt)
      have hwb := (HPW.out k hlt).2.2
      have HWB := hid hwb
      clear hwb
      generalize (p.s k).st = st at *
      generalize (p.s k).we = we at *
      generalize offW (wtP p) k = o at *
      cases b2 : (st == 2)
      · have hst : st ≠ 2 := by simpa using b2
        have HO2 := hid (HO.out.2 hst)
        clear hst HO
        go_wp2_with fail
        go_roundw
        case rel => exact ⟨k + 1, by omega, by go_num, by rw [HO2.out], by first | rfl | trivial⟩
        case measure => simp [intOf]; omega
      · have hst : st = 2 := by simpa using b2
        have HO2 := hid (HO.out.1 hst)
        have hwb := HWB.out (by rw [hst]; decide)
        obtain ⟨w1', w2'⟩ := hwb
        clear HO
        go_wp2_with fail
        go_roundw
        case rel => exact ⟨k + 1, by omega, by go_num, by rw [HO2.out], by first | rfl | trivial⟩
        case measure => simp [intOf]; omega
    · have e : k = 64 := by omega
      subst e
      have HB := hid (fun (i : Nat) (hi : i < 64) => share_bd HPW.out hi)
      have HA := hid (aS_end p)
      have HZ0 := hid (fun (h : offW (wtP p) 64 = 0) => whl_none h)
      have hTb := off_le HPW.out (i := 64) (by omega)
      have HT0 := hid (show 0 < offW (wtP p) 64 ∨ offW (wtP p) 64 = 0 from by omega)
      obtain ⟨tn, htn⟩ : ∃ tn, tn = offW (wtP p) 64 := ⟨_, rfl⟩
      rw [← htn] at HB HA HZ0 HT0 hTb ⊢
      clear htn
      obtain ⟨TT, hTT⟩ : ∃ TT : Int, TT = (tn : Int) := ⟨_, rfl⟩
      rw [← hTT]
      have HB2 := hid (fun (i : Nat) (hi : i < 64) => (share_int (HB.out i hi) hTT))
      have T0 : 0 ≤ TT := by omega
      have T1 : TT ≤ 512 := by omega
      have HT := hid hTT
      clear hTT HB
      go_wp2_with fail
      go_loopg [6, 8] 64 (fun gh s i wq => ∃ k : Nat, gh = 64 - k ∧ k ≤ 64 ∧ i = .int .i64 (k : Int) ∧ s = .int .i64 ((aS p k : Nat) : Int) ∧ wq = wr) 
      case atStart => exact ⟨0, rfl, by omega, rfl, rfl, rfl⟩
      case round =>
        obtain ⟨k, rfl, hk, rfl, rfl, rfl⟩ := hrel
        have hal := aS_le p k
        by_cases hlt2 : k < 64
        · have k0 : (0 : Int) ≤ k := by omega
          have k1 : (k : Int) < 64 := by omega
          have P4 := SG.get S4.out (b := P) (p := p) (by simp)
          have cs : wr.cell? ⟨P, 3 + k * 5, none⟩ = some (.int .i64 (p.s k).st) := P4.cs k 0 hlt2 (by omega)
          have cw : wr.cell? ⟨P, 3 + k * 5 + 3, none⟩ = some (.int .i64 (p.s k).we) := P4.cs k 3 hlt2 (by omega)
          clear P4
          have HK := hid (HB2.out k hlt2)
          have HN := hid (aS_next p k)
          have hnl := cn_le (whlW p) (k : Int) 127
          have SH2 := hid (SH.out B k hlt2 _ I4.out)
          obtain ⟨n, hn⟩ : ∃ n, n = cnW (whlW p) (k : Int) 127 := ⟨_, rfl⟩
          rw [← hn] at HK HN hnl SH2
          clear hn
          generalize (p.s k).st = st at *
          generalize (p.s k).we = we at *
          generalize aS p k = al at *
          have n0 : (0 : Int) ≤ n := by omega
          cases b2 : (st != 2)
          · have hst : st = 2 := by simpa using b2
            obtain ⟨F, m1, m2, q1, q2, q3, q4, l1, l2, l3, l4, l5, l6, l7⟩ := HK.out.2 hst
            have hF1 : IntKind.i64.wrap (F + 1) = F + 1 := IntWalk.i64_in _ (by omega)
            have g1 : ¬ ((n : Int) < m1) := by omega
            have g2 : ¬ ((n : Int) > m2) := by omega
            clear hst HK
            go_wp2_with fail
            refine SH2.out.mono ?_
            rintro x w' ⟨rfl, rfl⟩
            go_wp2_with fail
            go_roundg (64 - (k + 1))
            case measure => omega
            case rel => exact ⟨k + 1, rfl, by omega, by go_num, by rw [HN.out]; go_num, by first | rfl | trivial⟩
          · have hst : st ≠ 2 := by simpa using b2
            have hn0 := HK.out.1 hst
            subst hn0
            clear hst HK
            go_wp2_with fail
            refine SH2.out.mono ?_
            rintro x w' ⟨rfl, rfl⟩
            go_wp2_with fail
            go_roundg (64 - (k + 1))
            case measure => omega
            case rel => exact ⟨k + 1, rfl, by omega, by go_num, by rw [HN.out]; go_num, by first | rfl | trivial⟩
        · have e : k = 64 := by omega
          subst e
          rcases HT0.out with h0 | h0
          · have ha := HA.out h0
            have hT := HT.out
            have g1 : TT > 0 := by omega
            have g2 : (0 : Int) < TT := by omega
            rw [ha]
            clear ha hT
            go_wp2_with fail
            go_ret
            exact ⟨rfl, S4.out.bl⟩
          · have hz := HZ0.out h0
            have hT := HT.out
            rw [h0] at hT
            have hT0 : TT = 0 := by omega
            subst hT0
            have SN2 := hid (re_i64 (SN.out B _ I4.out) (show ((cnW (whlW p) (-1) 127 : Nat) : Int) = 127 from by rw [hz]; rfl))
            clear hz hT
            go_wp2_with fail
            refine SN2.out.mono ?_
            rintro x w' ⟨rfl, rfl⟩
            go_wp2_with fail
            go_ret
            exact ⟨rfl, S4.out.bl⟩

set_option maxRecDepth 100000 in
theorem lifted (os : Os) (started : os.Started) (H : Type) (enc : TypeId × Value → H) :
    ReturnsInHanded {} Try.checked os 4 .any (Rows.wheelSharesSpec.pre6 enc Try.prog Try.f4 [] false) (Rows.wheelSharesSpec.post enc Try.prog Try.f4 false true false false) :=
  law_step (s := Rows.wheelSharesSpec) started (by kernel_rfl) Try.func4
    (ChangeSpec.witness6 (s := Rows.wheelSharesSpec) (enc := enc) (C := Try.checked) false ⟨#[], #[.slice none 0 0], []⟩ 8 (by kernel_rfl) (by kernel_rfl) (by kernel_rfl) (by kernel_rfl))
    rfl (by rw [Try.params4]; decide +kernel) rfl Try.underlying4
    (fun ds h => by
      rw [Try.params4] at h
      match ds, h with
      | [_], _ => rfl)
    (fun W base args ds ps hval hA hsz => by
      rw [Try.params4] at hA hval hsz
      obtain ⟨v0, vs0, d0, ds0, p0, q0, hargs, rfl, rfl, h0, r0⟩ := trodAll_cons hA
      obtain ⟨rfl, rfl, rfl⟩ := trodAll_nil r0
      obtain rfl : args = #[v0] := by cases args; simp_all
      obtain ⟨A0, n0, c0, g0, rfl, hn0, hc0, hs0, hw0, hl0, hd0⟩ := open_row Try.underlying22 Try.underlying3 (by kernel_rfl) (hval 0 22 v0 rfl rfl) h0
      have re0 : c0 * 8 ≤ 140737488351232 := by
        rcases hd0 with ⟨_, h0⟩ | ⟨xs, ys, h1, h2⟩
        · omega
        · have := sized_slice hsz (j := 0) (t := 22) (e := 3) rfl (by rw [h1]; rfl) Try.underlying22
          rw [h2, show Try.prog.bytesOf 3 = 8 from by kernel_rfl] at this
          simpa [reachBytes] using this
      exact walk W A0 n0 c0 g0 hn0 hc0 hs0 (fun j => bounds_i64 (hw0 j)) hl0 re0)

theorem proved : Rows.WheelSharesSaid :=
  OpenClaim.holds_of_wide 4 Try.f4 rfl rfl rfl rfl rfl rfl rfl ⟨rfl, rfl, rfl, rfl, rfl⟩ rfl rfl rfl rfl rfl (by kernel_rfl) Try.func4 (by kernel_rfl)
    (of_decide_eq_true (by kernel_rfl)) (by unfold Func.isWrapper; first | (rw [if_pos (by decide +kernel)]; kernel_rfl) | (rw [if_neg (by decide +kernel)]; exact ⟨rfl, rfl⟩))
    (fun os started H enc _ => lifted os started H enc)
end Go.Proofs.Ytejlfbiehcfbgaa.wheelShares
