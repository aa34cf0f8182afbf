/- roundhouselaw1.SumWrong answers true for every row of bytes and two numbers; no condition. -/
import Derived.Test.YthjagmmkkfeffaaSumLaw
import Derived.Test.YthjagmmkkfeffaaBytes
import Derived.Deep.DeepCutAuto
namespace Go.Proofs.Ythjagmmkkfeffaa.sumWrong
set_option linter.unusedVariables false
open Go.RowKit Go.ChangeShapes Go.WideShapes Go.ChangeAt

set_option maxRecDepth 100000 in
set_option maxHeartbeats 2000000 in
theorem walk (W : World) (A : Option Addr) (n c : Nat) (g : Nat → Int) (hn : n ≤ c) (hc : c ≤ maxLen) (h : By W A n g) (hg : IsB g) (hl : ∀ ad, A = some ad → 0 < n → ad.block < W.heap.size) (re : c * 1 ≤ 140737488351232)
    (at0 : Int) (ra : -9223372036854775808 ≤ at0 ∧ at0 ≤ 9223372036854775807) (v0 : Int) (rv : -9223372036854775808 ≤ v0 ∧ v0 ≤ 9223372036854775807) :
    Calls Try.prog 7 #[.slice A n c, .int .i64 at0, .int .i64 v0] W fun e w' => e = .returned (.bool true) ∧ Below W.heap.size W w' := by
  by_cases hbig : n ≤ 2000
  · by_cases hsm : 6 ≤ n
    · have t1 : decide ((n : Int) > 2000) = false := by simp; omega
      have t2 : decide ((n : Int) < 6) = false := by simp; omega
      obtain ⟨m, hm⟩ : ∃ m, m = n / 2 - 1 := ⟨_, rfl⟩
      obtain ⟨L, hL⟩ : ∃ L, L = 2 * (m + 1) := ⟨_, rfl⟩
      have hLn : L ≤ n := by omega
      have hL1 : L ≤ 2 * m + 2 := by omega
      have hL2 : 2 * m + 2 ≤ L := by omega
      have hm2 : 2 ≤ m := by omega
      have hm9 : m ≤ 1000 := by omega
      have e1 : (n : Int) / 2 * 2 = (L : Int) := by omega
      have e2 : (L : Int) / 2 - 1 = (m : Int) := by omega
      have HL := hid hL
      clear hm hL
      have b0 := wi_bd at0 (m : Int) (by omega)
      obtain ⟨k, hk⟩ := Int.eq_ofNat_of_zero_le b0.1
      rw [hk] at b0
      have hkm : k < m := by omega
      clear b0
      have HK := hid hk
      clear hk
      have b2 := wi_bd v0 65536 (by omega)
      obtain ⟨b2, b2'⟩ := b2
      go_enter Try.func7, Try.ntmps7
      go_wp2_with fail
      refine (known_any _).mono ?_
      rintro e w ⟨rfl, hb1⟩
      have hs := h.below hb1 (Nat.le_refl _)
      go_wp2_with (at_builtin
                   refine wp_app_b0 rfl (.tmp 26) (.tmp 32) rfl w.heap.size (.slice (some ⟨w.heap.size, 0, none⟩) 0 0) rfl (fun _ => Ow.new (Nat.le_refl _)) A L c g rfl ((hs.less hLn).alloc _) (by omega) (by simp) ?_
                   intro A1 c1 w1 o1 hc1 hm1 hb2 hg1 ho1
                   have hb2' : Below w.heap.size w w1 := ((Below.refl _ _).alloc (Nat.le_refl _) _).trans hb2)
      refine (right_any _ _ _ _ _ o1.sl1 hg (by omega)).mono ?_
      rintro e w4 ⟨rfl, k1, rfl⟩
      go_wp2_with fail
      refine (re_i64 (within_any at0 (m : Int) _ (by omega) (by omega)) HK.out).mono ?_
      rintro e w4 ⟨rfl, rfl⟩
      go_wp2_with fail
      refine (within_any v0 65536 _ (by omega) (by omega)).mono ?_
      rintro e w4 ⟨rfl, rfl⟩
      generalize wi v0 65536 = u at *
      obtain ⟨G, rfl, hG1, hG2, hcell, hfro⟩ := o1.block_ (by omega)
      obtain ⟨a1, h1⟩ : ∃ a, a = g (2 * m) := ⟨_, rfl⟩
      obtain ⟨a2, h2⟩ : ∃ a, a = g (2 * m + 1) := ⟨_, rfl⟩
      obtain ⟨a3, h3⟩ : ∃ a, a = g (2 * k) := ⟨_, rfl⟩
      obtain ⟨a4, h4⟩ : ∃ a, a = g (2 * k + 1) := ⟨_, rfl⟩
      have r1 := hg (2 * m)
      have r2 := hg (2 * m + 1)
      have r3 := hg (2 * k)
      have r4 := hg (2 * k + 1)
      rw [← h1] at r1
      rw [← h2] at r2
      rw [← h3] at r3
      rw [← h4] at r4
      obtain ⟨r1, r1'⟩ := r1
      obtain ⟨r2, r2'⟩ := r2
      obtain ⟨r3, r3'⟩ := r3
      obtain ⟨r4, r4'⟩ := r4
      have c1' : w1.cell? ⟨G, (2 * (m : Int)).toNat, none⟩ = some (.int .u8 a1) := by rw [h1, show (2 * (m : Int)).toNat = 2 * m from by omega]; exact hcell _ (by omega)
      have c2' : w1.cell? ⟨G, (2 * (m : Int) + 1).toNat, none⟩ = some (.int .u8 a2) := by rw [h2, show (2 * (m : Int) + 1).toNat = 2 * m + 1 from by omega]; exact hcell _ (by omega)
      have c3' : w1.cell? ⟨G, (2 * (k : Int)).toNat, none⟩ = some (.int .u8 a3) := by rw [h3, show (2 * (k : Int)).toNat = 2 * k from by omega]; exact hcell _ (by omega)
      have c4' : w1.cell? ⟨G, (2 * (k : Int) + 1).toNat, none⟩ = some (.int .u8 a4) := by rw [h4, show (2 * (k : Int) + 1).toNat = 2 * k + 1 from by omega]; exact hcell _ (by omega)
      have x1 := or_shift a1 a2 r1 r1' r2 r2'
      have x2 := or_shift a3 a4 r3 r3' r4 r4'
      have y1 : IntKind.i64.wrap (2 * (m : Int)) = 2 * (m : Int) := IntWalk.i64_in _ (by omega)
      have y2 : IntKind.i64.wrap (2 * (m : Int) + 1) = 2 * (m : Int) + 1 := IntWalk.i64_in _ (by omega)
      have y3 : IntKind.i64.wrap (2 * (k : Int)) = 2 * (k : Int) := IntWalk.i64_in _ (by omega)
      have y4 : IntKind.i64.wrap (2 * (k : Int) + 1) = 2 * (k : Int) + 1 := IntWalk.i64_in _ (by omega)
      have y5 : IntKind.i64.wrap (a1 * 256) = a1 * 256 := IntWalk.i64_in _ (by omega)
      have y6 : IntKind.i64.wrap (a3 * 256) = a3 * 256 := IntWalk.i64_in _ (by omega)
      have y7 : IntKind.i64.wrap a1 = a1 := IntWalk.i64_in _ (by omega)
      have y8 : IntKind.i64.wrap a2 = a2 := IntWalk.i64_in _ (by omega)
      have y9 : IntKind.i64.wrap a3 = a3 := IntWalk.i64_in _ (by omega)
      have y0 : IntKind.i64.wrap a4 = a4 := IntWalk.i64_in _ (by omega)
      have z1 : 0 ≤ 2 * (m : Int) := by omega
      have z1' : 2 * (m : Int) < L := by omega
      have z2 : 0 ≤ 2 * (m : Int) + 1 := by omega
      have z2' : 2 * (m : Int) + 1 < L := by omega
      have z3 : 0 ≤ 2 * (k : Int) := by omega
      have z3' : 2 * (k : Int) < L := by omega
      have z4 : 0 ≤ 2 * (k : Int) + 1 := by omega
      have z4' : 2 * (k : Int) + 1 < L := by omega
      have HC := hid hcell
      have H1 := hid h1
      have H2 := hid h2
      have H3 := hid h3
      have H4 := hid h4
      clear h1 h2 h3 h4 hcell
      go_wp2_with fail
      go_quiet (exact q1p (turn_any _ _ _ _ (by omega) (by omega) (by omega) (by omega) b2 (by omega)))
      have tb := turn_bd (a1 * 256 + a2) (a3 * 256 + a4) u (by omega) (by omega) (by omega) (by omega) b2 (by omega)
      obtain ⟨s', hs'⟩ : ∃ s', s' = turn (a1 * 256 + a2) (a3 * 256 + a4) u := ⟨_, rfl⟩
      rw [← hs'] at tb ⊢
      obtain ⟨tb, tb'⟩ := tb
      have HS := hid hs'
      clear y1 y2 y3 y4 y5 y6 y7 y8 y9 y0 x1 x2 hs' c1' c2' c3' c4'
      obtain ⟨w5, hw5⟩ : ∃ w5, w5 = (w1.drewN k1).drewN nq := ⟨_, rfl⟩
      rw [← hw5]
      have O5 : Ow w5 w.heap.size 5 1 (.slice (some ⟨G, 0, none⟩) L c1) L (fun j => .int .u8 (g j)) := hw5 ▸ o1
      have hb5 : Below w.heap.size w w5 := hw5 ▸ below_drewN (below_drewN hb2' _) _
      clear hw5 o1 hfro
      obtain ⟨f1, f2, f3, f4, hst⟩ := pair_store O5 (2 * k) (by omega)
      obtain ⟨O6, hb6⟩ := hst (u / 256) (u % 256)
      clear hst
      go_upto_region 10 with fail
      go_cut [] (fun wx => wx = (w5.setCell ⟨G, 2 * k, none⟩ (.int .u8 (u / 256))).setCell ⟨G, 2 * k + 1, none⟩ (.int .u8 (u % 256)))
      case first =>
        go_wp2_with fail
        go_meet
        rfl
      case rest =>
      obtain rfl := hcut
      clear f1 f2 f3 f4
      generalize (w5.setCell ⟨G, 2 * k, none⟩ (.int .u8 (u / 256))).setCell ⟨G, 2 * k + 1, none⟩ (.int .u8 (u % 256)) = w6 at *
      obtain ⟨f1, f2, f3, f4, hst⟩ := pair_store O6 (2 * m) (by omega)
      obtain ⟨O7, hb7⟩ := hst (s' / 256) (s' % 256)
      clear hst
      go_upto_region 13 with fail
      go_cut [] (fun wx => wx = (w6.setCell ⟨G, 2 * m, none⟩ (.int .u8 (s' / 256))).setCell ⟨G, 2 * m + 1, none⟩ (.int .u8 (s' % 256)))
      case first =>
        go_wp2_with fail
        go_meet
        rfl
      case rest =>
      obtain rfl := hcut
      clear f1 f2 f3 f4
      generalize (w6.setCell ⟨G, 2 * m, none⟩ (.int .u8 (s' / 256))).setCell ⟨G, 2 * m + 1, none⟩ (.int .u8 (s' % 256)) = w7 at *
      have hb57 : Below w.heap.size w w7 := hb5.trans (hb6.trans hb7)
      have hsb := hs.below hb57 (Nat.le_refl _)
      obtain ⟨x, hx⟩ : ∃ x : Nat → Int, x = fun j => if j = 2 * m + 1 then s' % 256 else if j = 2 * m then s' / 256 else if j = 2 * k + 1 then u % 256 else if j = 2 * k then u / 256 else g j := ⟨_, rfl⟩
      have SX : By w7 (some ⟨G, 0, none⟩) L x := hx ▸ O7.sl1
      have hxb : IsB x := by
        intro j
        have := hg j
        rw [hx]
        simp only
        split
        · omega
        · split
          · omega
          · split
            · omega
            · split <;> omega
      have hfin : zer x L = false → zer g L = false → (norm (tot x L) == 65535) = (norm (tot g L) == 65535) := by
        intro zx zg
        have hT : tot x L = tot g L + (u - (a3 * 256 + a4)) + (s' - (a1 * 256 + a2)) := by
          have e0 : x = set1 (set1 (set1 (set1 g (2 * k) (u / 256)) (2 * k + 1) (u % 256)) (2 * m) (s' / 256)) (2 * m + 1) (s' % 256) := by rw [hx]; rfl
          rw [e0, tot_set1 _ _ _ _ (by omega), tot_set1 _ _ _ _ (by omega), tot_set1 _ _ _ _ (by omega), tot_set1 _ _ _ _ (by omega)]
          simp only [set1]
          rw [if_neg (show ¬ 2 * m + 1 = 2 * m by omega), if_neg (show ¬ 2 * m + 1 = 2 * k + 1 by omega), if_neg (show ¬ 2 * m + 1 = 2 * k by omega), if_neg (show ¬ 2 * m = 2 * k + 1 by omega), if_neg (show ¬ 2 * m = 2 * k by omega),
            if_neg (show ¬ 2 * k + 1 = 2 * k by omega), if_pos (show 2 * m % 2 = 0 by omega), if_neg (show ¬ (2 * m + 1) % 2 = 0 by omega), if_pos (show 2 * k % 2 = 0 by omega), if_neg (show ¬ (2 * k + 1) % 2 = 0 by omega), ← H1.out, ← H2.out, ← H3.out, ← H4.out]
          omega
        have hmod : s' % 65535 = ((a1 * 256 + a2) + ((a3 * 256 + a4) - u)) % 65535 := by rw [HS.out]; exact turn_mod _ _ _
        have h1 : tot x L ≠ 0 := fun e => by
          have := (zer_iff x L).2 ((tot_zero x hxb L).1 e)
          rw [zx] at this
          cases this
        have h2 : tot g L ≠ 0 := fun e => by
          have := (zer_iff g L).2 ((tot_zero g hg L).1 e)
          rw [zg] at this
          cases this
        have h3 := tot_nonneg x hxb L
        have h4 := tot_nonneg g hg L
        rw [Bool.eq_iff_iff, beq_iff_eq, beq_iff_eq]
        unfold norm
        rw [if_neg h1, if_neg h2]
        omega
      have HF := hid hfin
      clear hfin HS H1 H2 H3 H4 HC HK O5 O6 O7 hs h hx
      go_wp2_with fail
      go_loop [13, 14, 15] (fun z o i => ∃ j : Nat, j ≤ L ∧ i = .int .i64 j ∧ z = .bool (zer x j) ∧ o = .bool (zer g j)) (fun _ _ i => L - (intOf i).toNat)
      case atStart => exact ⟨0, by omega, rfl, rfl, rfl⟩
      case round =>
        obtain ⟨j, hj, rfl, rfl, rfl⟩ := hrel
        by_cases hlt : j < L
        · obtain ⟨b, off, rfl, _, cellA⟩ := hsb (by omega)
          have d1 : w7.cell? ⟨b, off + j, none⟩ = some (.int .u8 (g j)) := cellA _ (by omega)
          have d2 : w7.cell? ⟨G, j, none⟩ = some (.int .u8 (x j)) := by have := SX.at_ hlt; rwa [Nat.zero_add] at this
          have i1 : (j : Int) < L := by omega
          have i2 : (j : Int) < n := by omega
          have HZ : Hid (zer x (j + 1) = (zer x j && (x j == 0))) := rfl
          have HO : Hid (zer g (j + 1) = (zer g j && (g j == 0))) := rfl
          clear cellA hsb SX HF
          generalize zer x j = zx at *
          generalize zer g j = zg at *
          cases zx <;> cases zg
          all_goals
            go_wp2_with fail
            go_round
            case rel => exact ⟨j + 1, by omega, by go_num, by rw [HZ.out]; rfl, by rw [HO.out]; rfl⟩
            case measure => simp [intOf]; omega
        · have e : j = L := by omega
          subst e
          have i1 : ¬ (j : Int) < j := by omega
          have hf := HF.out
          clear HF
          generalize zer x j = zx at *
          generalize zer g j = zg at *
          have hb9 : Below W.heap.size W w7 := hb1.trans (hb57.mono hb1.size)
          cases zx
          · cases zg
            · have hf' := hid (hf rfl rfl)
              clear hf
              go_wp2_with fail
              refine (re_bool (right_any _ _ _ _ _ SX hxb (by omega)) hf'.out).mono ?_
              rintro e w8 ⟨rfl, k8, rfl⟩
              generalize (norm (tot g j) == 65535) = r
              cases r
              all_goals
                go_wp2
                go_ret
                exact ⟨rfl, below_drewN hb9 _⟩
            · clear hf
              go_wp2
              go_ret
              exact ⟨rfl, hb9⟩
          · clear hf
            go_wp2
            go_ret
            exact ⟨rfl, hb9⟩
    · have t1 : decide ((n : Int) > 2000) = false := by simp; omega
      have t2 : decide ((n : Int) < 6) = true := by simp; omega
      go_enter Try.func7, Try.ntmps7
      go_wp2_with fail
      refine (known_any _).mono ?_
      rintro e w ⟨rfl, hb1⟩
      go_wp2
      go_ret
      exact ⟨rfl, hb1⟩
  · have t1 : decide ((n : Int) > 2000) = true := by simp; omega
    go_enter Try.func7, Try.ntmps7
    go_wp2_with fail
    refine (known_any _).mono ?_
    rintro e w ⟨rfl, hb1⟩
    go_wp2
    go_ret
    exact ⟨rfl, hb1⟩

set_option maxRecDepth 100000 in
theorem lifted (os : Os) (started : os.Started) (H : Type) (enc : TypeId × Value → H) :
    ReturnsInHanded {} Try.checked os 7 .any (Rows.sumWrongSpec.pre6 enc Try.prog Try.f7 [] false) (Rows.sumWrongSpec.post enc Try.prog Try.f7 false true false false) :=
  law_step (s := Rows.sumWrongSpec) started (by kernel_rfl) Try.func7
    (ChangeSpec.witness6 (s := Rows.sumWrongSpec) (enc := enc) (C := Try.checked) false ⟨#[], #[.slice none 0 0, .int .i64 0, .int .i64 0], []⟩ 8 (by kernel_rfl) (by kernel_rfl) (by kernel_rfl) (by kernel_rfl))
    rfl (by rw [Try.params7]; decide +kernel) rfl Try.underlying4
    (fun ds h => by
      rw [Try.params7] at h
      match ds, h with
      | [_, _, _], _ => rfl)
    (fun W base args ds ps hval hA hsz => by
      rw [Try.params7] at hA hval hsz
      obtain ⟨v0, vs0, d0, ds0, p0, q0, hargs, rfl, rfl, h0, r0⟩ := trodAll_cons hA
      obtain ⟨v1, vs1, d1, ds1, p1, q1, rfl, rfl, rfl, h1, r1⟩ := trodAll_cons r0
      obtain ⟨v2, vs2, d2, ds2, p2, q2, rfl, rfl, rfl, h2, r2⟩ := trodAll_cons r1
      obtain ⟨rfl, rfl, rfl⟩ := trodAll_nil r2
      obtain rfl : args = #[v0, v1, v2] := by cases args; simp_all
      obtain ⟨A0, n0, c0, g0, rfl, hn0, hc0, hs0, hw0, hl0, hd0⟩ := open_row Try.underlying22 Try.underlying5 (by kernel_rfl) (hval 0 22 v0 rfl rfl) h0
      have re0 : c0 * 1 ≤ 140737488351232 := by
        rcases hd0 with ⟨_, h0⟩ | ⟨xs, ys, h1, h2⟩
        · omega
        · have := sized_slice hsz (j := 0) (t := 22) (e := 5) rfl (by rw [h1]; rfl) Try.underlying22
          rw [h2, show Try.prog.bytesOf 5 = 1 from by kernel_rfl] at this
          simpa [reachBytes] using this
      obtain ⟨a1, rfl, rfl, rfl, w1⟩ := open_int Try.underlying3 (hval 1 3 v1 rfl rfl) h1
      obtain ⟨a2, rfl, rfl, rfl, w2⟩ := open_int Try.underlying3 (hval 2 3 v2 rfl rfl) h2
      exact walk W A0 n0 c0 g0 hn0 hc0 hs0 (fun j => bounds_u8 (hw0 j)) hl0 re0 a1 (bounds_i64 w1) a2 (bounds_i64 w2))

theorem proved : Rows.SumWrongSaid :=
  OpenClaim.holds_of_wide 7 Try.f7 rfl rfl rfl rfl rfl rfl rfl ⟨rfl, rfl, rfl, rfl, rfl⟩ rfl rfl rfl rfl rfl (by kernel_rfl) Try.func7 (by kernel_rfl)
    (of_decide_eq_true (by kernel_rfl)) (by unfold Func.isWrapper; first | (rw [if_pos (by decide +kernel)]; kernel_rfl) | (rw [if_neg (by decide +kernel)]; exact ⟨rfl, rfl⟩))
    (fun os started H enc _ => lifted os started H enc)
end Go.Proofs.Ythjagmmkkfeffaa.sumWrong
