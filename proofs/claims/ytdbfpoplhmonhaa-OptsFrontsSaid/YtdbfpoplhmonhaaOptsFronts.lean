/- roundhouselaw4.OptsFronts answers true for all numbers, all bytes; no condition. -/
import Derived.Test.YtdbfpoplhmonhaaOptTile
import Derived.Deep.RegionWith
namespace Go.Proofs.Ytdbfpoplhmonhaa.optsFronts
set_option linter.unusedVariables false
set_option linter.unusedSimpArgs false
open Go.RowKit Go.ChangeShapes Go.WideShapes Go.ChangeAt

theorem SlO.take {w : World} {A : Option Addr} {l : List (Int × Int × Int)} (h : SlO w A l) (k : Nat) : SlO w A (l.take k) := by
  have hle : (l.take k).length ≤ l.length := by rw [List.length_take]; omega
  refine Sl.as (Sl.less h (Nat.mul_le_mul_right 3 hle)) fun j hj => ?_
  have h1 : j / 3 < (l.take k).length := by omega
  have h2 : j / 3 < k := by rw [List.length_take] at h1; omega
  simp only [lc, List.getD_eq_getElem?_getD]
  rw [List.getElem?_take_of_lt h2]

set_option maxRecDepth 100000 in
set_option maxHeartbeats 4000000 in
theorem walk (W : World) (A0 : Option Addr) (n0 c0 : Nat) (g0 : Nat → Int) (hn0 : n0 ≤ c0) (hc0 : c0 ≤ maxLen) (h0 : Is W A0 n0 g0) (hg0 : IsI g0) (hl0 : ∀ ad, A0 = some ad → 0 < n0 → ad.block < W.heap.size) (re0 : c0 * 8 ≤ 140737488351232) (A1 : Option Addr) (n1 c1 : Nat) (g1 : Nat → Int) (hn1 : n1 ≤ c1) (hc1 : c1 ≤ maxLen) (h1 : By W A1 n1 g1) (hg1 : IsB g1) (hl1 : ∀ ad, A1 = some ad → 0 < n1 → ad.block < W.heap.size) (re1 : c1 * 1 ≤ 140737488351232) (a2 : Int) (r2 : -9223372036854775808 ≤ a2 ∧ a2 ≤ 9223372036854775807) :
    Calls Try.prog 11 #[.slice A0 n0 c0, .slice A1 n1 c1, .int .i64 a2] W fun e w' => e = .returned (.bool true) ∧ Below W.heap.size W w' := by
  by_cases hbig : n1 ≤ 40
  · have t1 : decide ((n1 : Int) > 40) = false := by simp; omega
    have HG0 := hid hg0
    have HG1 := hid hg1
    have HN1 := hid hn1
    clear hc0 hc1 hl0 hl1 hg0 hg1 hn1
    go_enter Try.func11, Try.ntmps11
    go_wp2_with fail
    refine (known_any _).mono ?_
    rintro e w ⟨rfl, hb1⟩
    have B := hid hb1
    have R0 := hid (h0.below hb1 (Nat.le_refl _))
    have R1 := hid (h1.below hb1 (Nat.le_refl _))
    clear hb1 h0 h1
    go_wp2_with fail
    refine (some_any A0 n0 c0 g0 w R0.out HG0.out (by omega)).mono ?_
    rintro e w1 ⟨A2, m, c2, rfl, hm, ⟨f, hf, ho⟩, hb⟩
    have HO := hid ho
    have HF := hid hf
    have B1 := hid hb
    clear ho hf hb R0 HG0
    have hz := B1.out.size
    go_wp2_with (at_builtin; refine wp_app_b rfl (.tmp 19) (.tmp 20) rfl w.heap.size _ m f rfl HO.out _ n1 _ g1 rfl (R1.out.below B1.out (Nat.le_refl _)) (by omega) hz ?_; intro A3 c3 w2 q1 q2 q3 q4 q5 q6; have H2 := hid q1; have hc3 := hid q2; have BW := hid (B1.out.trans q4); clear q1 q2 q3 q4 q5 q6 HO)
    obtain ⟨G, hG⟩ : ∃ G : Nat → Int, G = fun j => if j < m then f j else g1 (j - m) := ⟨_, rfl⟩
    have HGB : Hid (IsB G) := hid (by rw [hG]; intro j; dsimp only; split; exact HF.out j; exact HG1.out _)
    have S2 : Hid (By w2 A3 (m + n1) G) := hid (by rw [hG]; exact H2.out.sl1)
    have BC := hid (Below.refl w2.heap.size w2)
    clear H2 hG HF B1 hz R1 HG1
    have hn80 : m + n1 ≤ 80 := by omega
    generalize hn : m + n1 = n at *
    clear hn HN1
    have Ql := walk_any A3 n c3 G w2 S2.out HGB.out (by omega)
    unfold Walked at Ql
    obtain ⟨l, hl⟩ : ∃ x, x = wl G n := ⟨_, rfl⟩
    obtain ⟨er, her⟩ : ∃ x, x = we G n := ⟨_, rfl⟩
    obtain ⟨kl, hkl⟩ : ∃ k, k = l.length := ⟨_, rfl⟩
    have bl := wl_len G n
    rw [← hl] at Ql bl
    rw [← her] at Ql
    rw [← hkl] at Ql bl
    have Ll := hid hl
    have El := hid her
    have Kl := hid hkl
    have Ql' := hid Ql
    clear Ql hl her hkl
    refine Ql'.out.mono ?_
    rintro e w3 ⟨A4, c4, rfl, ho, hb⟩
    have Yl := hid (OwO.sl ho Kl.out)
    have Tl := hid ho
    have BW := hid (BW.out.trans (hb.mono BW.out.size))
    have BC := hid (BC.out.trans (hb.mono BC.out.size))
    clear ho hb Ql'

    have BF := hid (B.out.trans (BW.out.mono B.out.size))
    have hc4 : Hid (kl ≤ c4) := hid (by
      obtain ⟨A', c', hv, h1, _⟩ := Ow.form_ Tl.out
      injection hv with _ h2 h3
      have := Kl.out
      omega)
    clear BW B Tl
    cases hw : Go.Proofs.Ytdbfpoplhmonhaa.walk G n 0 with
    | none =>
      have e5 : er = 5 := by rw [El.out]; unfold we; rw [hw]; rfl
      clear hw
      subst e5
      go_wp2_with fail
      go_ret
      exact ⟨rfl, BF.out⟩
    | some l0 =>
      have e0 : er = 0 := by rw [El.out]; unfold we; rw [hw]; rfl
      have el : l = l0 := by rw [Ll.out]; unfold wl; rw [hw]; rfl
      subst e0
      subst el
      rcases n with _ | n
      · rw [walk_end G (by omega)] at hw
        injection hw with hw
        subst hw
        have ek := Kl.out
        simp only [List.length_nil] at ek
        subst ek
        clear El Ll
        go_wp2_with fail
        go_ret
        exact ⟨rfl, BF.out⟩
      · rcases kl with _ | q
        · exfalso
          have hl0 : l = [] := List.eq_nil_of_length_eq_zero Kl.out.symm
          subst hl0
          have := tiled_of G (n + 1) (n + 1) 0 [] (by omega) hw
          simp [Tiled] at this
        · have wb := wi_bd a2 ((q : Int) + 1) (by omega)
          obtain ⟨k, hk⟩ := Int.eq_ofNat_of_zero_le wb.1
          have hkq : k < q + 1 := by omega
          have WS := hid (fun w => re_i64 (within_any a2 ((q : Int) + 1) w (by omega) (by omega)) hk)
          clear hk wb
          have hkl : k < l.length := by have := Kl.out; omega
          have YA' := Yl.out
          obtain ⟨b, off, rfl, hb, hcc⟩ := YA' (by omega)
          obtain ⟨x0, x1, x2⟩ := SlO.cells Yl.out hkl
          clear hcc x0 x2 YA'
          have hf := walk_front hw hkl
          have hm := tiled_mem l 0 (tiled_of G (n + 1) (n + 1) 0 l (by omega) hw) l[k] (List.getElem_mem hkl)
          obtain ⟨hm1, hm2, hm3, hm4⟩ := hm
          obtain ⟨y, hy⟩ : ∃ y, y = l[k].2.1.toNat := ⟨_, rfl⟩
          have hy2 : l[k].2.1 = (y : Int) := by omega
          rw [hy2] at x1
          rw [← hy] at hf hm2
          have HFR := hid hf
          clear hf hm1 hm3 hm4 hy hy2 hw
          have i0 : (0 : Int) ≤ k := by omega
          have i1 : (k : Int) < (q : Int) + 1 := by omega
          have i2 : (0 : Int) ≤ y := by omega
          have i3 : (y : Int) ≤ (n : Int) + 1 := by omega
          have d1 : decide ((y : Int) < 0) = false := by simp
          have i4 : (y : Int) ≤ (c3 : Int) := by have := hc3.out; omega
          have d2 : decide ((n : Int) + 1 < (y : Int)) = false := by simp; omega
          go_wp2_with fail
          refine (WS.out _).mono ?_
          rintro e w4 ⟨rfl, rfl⟩
          go_wp2_with fail
          have Q2 := walk_any A3 y c3 G w3 (Sl.less (S2.out.below BC.out (Nat.le_refl _)) (by omega)) HGB.out (by omega)
          unfold Walked at Q2
          have e1 : wl G y = l.take k := by unfold wl; rw [HFR.out]; rfl
          have e2 : we G y = 0 := by unfold we; rw [HFR.out]; rfl
          have e3 : (l.take k).length = k := by rw [List.length_take]; omega
          rw [e1, e2, e3] at Q2
          have HE3 := hid e3.symm
          replace Q2 := hid Q2
          clear e1 e2 e3
          refine Q2.out.mono ?_
          rintro e w5 ⟨A5, c5, rfl, ho, hb5⟩
          have YM := hid (OwO.sl ho HE3.out)
          have YL := hid (SlO.below Yl.out hb5 (Nat.le_refl _))
          have B5 := hid (BF.out.trans (hb5.mono BF.out.size))
          clear ho hb5 Q2 Yl BF BC S2 HGB HFR WS El Ll
          have i5 : (k : Int) ≤ (c4 : Int) := by have := hc4.out; omega
          have i6 : (0 : Int) ≤ (c4 : Int) := by omega
          have YK := hid (SlO.take YL.out k)
          have YKd : Hid (SlO w5.drew (some ⟨b, off, none⟩) (l.take k)) := hid YK.out
          have BD : Hid (Below W.heap.size W w5.drew) := hid (Below.drew B5.out)
          have hk81 : k ≤ 81 := by omega
          clear YK B5
          clear YL hc4 i2 i3 i4 x1
          go_wp2_with fail
          go_region_with (first
            | (go_at_call 21
               (with_reducible refine (as_any (A := A5) ?_ HE3.out ?_).mono ?_)
               · exact YM.out
               · omega
               rintro e w6 ⟨A6, c6, rfl, ho6, hb6⟩)
            | (go_at_call 21
               (with_reducible refine (as_any (A := some ⟨b, off, none⟩) ?_ HE3.out ?_).mono ?_)
               · exact SlO.below YKd.out hb6 (Nat.le_refl _)
               · omega
               rintro e w7 ⟨A7, c7, rfl, ho7, hb7⟩)
            | (go_at_call 20
               (with_reducible refine (re_bool (b := true) (same_any ?_ ?_ HE3.out HE3.out ?_ ?_) ?_).mono ?_)
               · exact SlO.below (OwO.sl ho6 HE3.out) hb7 (Nat.le_refl _)
               · exact OwO.sl ho7 HE3.out
               · omega
               · omega
               · simp
               rintro e w8 ⟨rfl, q8, rfl⟩))
          all_goals go_wp2_with fail
          all_goals go_ret
          all_goals
            have B6 := BD.out.trans (hb6.mono BD.out.size)
            exact ⟨rfl, below_drewN (B6.trans (hb7.mono B6.size)) _⟩
  · have t1 : decide ((n1 : Int) > 40) = true := by simp; omega
    go_enter Try.func11, Try.ntmps11
    go_wp2_with fail
    refine (known_any _).mono ?_
    rintro e w ⟨rfl, hb1⟩
    go_wp2
    go_ret
    exact ⟨rfl, hb1⟩

set_option maxRecDepth 100000 in
theorem lifted (os : Os) (started : os.Started) (H : Type) (enc : TypeId × Value → H) :
    ReturnsInHanded {} Try.checked os 11 .any (Rows.optsFrontsSpec.pre6 enc Try.prog Try.f11 [] false) (Rows.optsFrontsSpec.post enc Try.prog Try.f11 false true false false) :=
  law_step (s := Rows.optsFrontsSpec) started (by kernel_rfl) Try.func11
    (ChangeSpec.witness6 (s := Rows.optsFrontsSpec) (enc := enc) (C := Try.checked) false ⟨#[], #[.slice none 0 0, .slice none 0 0, .int .i64 0], []⟩ 8 (by kernel_rfl) (by kernel_rfl) (by kernel_rfl) (by kernel_rfl))
    rfl (by rw [Try.params11]; decide +kernel) rfl Try.underlying4
    (fun ds h => by
      rw [Try.params11] at h
      match ds, h with
      | [_, _, _], _ => rfl)
    (fun W base args ds ps hval hA hsz => by
      rw [Try.params11] at hA hval hsz
      obtain ⟨v0, vs0, d0, ds0, p0, q0, hargs, rfl, rfl, h0, r0⟩ := trodAll_cons hA
      obtain ⟨v1, vs1, d1, ds1, p1, q1, rfl, rfl, rfl, h1, r1⟩ := trodAll_cons r0
      obtain ⟨v2, vs2, d2, ds2, p2, q2, rfl, rfl, rfl, h2, r2⟩ := trodAll_cons r1
      obtain ⟨rfl, rfl, rfl⟩ := trodAll_nil r2
      obtain rfl : args = #[v0, v1, v2] := by cases args; simp_all
      obtain ⟨A0, n0, c0, g0, rfl, hn0, hc0, hs0, hw0, hl0, hd0⟩ := open_row Try.underlying22 Try.underlying3 (by kernel_rfl) (hval 0 22 v0 rfl rfl) h0
      have re0 : c0 * 8 ≤ 140737488351232 := by
        rcases hd0 with ⟨_, h0⟩ | ⟨xs, ys, h1, h2⟩
        · omega
        · have := sized_slice hsz (j := 0) (t := 22) (e := 3) rfl (by rw [h1]; rfl) Try.underlying22
          rw [h2, show Try.prog.bytesOf 3 = 8 from by kernel_rfl] at this
          simpa [reachBytes] using this
      obtain ⟨A1, n1, c1, g1, rfl, hn1, hc1, hs1, hw1, hl1, hd1⟩ := open_row Try.underlying23 Try.underlying5 (by kernel_rfl) (hval 1 23 v1 rfl rfl) h1
      have re1 : c1 * 1 ≤ 140737488351232 := by
        rcases hd1 with ⟨_, h0⟩ | ⟨xs, ys, h1, h2⟩
        · omega
        · have := sized_slice hsz (j := 1) (t := 23) (e := 5) rfl (by rw [h1]; rfl) Try.underlying23
          rw [h2, show Try.prog.bytesOf 5 = 1 from by kernel_rfl] at this
          simpa [reachBytes] using this
      obtain ⟨a2, rfl, rfl, rfl, w2⟩ := open_int Try.underlying3 (hval 2 3 v2 rfl rfl) h2
      exact walk W A0 n0 c0 g0 hn0 hc0 hs0 (fun j => bounds_i64 (hw0 j)) hl0 re0 A1 n1 c1 g1 hn1 hc1 hs1 (fun j => bounds_u8 (hw1 j)) hl1 re1 a2 (bounds_i64 w2))

theorem proved : Rows.OptsFrontsSaid :=
  OpenClaim.holds_of_wide 11 Try.f11 rfl rfl rfl rfl rfl rfl rfl ⟨rfl, rfl, rfl, rfl, rfl⟩ rfl rfl rfl rfl rfl (by kernel_rfl) Try.func11 (by kernel_rfl)
    (of_decide_eq_true (by kernel_rfl)) (by unfold Func.isWrapper; first | (rw [if_pos (by decide +kernel)]; kernel_rfl) | (rw [if_neg (by decide +kernel)]; exact ⟨rfl, rfl⟩))
    (fun os started H enc _ => lifted os started H enc)
end Go.Proofs.Ytdbfpoplhmonhaa.optsFronts
