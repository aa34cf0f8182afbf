/- roundhouselaw4.OptsBehind answers true for all numbers, all bytes; no condition. -/
import Derived.Test.YtdbfpoplhmonhaaOptTile
namespace Go.Proofs.Ytdbfpoplhmonhaa.optsBehind
set_option linter.unusedVariables false
set_option linter.unusedSimpArgs false
open Go.RowKit Go.ChangeShapes Go.WideShapes Go.ChangeAt

set_option maxRecDepth 100000 in
set_option maxHeartbeats 4000000 in
theorem walk (W : World) (A0 : Option Addr) (n0 c0 : Nat) (g0 : Nat → Int) (hn0 : n0 ≤ c0) (hc0 : c0 ≤ maxLen) (h0 : Is W A0 n0 g0) (hg0 : IsI g0) (hl0 : ∀ ad, A0 = some ad → 0 < n0 → ad.block < W.heap.size) (re0 : c0 * 8 ≤ 140737488351232) (A1 : Option Addr) (n1 c1 : Nat) (g1 : Nat → Int) (hn1 : n1 ≤ c1) (hc1 : c1 ≤ maxLen) (h1 : By W A1 n1 g1) (hg1 : IsB g1) (hl1 : ∀ ad, A1 = some ad → 0 < n1 → ad.block < W.heap.size) (re1 : c1 * 1 ≤ 140737488351232) :
    Calls Try.prog 9 #[.slice A0 n0 c0, .slice A1 n1 c1] W fun e w' => e = .returned (.bool true) ∧ Below W.heap.size W w' := by
  by_cases hbig : n1 ≤ 60
  · have t1 : decide ((n1 : Int) > 60) = false := by simp; omega
    have HG0 := hid hg0
    have HG1 := hid hg1
    have HN1 := hid hn1
    clear hc0 hc1 hl0 hl1 hg0 hg1 hn1
    go_enter Try.func9, Try.ntmps9
    go_wp2_with fail
    refine (known_any _).mono ?_
    rintro e w ⟨rfl, hb1⟩
    have B := hid hb1
    have R0 := hid (h0.below hb1 (Nat.le_refl _))
    have R1 := hid (h1.below hb1 (Nat.le_refl _))
    clear hb1 h0 h1
    go_wp2_with fail
    refine (some_any A0 n0 c0 g0 w R0.out HG0.out (by omega)).mono ?_
    rintro e w1 ⟨A2, m, c2, rfl, hm, ⟨f, hf, ho⟩, hb⟩
    have HO := hid ho
    have HF := hid hf
    have B1 := hid hb
    clear ho hf hb R0 HG0
    have hz := B1.out.size
    go_wp2_with (at_builtin; refine wp_app_b rfl (.tmp 24) (.tmp 25) rfl w.heap.size _ m f rfl (Ow.alloc HO.out _) (some ⟨w1.heap.size, 0, none⟩) 1 1 (fun j => ([0] : List Int).getD j 0) rfl (row_at0 .u8 [0] rfl rfl rfl) (by omega) (by simp; omega) ?_; intro A3 c3 w2 q1 q2 q3 q4 q5 q6; have H2 := hid q1; have hc3 := hid q2; have BW := hid ((B1.out.alloc B1.out.size _).trans q4); clear q1 q2 q3 q4 q5 q6 HO)
    obtain ⟨G, hG⟩ : ∃ G : Nat → Int, G = fun j => if j < m then f j else ([0] : List Int).getD (j - m) 0 := ⟨_, rfl⟩
    have HGB : Hid (IsB G) := hid (by rw [hG]; intro j; dsimp only; split; exact HF.out j; exact lit_b [0] (by decide) _)
    have S2 : Hid (By w2 A3 (m + 1) G) := hid (by rw [hG]; exact H2.out.sl1)
    have BC := hid (Below.refl w2.heap.size w2)
    clear H2 hG HF B1 hz
    have hn40 : m + 1 ≤ 40 := by omega
    generalize hn : m + 1 = n at *
    have HNN := hid hn
    clear hn
    have Ql := walk_any A3 n c3 G w2 S2.out HGB.out (by omega)
    unfold Walked at Ql
    obtain ⟨l, hl⟩ : ∃ x, x = wl G n := ⟨_, rfl⟩
    obtain ⟨er, her⟩ : ∃ x, x = we G n := ⟨_, rfl⟩
    obtain ⟨kl, hkl⟩ : ∃ k, k = l.length := ⟨_, rfl⟩
    have bl := wl_len G n
    rw [← hl] at Ql bl
    rw [← her] at Ql
    rw [← hkl] at Ql bl
    have Ll := hid hl
    have El := hid her
    have Kl := hid hkl
    have Ql' := hid Ql
    clear Ql hl her hkl
    refine Ql'.out.mono ?_
    rintro e w3 ⟨A4, c4, rfl, ho, hb⟩
    have Yl := hid (OwO.sl ho Kl.out)
    have Tl := hid ho
    have BW := hid (BW.out.trans (hb.mono BW.out.size))
    have BC := hid (BC.out.trans (hb.mono BC.out.size))
    clear ho hb Ql'
    have C3 := hid (Below.refl w3.heap.size w3)
    go_wp2_with (first | (at_builtin; refine wp_app_b0 rfl (.tmp 33) (.tmp 34) rfl w3.heap.size _ rfl (fun _ => Ow.new' rfl) _ (n) _ (G) rfl (Sl.alloc (S2.out.below BC.out (Nat.le_refl _)) _) (by omega) (by simp) ?_; intro Ax cx wx q1 q2 q3 q4 q5 q6; have HX := hid q1; have BX := hid (((Below.refl w3.heap.size w3).alloc (Nat.le_refl _) _).trans q4); clear q1 q2 q3 q4 q5 q6) | (at_builtin; refine wp_app_b rfl (.tmp 35) (.tmp 36) rfl w3.heap.size _ (n) (G) rfl HX.out _ (n1) _ (g1) rfl (Sl.below (R1.out.below BW.out (Nat.le_refl _)) BX.out (Nat.le_refl _)) (by omega) BX.out.size ?_; intro A5 c5 w4 q1 q2 q3 q4 q5 q6; have HA5 := hid q1; have hc5 := hid q2; have BY := hid (BX.out.trans q4); have BW := hid (BW.out.trans (BY.out.mono BW.out.size)); have BC := hid (BC.out.trans (BY.out.mono BC.out.size)); have C3 := hid (C3.out.trans (BY.out.mono C3.out.size)); clear q1 q2 q3 q4 q5 q6 HX BX))

    obtain ⟨G2, hG2⟩ : ∃ G2 : Nat → Int, G2 = fun j => if j < n then G j else g1 (j - n) := ⟨_, rfl⟩
    have HG2 : Hid (IsB G2) := hid (by rw [hG2]; intro j; dsimp only; split; exact HGB.out j; exact HG1.out _)
    have S5 : Hid (By w4 A5 (n + n1) G2) := hid (by rw [hG2]; exact HA5.out.sl1)
    have EG2 := hid hG2
    clear HA5 hG2
    have Ql2 := walk_any A5 (n + n1) c5 G2 w4 S5.out HG2.out (by omega)
    unfold Walked at Ql2
    obtain ⟨l2, hl2⟩ : ∃ x, x = wl G2 (n + n1) := ⟨_, rfl⟩
    obtain ⟨er2, her2⟩ : ∃ x, x = we G2 (n + n1) := ⟨_, rfl⟩
    obtain ⟨kl2, hkl2⟩ : ∃ k, k = l2.length := ⟨_, rfl⟩
    have bl2 := wl_len G2 (n + n1)
    rw [← hl2] at Ql2 bl2
    rw [← her2] at Ql2
    rw [← hkl2] at Ql2 bl2
    have Ll2 := hid hl2
    have El2 := hid her2
    have Kl2 := hid hkl2
    have Ql2' := hid Ql2
    clear Ql2 hl2 her2 hkl2
    refine Ql2'.out.mono ?_
    rintro e w5 ⟨A6, c6, rfl, ho, hb⟩
    have Yl2 := hid (OwO.sl ho Kl2.out)
    have Tl2 := hid ho
    have BW := hid (BW.out.trans (hb.mono BW.out.size))
    have BC := hid (BC.out.trans (hb.mono BC.out.size))
    have C3 := hid (C3.out.trans (hb.mono C3.out.size))
    clear ho hb Ql2'
    clear S5 BY
    have C5 := hid (Below.refl w5.heap.size w5)
    go_wp2_with fail
    have Qs := stamp_any A3 n c3 G w5 (S2.out.below BC.out (Nat.le_refl _)) HGB.out (by omega) hc3.out
    obtain ⟨⟨s1, s2, s3, s4⟩, hs⟩ : ∃ x, x = stamp G n := ⟨_, rfl⟩
    rw [← hs] at Qs
    unfold StV at Qs
    simp only at Qs
    have Es := hid hs
    have Qs' := hid Qs
    clear Qs hs
    refine Qs'.out.mono ?_
    rintro e w6 ⟨rfl, hb⟩
    have BW := hid (BW.out.trans (hb.mono BW.out.size))
    have BC := hid (BC.out.trans (hb.mono BC.out.size))
    have C3 := hid (C3.out.trans (hb.mono C3.out.size))
    have C5 := hid (C5.out.trans (hb.mono C5.out.size))
    clear hb Qs'
    go_wp2_with (first | (at_builtin; refine wp_app_b0 rfl (.tmp 49) (.tmp 50) rfl w6.heap.size _ rfl (fun _ => Ow.new' rfl) _ (n) _ (G) rfl (Sl.alloc (S2.out.below BC.out (Nat.le_refl _)) _) (by omega) (by simp) ?_; intro Ax cx wx q1 q2 q3 q4 q5 q6; have HX := hid q1; have BX := hid (((Below.refl w6.heap.size w6).alloc (Nat.le_refl _) _).trans q4); clear q1 q2 q3 q4 q5 q6) | (at_builtin; refine wp_app_b rfl (.tmp 51) (.tmp 52) rfl w6.heap.size _ (n) (G) rfl HX.out _ (n1) _ (g1) rfl (Sl.below (R1.out.below BW.out (Nat.le_refl _)) BX.out (Nat.le_refl _)) (by omega) BX.out.size ?_; intro A7 c7 w7 q1 q2 q3 q4 q5 q6; have HA7 := hid q1; have hc7 := hid q2; have BY := hid (BX.out.trans q4); have BW := hid (BW.out.trans (BY.out.mono BW.out.size)); have BC := hid (BC.out.trans (BY.out.mono BC.out.size)); have C3 := hid (C3.out.trans (BY.out.mono C3.out.size)); have C5 := hid (C5.out.trans (BY.out.mono C5.out.size)); clear q1 q2 q3 q4 q5 q6 HX BX))
    have S7 : Hid (By w7 A7 (n + n1) G2) := hid (by rw [EG2.out]; exact HA7.out.sl1)
    have Qt := stamp_any A7 (n + n1) c7 G2 w7 S7.out HG2.out (by omega) (by have := hc7.out; omega)
    obtain ⟨⟨t1, t2, t3, t4⟩, ht⟩ : ∃ x, x = stamp G2 (n + n1) := ⟨_, rfl⟩
    rw [← ht] at Qt
    unfold StV at Qt
    simp only at Qt
    have Et := hid ht
    have Qt' := hid Qt
    clear Qt ht
    refine Qt'.out.mono ?_
    rintro e w8 ⟨rfl, hb⟩
    have BW := hid (BW.out.trans (hb.mono BW.out.size))
    have BC := hid (BC.out.trans (hb.mono BC.out.size))
    have C3 := hid (C3.out.trans (hb.mono C3.out.size))
    have C5 := hid (C5.out.trans (hb.mono C5.out.size))
    clear hb Qt'
    have BF := hid (B.out.trans (BW.out.mono B.out.size))
    have YA := hid (SlO.below Yl.out C3.out (Nat.le_refl _))
    have YB := hid (SlO.below Yl2.out C5.out (Nat.le_refl _))
    clear Yl Yl2 C3 C5 BC BW HA7 S7 S2 hc3 hc7 HGB HG2 HG1 R1 B Tl Tl2 hc5
    cases hw : Go.Proofs.Ytdbfpoplhmonhaa.walk G n 0 with
    | none =>
      have e5 : er = 5 := by rw [El.out]; unfold we; rw [hw]; rfl
      clear hw
      subst e5
      go_wp2_with fail
      go_ret
      exact ⟨rfl, BF.out⟩
    | some l0 =>
      have e0 : er = 0 := by rw [El.out]; unfold we; rw [hw]; rfl
      have el : l = l0 := by rw [Ll.out]; unfold wl; rw [hw]; rfl
      subst e0
      subst el
      rcases kl with _ | q
      · clear hw
        go_wp2_with fail
        go_ret
        exact ⟨rfl, BF.out⟩
      · have hq : q < l.length := by have := Kl.out; omega
        have YA' := YA.out
        obtain ⟨b, off, rfl, hb, hcc⟩ := YA' (by omega)
        obtain ⟨x0, x1, x2⟩ := SlO.cells YA.out hq
        clear hcc x1 x2 YA'
        have HB := hid (walk_behind (g' := G2) (n' := n + n1) (fun j hj => by rw [EG2.out]; dsimp only; rw [if_pos hj]) (by omega) hw)
        have hlast := hid (fun (hx : l[q].1 = 0) => last_is (l := l) (by omega) (by
          have e : l.length - 1 = q := by have := Kl.out; omega
          simp only [e]
          exact hx))
        obtain ⟨x, hx⟩ : ∃ x, x = l[q].1 := ⟨_, rfl⟩
        rw [← hx] at x0 hlast
        clear hx hq
        have i0 : (0 : Int) ≤ q := by omega
        have i1 : (q : Int) < (q : Int) + 1 := by omega
        by_cases h0 : x = 0
        · subst h0
          obtain ⟨v1, v2⟩ := HB.out (hlast.out rfl)
          have f1 : l2 = l := by rw [Ll2.out]; unfold wl; rw [v1]; rfl
          have f2 : er2 = 0 := by rw [El2.out]; unfold we; rw [v1]; rfl
          have f3 : (t1, t2, t3, t4) = (s1, s2, s3, s4) := by rw [Et.out, Es.out, v2]
          injection f3 with g1' f3
          injection f3 with g2' f3
          injection f3 with g3' g4'
          have f4 : kl2 = q + 1 := by rw [Kl2.out, f1, ← Kl.out]
          subst f1
          subst f2
          subst f4
          subst g1'
          subst g2'
          subst g3'
          subst g4'
          have hqb : q + 1 ≤ 40 := by omega
          clear hw v1 v2 HB hlast
          go_wp2_with fail
          refine (as_any YA.out Kl.out (by omega)).mono ?_
          rintro e w9 ⟨A9, c9, rfl, ho9, hb9⟩
          have Y9 := hid (OwO.sl ho9 Kl.out)
          have YB9 := hid (SlO.below YB.out hb9 (Nat.le_refl _))
          have B9 := hid (BF.out.trans (hb9.mono BF.out.size))
          clear ho9 hb9 YA YB BF
          go_wp2_with fail
          refine (as_any YB9.out Kl2.out (by omega)).mono ?_
          rintro e w10 ⟨A10, c10, rfl, ho10, hb10⟩
          have Y10 := hid (OwO.sl ho10 Kl2.out)
          have Y9' := hid (SlO.below Y9.out hb10 (Nat.le_refl _))
          have B10 := hid (B9.out.trans (hb10.mono B9.out.size))
          clear ho10 hb10 YB9 Y9 B9
          go_wp2_with fail
          refine (re_bool (b := true) (same_any Y9'.out Y10.out Kl.out Kl2.out (by omega) (by omega)) (by simp)).mono ?_
          rintro e w11 ⟨rfl, q11, rfl⟩
          go_wp2_with fail
          go_ret
          exact ⟨rfl, below_drewN B10.out _⟩
        · have t0 : (x != 0) = true := by simpa using h0
          clear h0 hw HB hlast
          go_wp2_with fail
          go_ret
          exact ⟨rfl, BF.out⟩
  · have t1 : decide ((n1 : Int) > 60) = true := by simp; omega
    go_enter Try.func9, Try.ntmps9
    go_wp2_with fail
    refine (known_any _).mono ?_
    rintro e w ⟨rfl, hb1⟩
    go_wp2
    go_ret
    exact ⟨rfl, hb1⟩

set_option maxRecDepth 100000 in
theorem lifted (os : Os) (started : os.Started) (H : Type) (enc : TypeId × Value → H) :
    ReturnsInHanded {} Try.checked os 9 .any (Rows.optsBehindSpec.pre6 enc Try.prog Try.f9 [] false) (Rows.optsBehindSpec.post enc Try.prog Try.f9 false true false false) :=
  law_step (s := Rows.optsBehindSpec) started (by kernel_rfl) Try.func9
    (ChangeSpec.witness6 (s := Rows.optsBehindSpec) (enc := enc) (C := Try.checked) false ⟨#[], #[.slice none 0 0, .slice none 0 0], []⟩ 8 (by kernel_rfl) (by kernel_rfl) (by kernel_rfl) (by kernel_rfl))
    rfl (by rw [Try.params9]; decide +kernel) rfl Try.underlying4
    (fun ds h => by
      rw [Try.params9] at h
      match ds, h with
      | [_, _], _ => rfl)
    (fun W base args ds ps hval hA hsz => by
      rw [Try.params9] at hA hval hsz
      obtain ⟨v0, vs0, d0, ds0, p0, q0, hargs, rfl, rfl, h0, r0⟩ := trodAll_cons hA
      obtain ⟨v1, vs1, d1, ds1, p1, q1, rfl, rfl, rfl, h1, r1⟩ := trodAll_cons r0
      obtain ⟨rfl, rfl, rfl⟩ := trodAll_nil r1
      obtain rfl : args = #[v0, v1] := by cases args; simp_all
      obtain ⟨A0, n0, c0, g0, rfl, hn0, hc0, hs0, hw0, hl0, hd0⟩ := open_row Try.underlying22 Try.underlying3 (by kernel_rfl) (hval 0 22 v0 rfl rfl) h0
      have re0 : c0 * 8 ≤ 140737488351232 := by
        rcases hd0 with ⟨_, h0⟩ | ⟨xs, ys, h1, h2⟩
        · omega
        · have := sized_slice hsz (j := 0) (t := 22) (e := 3) rfl (by rw [h1]; rfl) Try.underlying22
          rw [h2, show Try.prog.bytesOf 3 = 8 from by kernel_rfl] at this
          simpa [reachBytes] using this
      obtain ⟨A1, n1, c1, g1, rfl, hn1, hc1, hs1, hw1, hl1, hd1⟩ := open_row Try.underlying23 Try.underlying5 (by kernel_rfl) (hval 1 23 v1 rfl rfl) h1
      have re1 : c1 * 1 ≤ 140737488351232 := by
        rcases hd1 with ⟨_, h0⟩ | ⟨xs, ys, h1, h2⟩
        · omega
        · have := sized_slice hsz (j := 1) (t := 23) (e := 5) rfl (by rw [h1]; rfl) Try.underlying23
          rw [h2, show Try.prog.bytesOf 5 = 1 from by kernel_rfl] at this
          simpa [reachBytes] using this
      exact walk W A0 n0 c0 g0 hn0 hc0 hs0 (fun j => bounds_i64 (hw0 j)) hl0 re0 A1 n1 c1 g1 hn1 hc1 hs1 (fun j => bounds_u8 (hw1 j)) hl1 re1)

theorem proved : Rows.OptsBehindSaid :=
  OpenClaim.holds_of_wide 9 Try.f9 rfl rfl rfl rfl rfl rfl rfl ⟨rfl, rfl, rfl, rfl, rfl⟩ rfl rfl rfl rfl rfl (by kernel_rfl) Try.func9 (by kernel_rfl)
    (of_decide_eq_true (by kernel_rfl)) (by unfold Func.isWrapper; first | (rw [if_pos (by decide +kernel)]; kernel_rfl) | (rw [if_neg (by decide +kernel)]; exact ⟨rfl, rfl⟩))
    (fun os started H enc _ => lifted os started H enc)
end Go.Proofs.Ytdbfpoplhmonhaa.optsBehind
