/- roundhouselaw4.OptsTiles answers true for all numbers, all bytes; no condition. -/
import Derived.Test.YtdbfpoplhmonhaaOptTile
import Derived.Deep.RegionWith
import Derived.Deep.Cut
import Derived.BigQuiet
namespace Go.Proofs.Ytdbfpoplhmonhaa.optsTiles
set_option linter.unusedVariables false
set_option linter.unusedSimpArgs false
open Go.RowKit Go.ChangeShapes Go.WideShapes Go.ChangeAt

/-- At the head of a round: i options are passed, of which the last one may have ended the row. -/
def TileAt (G : Nat → Int) (n : Nat) (l : List (Int × Int × Int)) (w : World) (at_ i : Value) (wr : World) : Prop :=
  ∃ k a q : Nat, k ≤ l.length ∧ i = .int .i64 (k : Int) ∧ at_ = .int .i64 (a : Int) ∧ a ≤ n ∧ wr = w.drewN q ∧ (Tiled G n a (l.drop k) ∨ (k = l.length ∧ ∃ o, l.getLast? = some o ∧ o.1 = 0))

set_option maxRecDepth 100000 in
set_option maxHeartbeats 4000000 in
theorem walk (W : World) (A0 : Option Addr) (n0 c0 : Nat) (g0 : Nat → Int) (hn0 : n0 ≤ c0) (hc0 : c0 ≤ maxLen) (h0 : Is W A0 n0 g0) (hg0 : IsI g0) (hl0 : ∀ ad, A0 = some ad → 0 < n0 → ad.block < W.heap.size) (re0 : c0 * 8 ≤ 140737488351232) (A1 : Option Addr) (n1 c1 : Nat) (g1 : Nat → Int) (hn1 : n1 ≤ c1) (hc1 : c1 ≤ maxLen) (h1 : By W A1 n1 g1) (hg1 : IsB g1) (hl1 : ∀ ad, A1 = some ad → 0 < n1 → ad.block < W.heap.size) (re1 : c1 * 1 ≤ 140737488351232) :
    Calls Try.prog 4 #[.slice A0 n0 c0, .slice A1 n1 c1] W fun e w' => e = .returned (.bool true) ∧ Below W.heap.size W w' := by
  by_cases hbig : n1 ≤ 60
  · have t1 : decide ((n1 : Int) > 60) = false := by simp; omega
    have HG0 := hid hg0
    have HG1 := hid hg1
    have HN1 := hid hn1
    clear hc0 hc1 hl0 hl1 hg0 hg1 hn1
    go_enter Try.func4, Try.ntmps4
    go_wp2_with fail
    refine (known_any _).mono ?_
    rintro e w ⟨rfl, hb1⟩
    have B := hid hb1
    have R0 := hid (h0.below hb1 (Nat.le_refl _))
    have R1 := hid (h1.below hb1 (Nat.le_refl _))
    clear hb1 h0 h1
    go_wp2_with fail
    refine (some_any A0 n0 c0 g0 w R0.out HG0.out (by omega)).mono ?_
    rintro e w1 ⟨A2, m, c2, rfl, hm, ⟨f, hf, ho⟩, hb⟩
    have HO := hid ho
    have HF := hid hf
    have B1 := hid hb
    clear ho hf hb R0 HG0
    have hz := B1.out.size
    go_wp2_with (at_builtin; refine wp_app_b rfl (.tmp 16) (.tmp 17) rfl w.heap.size _ m f rfl HO.out _ n1 _ g1 rfl (R1.out.below B1.out (Nat.le_refl _)) (by omega) hz ?_; intro A3 c3 w2 q1 q2 q3 q4 q5 q6; have H2 := hid q1; have hc3 := hid q2; have BW := hid (B1.out.trans q4); clear q1 q2 q3 q4 q5 q6 HO)
    obtain ⟨G, hG⟩ : ∃ G : Nat → Int, G = fun j => if j < m then f j else g1 (j - m) := ⟨_, rfl⟩
    have HGB : Hid (IsB G) := hid (by rw [hG]; intro j; dsimp only; split; exact HF.out j; exact HG1.out _)
    have S2 : Hid (By w2 A3 (m + n1) G) := hid (by rw [hG]; exact H2.out.sl1)
    have BC := hid (Below.refl w2.heap.size w2)
    clear H2 hG HF B1 hz R1 HG1
    have hn80 : m + n1 ≤ 100 := by omega
    generalize hn : m + n1 = n at *
    clear hn HN1
    have Ql := walk_any A3 n c3 G w2 S2.out HGB.out (by omega)
    unfold Walked at Ql
    obtain ⟨l, hl⟩ : ∃ x, x = wl G n := ⟨_, rfl⟩
    obtain ⟨er, her⟩ : ∃ x, x = we G n := ⟨_, rfl⟩
    obtain ⟨kl, hkl⟩ : ∃ k, k = l.length := ⟨_, rfl⟩
    have bl := wl_len G n
    rw [← hl] at Ql bl
    rw [← her] at Ql
    rw [← hkl] at Ql bl
    have Ll := hid hl
    have El := hid her
    have Kl := hid hkl
    have Ql' := hid Ql
    clear Ql hl her hkl
    refine Ql'.out.mono ?_
    rintro e w3 ⟨A4, c4, rfl, ho, hb⟩
    have Yl := hid (OwO.sl ho Kl.out)
    have Tl := hid ho
    have BW := hid (BW.out.trans (hb.mono BW.out.size))
    have BC := hid (BC.out.trans (hb.mono BC.out.size))
    clear ho hb Ql'

    have BF := hid (B.out.trans (BW.out.mono B.out.size))
    have S3 := hid (S2.out.below BC.out (Nat.le_refl _))
    clear BW B Tl S2 BC
    cases hw : Go.Proofs.Ytdbfpoplhmonhaa.walk G n 0 with
    | none =>
      have e5 : er = 5 := by rw [El.out]; unfold we; rw [hw]; rfl
      have e6 : l = [] := by rw [Ll.out]; unfold wl; rw [hw]; rfl
      have e7 : kl = 0 := by rw [Kl.out, e6]; rfl
      clear hw
      subst e5
      subst e7
      go_wp2_with fail
      go_ret
      exact ⟨rfl, BF.out⟩
    | some l0 =>
      have e0 : er = 0 := by rw [El.out]; unfold we; rw [hw]; rfl
      have el : l = l0 := by rw [Ll.out]; unfold wl; rw [hw]; rfl
      subst e0
      subst el
      have hT := hid (tiled_of G n n 0 l (by omega) hw)
      clear hw El Ll
      go_wp2_with fail
      go_loopw [8, 9] (fun v i wr => TileAt G n l w3 v i wr) (fun _ i _ => kl - (intOf i).toNat)
      case atStart => exact ⟨0, 0, 0, by omega, rfl, rfl, by omega, rfl, .inl hT.out⟩
      case round =>
        obtain ⟨k, a, q, hk, rfl, rfl, han, rfl, hor⟩ := hrel
        rw [← Kl.out] at hk
        have HOR := hid hor
        clear hor hT
        by_cases hlt : k < kl
        · have hkl : k < l.length := by rw [← Kl.out]; exact hlt
          have hd : l.drop k = l[k] :: l.drop (k + 1) := List.drop_eq_getElem_cons hkl
          have ht : Tiled G n a (l[k] :: l.drop (k + 1)) := by
            rcases HOR.out with h | ⟨h, _⟩
            · rw [← hd]; exact h
            · exfalso; omega
          obtain ⟨h1, ha, h2⟩ := ht
          have hi := one_is h1 ha
          have YA := Yl.out
          obtain ⟨b, off, rfl, hb, hcc⟩ := YA (by omega)
          obtain ⟨x0, x1, x2⟩ := SlO.cells Yl.out hkl
          have hgl : k + 1 = l.length → l.getLast? = some l[k] := fun e => by
            rw [List.getLast?_eq_getElem?, List.getElem?_eq_getElem (by omega)]
            congr 1
            have e2 : l.length - 1 = k := by omega
            simp only [e2]
          have hnext : Hid (l[k].1 = 0 → k + 1 = l.length) := hid (fun e => by
            rcases h2 with ⟨_, h3⟩ | ⟨h3, _⟩
            · have := congrArg List.length h3
              rw [List.length_drop] at this
              simp at this
              omega
            · exact absurd e h3)
          have hrest : Hid (Tiled G n (a + l[k].2.2.toNat) (l.drop (k + 1)) ∨ (k + 1 = l.length ∧ ∃ o, l.getLast? = some o ∧ o.1 = 0)) := hid (by
            rcases h2 with ⟨h3, h4⟩ | ⟨_, h4⟩
            · have := hnext.out h3
              exact .inr ⟨this, _, hgl this, h3⟩
            · exact .inl h4)
          obtain ⟨b3, off3, rfl, hb3, hcc3⟩ := S3.out (by omega)
          have ca : w3.cell? ⟨b3, off3 + a, none⟩ = some (.int .u8 (G a)) := hcc3 a ha
          have gb := HGB.out a
          obtain ⟨z1, z2, z3, z4, z5, z6⟩ := hi
          rw [z1] at x0 hnext
          rw [z2] at x1
          generalize l[k].2.2 = ln at *
          generalize G a = x at *
          obtain ⟨gb1, gb2⟩ := gb
          clear hcc hcc3 YA hd h1 h2 hgl z1 z2 hk
          have i0 : (0 : Int) ≤ k := by omega
          have i1 : (k : Int) < kl := by omega
          have j0 : (0 : Int) ≤ a := by omega
          have j1 : (a : Int) < n := by omega
          have d1 : ((a : Int) != a) = false := by simp
          have d2 : decide (ln < 1) = false := by simp; omega
          have d3 : decide ((n : Int) ≤ a) = false := by simp; omega
          have d3' : decide (n ≤ a) = false := by simp; omega
          have d4 : (x != x) = false := by simp
          have i4 : IntKind.i64.wrap ((k : Int) + 1) = (k : Int) + 1 := IntWalk.i64_in _ (by omega)
          have e4 : (a : Int) + ln = ((a + ln.toNat : Nat) : Int) := by omega
          have E4 := hid e4
          clear e4
          by_cases h0 : x = 0
          · have hke := hnext.out h0
            have d5 : (x == 0) = true := by simpa using h0
            have d6 : decide ((k : Int) + 1 < kl) = false := by have := Kl.out; simp; omega
            clear h0 hnext
            go_wp2_with fail
            go_quiet (fail)
            go_wp2_with fail
            rw [E4.out]
            go_roundw
            case rel => exact ⟨k + 1, a + ln.toNat, _, by rw [← Kl.out]; omega, by go_num, rfl, by omega, rfl, hrest.out⟩
            case measure => simp [intOf]; omega
          · have d5 : (x == 0) = false := by simpa using h0
            clear h0 hnext
            go_wp2_with fail
            go_quiet (fail)
            go_wp2_with fail
            rw [E4.out]
            go_roundw
            case rel => exact ⟨k + 1, a + ln.toNat, _, by rw [← Kl.out]; omega, by go_num, rfl, by omega, rfl, hrest.out⟩
            case measure => simp [intOf]; omega
        · have hke : k = l.length := by rw [← Kl.out]; omega
          have i1 : ¬ (k : Int) < kl := by omega
          rcases HOR.out with h | ⟨_, o, ho, ho0⟩
          · rw [hke, List.drop_length] at h
            have hna : n ≤ a := h
            obtain rfl : a = n := by omega
            clear h hke hna
            go_wp2_with fail
            go_ret
            exact ⟨rfl, below_drewN BF.out _⟩
          · rcases kl with _ | p
            · exfalso
              have : l = [] := List.eq_nil_of_length_eq_zero Kl.out.symm
              subst this
              cases ho
            · have hpl : p < l.length := by have := Kl.out; omega
              have hlp : l[p].1 = 0 := by
                rw [List.getLast?_eq_getElem?, List.getElem?_eq_getElem (by omega)] at ho
                injection ho with ho
                have e2 : l.length - 1 = p := by have := Kl.out; omega
                simp only [e2] at ho
                rw [ho]; exact ho0
              have YA := Yl.out
              obtain ⟨b, off, rfl, hb, hcc⟩ := YA (by omega)
              obtain ⟨x0, x1, x2⟩ := SlO.cells Yl.out hpl
              rw [hlp] at x0
              clear hcc YA x1 x2 hlp ho ho0 hke
              have i2 : (0 : Int) ≤ p := by omega
              have i3 : (p : Int) < (p : Int) + 1 := by omega
              have i5 : (a : Int) ≤ n := by omega
              have d9 : decide ((a : Int) ≤ n) = true := by simp; omega
              have d9' : decide (a ≤ n) = true := by simp; omega
              clear hk
              cases han2 : ((a : Int) == n)
              all_goals
                go_wp2_with fail
                go_ret
                exact ⟨rfl, below_drewN BF.out _⟩
  · have t1 : decide ((n1 : Int) > 60) = true := by simp; omega
    go_enter Try.func4, Try.ntmps4
    go_wp2_with fail
    refine (known_any _).mono ?_
    rintro e w ⟨rfl, hb1⟩
    go_wp2
    go_ret
    exact ⟨rfl, hb1⟩

set_option maxRecDepth 100000 in
theorem lifted (os : Os) (started : os.Started) (H : Type) (enc : TypeId × Value → H) :
    ReturnsInHanded {} Try.checked os 4 .any (Rows.optsTilesSpec.pre6 enc Try.prog Try.f4 [] false) (Rows.optsTilesSpec.post enc Try.prog Try.f4 false true false false) :=
  law_step (s := Rows.optsTilesSpec) started (by kernel_rfl) Try.func4
    (ChangeSpec.witness6 (s := Rows.optsTilesSpec) (enc := enc) (C := Try.checked) false ⟨#[], #[.slice none 0 0, .slice none 0 0], []⟩ 8 (by kernel_rfl) (by kernel_rfl) (by kernel_rfl) (by kernel_rfl))
    rfl (by rw [Try.params4]; decide +kernel) rfl Try.underlying4
    (fun ds h => by
      rw [Try.params4] at h
      match ds, h with
      | [_, _], _ => rfl)
    (fun W base args ds ps hval hA hsz => by
      rw [Try.params4] at hA hval hsz
      obtain ⟨v0, vs0, d0, ds0, p0, q0, hargs, rfl, rfl, h0, r0⟩ := trodAll_cons hA
      obtain ⟨v1, vs1, d1, ds1, p1, q1, rfl, rfl, rfl, h1, r1⟩ := trodAll_cons r0
      obtain ⟨rfl, rfl, rfl⟩ := trodAll_nil r1
      obtain rfl : args = #[v0, v1] := by cases args; simp_all
      obtain ⟨A0, n0, c0, g0, rfl, hn0, hc0, hs0, hw0, hl0, hd0⟩ := open_row Try.underlying22 Try.underlying3 (by kernel_rfl) (hval 0 22 v0 rfl rfl) h0
      have re0 : c0 * 8 ≤ 140737488351232 := by
        rcases hd0 with ⟨_, h0⟩ | ⟨xs, ys, h1, h2⟩
        · omega
        · have := sized_slice hsz (j := 0) (t := 22) (e := 3) rfl (by rw [h1]; rfl) Try.underlying22
          rw [h2, show Try.prog.bytesOf 3 = 8 from by kernel_rfl] at this
          simpa [reachBytes] using this
      obtain ⟨A1, n1, c1, g1, rfl, hn1, hc1, hs1, hw1, hl1, hd1⟩ := open_row Try.underlying23 Try.underlying5 (by kernel_rfl) (hval 1 23 v1 rfl rfl) h1
      have re1 : c1 * 1 ≤ 140737488351232 := by
        rcases hd1 with ⟨_, h0⟩ | ⟨xs, ys, h1, h2⟩
        · omega
        · have := sized_slice hsz (j := 1) (t := 23) (e := 5) rfl (by rw [h1]; rfl) Try.underlying23
          rw [h2, show Try.prog.bytesOf 5 = 1 from by kernel_rfl] at this
          simpa [reachBytes] using this
      exact walk W A0 n0 c0 g0 hn0 hc0 hs0 (fun j => bounds_i64 (hw0 j)) hl0 re0 A1 n1 c1 g1 hn1 hc1 hs1 (fun j => bounds_u8 (hw1 j)) hl1 re1)

theorem proved : Rows.OptsTilesSaid :=
  OpenClaim.holds_of_wide 4 Try.f4 rfl rfl rfl rfl rfl rfl rfl ⟨rfl, rfl, rfl, rfl, rfl⟩ rfl rfl rfl rfl rfl (by kernel_rfl) Try.func4 (by kernel_rfl)
    (of_decide_eq_true (by kernel_rfl)) (by unfold Func.isWrapper; first | (rw [if_pos (by decide +kernel)]; kernel_rfl) | (rw [if_neg (by decide +kernel)]; exact ⟨rfl, rfl⟩))
    (fun os started H enc _ => lifted os started H enc)
end Go.Proofs.Ytdbfpoplhmonhaa.optsTiles
