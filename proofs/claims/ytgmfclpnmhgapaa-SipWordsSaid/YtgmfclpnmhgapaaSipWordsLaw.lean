/- roundhouselaw2.SipWords answers true for every argument; no condition. -/
import Derived.Test.YtgmfclpnmhgapaaSipLaw
namespace Go.Proofs.Ytgmfclpnmhgapaa.sipWords
set_option linter.unusedVariables false
open Go.RowKit Go.ChangeShapes Go.WideShapes Go.ChangeAt

set_option maxRecDepth 100000 in
set_option maxHeartbeats 4000000 in
theorem walk (W : World) (a : Int) (ra : 0 ≤ a ∧ a ≤ 18446744073709551615) (b : Int) (rb : 0 ≤ b ∧ b ≤ 18446744073709551615) (A : Option Addr) (n c : Nat) (g : Nat → Int) (hn : n ≤ c) (hc : c ≤ maxLen) (h : Is W A n g) (hg : IsI g) (hl : ∀ ad, A = some ad → 0 < n → ad.block < W.heap.size) (re : c * 8 ≤ 140737488351232) :
    Calls Try.prog 5 #[.int .u64 a, .int .u64 b, .slice A n c] W fun e w' => e = .returned (.bool true) ∧ Below W.heap.size W w' := by
  clear ra rb
  by_cases hbig : n ≤ 60
  · have t1 : decide ((n : Int) > 60) = false := by simp; omega
    go_enter Try.func5, Try.ntmps5
    go_wp2_with fail
    refine (known_any _).mono ?_
    rintro e w ⟨rfl, hb1⟩
    have hs0 := h.below hb1 (Nat.le_refl _)
    go_wp2_with fail
    have K4 := KeyIn.made (w := w) (a := a) (b := b) (T := 26)
    have hs : Is _ A n g := hs0.alloc (.cells #[.int .u64 a, .int .u64 b] 26)
    have B4 : Below W.heap.size W (w.alloc (.cells #[.int .u64 a, .int .u64 b] 26)) := hb1.alloc hb1.size _
    generalize w.alloc (.cells #[.int .u64 a, .int .u64 b] 26) = w1 at *
    generalize w.heap.size = K at *
    clear h hs0 hb1
    go_loopw [8, 9, 10, 11] (fun r i _ _ wr => ∃ (k : Nat) (A' : Option Addr) (c' : Nat), k ≤ n ∧ i = .int .i64 k ∧ r = .slice A' (8 * k) c' ∧ 8 * k ≤ c' ∧ Below w1.heap.size w1 wr ∧ Ow wr w1.heap.size 5 1 (.slice A' (8 * k) c') (8 * k) (fun q => .int .u8 (byteOf g q)))
      (fun _ i _ _ _ => n - (intOf i).toNat)
    case atStart => exact ⟨0, none, 0, by omega, rfl, rfl, by omega, Below.refl _ _, Ow.none_⟩
    case round =>
      obtain ⟨k, A', c', hk, rfl, rfl, hc', hb1, hO1⟩ := hrel
      obtain ⟨wo, rfl⟩ : ∃ wo : World, wo = wr := ⟨_, rfl⟩
      by_cases hlt : k < n
      · have i1 : (k : Int) < n := by omega
        obtain ⟨ba, off, rfl, _, hcell⟩ := hs.below hb1 (Nat.le_refl _) (by omega)
        have c0 := hcell k hlt
        have hfk := hg k
        clear hcell
        go_wp2_with fail
        have X0 : IntKind.u64.wrap (g k) / 256 ^ 0 = IntKind.u64.wrap (g k) := by simp
        have XB : 0 ≤ IntKind.u64.wrap (g k) ∧ IntKind.u64.wrap (g k) ≤ 18446744073709551615 := by rw [IntKind.wrap_u64]; omega
        have XQ : ∀ q : Nat, 0 ≤ IntKind.u64.wrap (g k) / 256 ^ q ∧ IntKind.u64.wrap (g k) / 256 ^ q ≤ 18446744073709551615 := fun q =>
          ⟨Int.ediv_nonneg XB.1 (Int.pow_nonneg (by omega)), Int.le_trans (Int.ediv_le_self _ XB.1) XB.2⟩
        go_loopw [8, 10, 11] (fun r x j wr => ∃ (q : Nat) (A2 : Option Addr) (c2 : Nat), q ≤ 8 ∧ j = .int .i64 q ∧ x = .int .u64 (IntKind.u64.wrap (g k) / 256 ^ q) ∧ r = .slice A2 (8 * k + q) c2 ∧ 8 * k + q ≤ c2 ∧ Below w1.heap.size w1 wr ∧ Ow wr w1.heap.size 5 1 (.slice A2 (8 * k + q) c2) (8 * k + q) (fun q => .int .u8 (byteOf g q)))
          (fun _ _ j _ => 8 - (intOf j).toNat)
        case atStart => exact ⟨0, A', c', by omega, rfl, by rw [X0], rfl, hc', hb1, hO1⟩
        case round =>
          obtain ⟨q, A2, c2, hq, rfl, rfl, rfl, hc2, hb2, hO2⟩ := hrel
          by_cases hq8 : q < 8
          · have i2 : (q : Int) < 8 := by omega
            have hx := hid (byteOf_at g k q hq8)
            have hx2 : Hid (IntKind.u64.wrap (g k) / 256 ^ q / 256 = IntKind.u64.wrap (g k) / 256 ^ (q + 1)) := by
              unfold Hid
              rw [Int.pow_succ, Int.ediv_ediv_of_nonneg (Int.pow_nonneg (by omega))]
            have xq := XQ q
            generalize IntKind.u64.wrap (g k) / 256 ^ q = x at *
            go_wp2_with (at_builtin
                         refine wp_app_b rfl (.tmp 35) (.tmp 38) rfl w1.heap.size (.slice A2 (8 * k + q) c2) (8 * k + q) (byteOf g) rfl (hO2.alloc _) (some ⟨wr.heap.size, 0, none⟩) 1 1 (fun j => [x % 256].getD j 0) rfl (row_at .u8 [x % 256] rfl) (by omega) (by have := hb2.size; simp; omega) ?_
                         intro A3 c3 w3 o3 hc3 hm3 hb3 hg3 ho3)
            have hb4 : Below w1.heap.size w1 w3 := (hb2.alloc hb2.size _).trans hb3
            go_roundw
            case rel => exact ⟨q + 1, A3, c3, by omega, by go_num, by rw [← hx2.out], rfl, hc3, hb4, o3.as_ fun j hj => by
              show Value.int .u8 _ = Value.int .u8 _
              congr 1
              split
              · rfl
              · rw [show j = 8 * k + q from by omega, hx.out]; simp⟩
            case measure => simp [intOf]; omega
          · have e : q = 8 := by omega
            subst e
            have i2 : ¬ ((8 : Nat) : Int) < 8 := by omega
            go_wp2_with fail
            go_roundw
            case rel => exact ⟨k + 1, A2, c2, by omega, by go_num, by rw [show 8 * (k + 1) = 8 * k + 8 from by omega], by omega, hb2, by rw [show 8 * (k + 1) = 8 * k + 8 from by omega]; exact hO2⟩
            case measure => simp [intOf]; omega
      · have e : k = n := by omega
        subst e
        have i1 : ¬ (k : Int) < k := by omega
        obtain ⟨k0, k1, k2⟩ := K4.below hb1
        have SB := hO1.sl1
        have SI : Is wo A k g := hs.below hb1 (Nat.le_refl _)
        have B5 := then_ B4 hb1
        clear hO1 hs hb1 B4 K4
        go_wp2_with fail
        go_region_held3 (fun w' => w'.cell? ⟨K, 0, none⟩ = some (.int .u64 a) ∧ w'.cell? ⟨K, 1, none⟩ = some (.int .u64 b) ∧ K < w'.heap.size ∧ Is w' A k g ∧ By w' A' (8 * k) (byteOf g) ∧ Below W.heap.size W w')
          (first
            | (go_split_ands; refine ⟨?_, ?_, ?_, ?_, ?_, ?_⟩; exact (hb5.cell (p := ⟨K, 0, none⟩) (by assumption)).trans (by assumption); exact (hb5.cell (p := ⟨K, 1, none⟩) (by assumption)).trans (by assumption); exact Nat.lt_of_lt_of_le (by assumption) hb5.size; exact Sl.below (by assumption) hb5 (Nat.le_refl _); exact Sl.below (by assumption) hb5 (Nat.le_refl _); exact then_ (by assumption) hb5)
            | (refine ⟨?_, ?_, ?_, ?_, ?_, ?_⟩; assumption; assumption; assumption; exact Sl.drew (by assumption); exact Sl.drew (by assumption); exact Below.drew (by assumption))
            | (go_split_ands; refine ⟨?_, ?_, ?_, ?_, ?_, ?_⟩; exact (World.cell?_alloc_lt _ ⟨K, 0, none⟩ _ (by assumption)).trans (by assumption); exact (World.cell?_alloc_lt _ ⟨K, 1, none⟩ _ (by assumption)).trans (by assumption); (simp; omega); exact Sl.alloc (by assumption) _; exact Sl.alloc (by assumption) _; exact Below.alloc (by assumption) (Below.size (by assumption)) _)
            | go_keep)
          ((first
            | (go_at_call 19
               go_split_ands
               with_reducible refine (words_any a b A k c g _ ?_ hg ?_).mono ?_
               · assumption
               · omega
               rintro e w5 ⟨rfl, hb5⟩)
            | (go_at_call 15
               go_split_ands
               with_reducible refine (re_u64 (of_any a b A' (8 * k) c' (byteOf g) _ ?_ (byteOf_b g) ?_ ?_) (sumB_words a b g k)).mono ?_
               · assumption
               · omega
               · omega
               rintro e w5 ⟨rfl, hb5⟩)
            | (go_at_call 20
               go_split_ands
               with_reducible refine (rwords_any a b A k c g _ ?_ hg ?_).mono ?_
               · assumption
               · omega
               rintro e w5 ⟨rfl, hb5⟩)))
        all_goals
          go_split_ands
          go_wp2_with fail
          go_ret
          exact ⟨rfl, by assumption⟩
  · have t1 : decide ((n : Int) > 60) = true := by simp; omega
    skip
    go_enter Try.func5, Try.ntmps5
    go_wp2_with fail
    refine (known_any _).mono ?_
    rintro e w ⟨rfl, hb1⟩
    go_wp2
    go_ret
    exact ⟨rfl, hb1⟩

set_option maxRecDepth 100000 in
theorem lifted (os : Os) (started : os.Started) (H : Type) (enc : TypeId × Value → H) :
    ReturnsInHanded {} Try.checked os 5 .any (Rows.sipWordsSpec.pre6 enc Try.prog Try.f5 [] false) (Rows.sipWordsSpec.post enc Try.prog Try.f5 false true false false) :=
  law_step (s := Rows.sipWordsSpec) started (by kernel_rfl) Try.func5
    (ChangeSpec.witness6 (s := Rows.sipWordsSpec) (enc := enc) (C := Try.checked) false ⟨#[], #[.int .u64 0, .int .u64 0, .slice none 0 0], []⟩ 8 (by kernel_rfl) (by kernel_rfl) (by kernel_rfl) (by kernel_rfl))
    rfl (by rw [Try.params5]; decide +kernel) rfl Try.underlying4
    (fun ds h => by
      rw [Try.params5] at h
      match ds, h with
      | [_, _, _], _ => rfl)
    (fun W base args ds ps hval hA hsz => by
      rw [Try.params5] at hA hval hsz
      obtain ⟨v0, vs0, d0, ds0, p0, q0, hargs, rfl, rfl, h0, r0⟩ := trodAll_cons hA
      obtain ⟨v1, vs1, d1, ds1, p1, q1, rfl, rfl, rfl, h1, r1⟩ := trodAll_cons r0
      obtain ⟨v2, vs2, d2, ds2, p2, q2, rfl, rfl, rfl, h2, r2⟩ := trodAll_cons r1
      obtain ⟨rfl, rfl, rfl⟩ := trodAll_nil r2
      obtain rfl : args = #[v0, v1, v2] := by cases args; simp_all
      obtain ⟨a0, rfl, rfl, rfl, w0⟩ := open_int Try.underlying22 (hval 0 22 v0 rfl rfl) h0
      obtain ⟨a1, rfl, rfl, rfl, w1⟩ := open_int Try.underlying22 (hval 1 22 v1 rfl rfl) h1
      obtain ⟨A2, n2, c2, g2, rfl, hn2, hc2, hs2, hw2, hl2, hd2⟩ := open_row Try.underlying34 Try.underlying3 (by kernel_rfl) (hval 2 34 v2 rfl rfl) h2
      have re2 : c2 * 8 ≤ 140737488351232 := by
        rcases hd2 with ⟨_, h0⟩ | ⟨xs, ys, h1, h2⟩
        · omega
        · have := sized_slice hsz (j := 2) (t := 34) (e := 3) rfl (by rw [h1]; rfl) Try.underlying34
          rw [h2, show Try.prog.bytesOf 3 = 8 from by kernel_rfl] at this
          simpa [reachBytes] using this
      exact walk W a0 (bounds_u64 w0) a1 (bounds_u64 w1) A2 n2 c2 g2 hn2 hc2 hs2 (fun j => bounds_i64 (hw2 j)) hl2 re2)

theorem proved : Rows.SipWordsSaid :=
  OpenClaim.holds_of_wide 5 Try.f5 rfl rfl rfl rfl rfl rfl rfl ⟨rfl, rfl, rfl, rfl, rfl⟩ rfl rfl rfl rfl rfl (by kernel_rfl) Try.func5 (by kernel_rfl)
    (of_decide_eq_true (by kernel_rfl)) (by unfold Func.isWrapper; first | (rw [if_pos (by decide +kernel)]; kernel_rfl) | (rw [if_neg (by decide +kernel)]; exact ⟨rfl, rfl⟩))
    (fun os started H enc _ => lifted os started H enc)
end Go.Proofs.Ytgmfclpnmhgapaa.sipWords
