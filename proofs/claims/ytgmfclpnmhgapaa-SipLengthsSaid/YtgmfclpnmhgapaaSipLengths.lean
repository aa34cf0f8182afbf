/- roundhouselaw2.SipLengths answers true for every argument; no condition. -/
import Derived.Test.YtgmfclpnmhgapaaSipLaw
import Derived.Test.YtgmfclpnmhgapaaZeros
namespace Go.Proofs.Ytgmfclpnmhgapaa.sipLengths
set_option linter.unusedVariables false
open Go.RowKit Go.ChangeShapes Go.WideShapes Go.ChangeAt

theorem sumW_zero (a b : Int) : sumW a b (fun _ => 0) 0 = sumB a b (fun _ => 0) 0 := by
  unfold sumW sumB
  rfl
set_option maxRecDepth 100000 in
set_option maxHeartbeats 4000000 in
theorem walk (W : World) (a : Int) (ra : 0 ≤ a ∧ a ≤ 18446744073709551615) (b : Int) (rb : 0 ≤ b ∧ b ≤ 18446744073709551615) (A : Option Addr) (n c : Nat) (g : Nat → Int) (hn : n ≤ c) (hc : c ≤ maxLen) (h : By W A n g) (hg : IsB g) (hl : ∀ ad, A = some ad → 0 < n → ad.block < W.heap.size) (re : c * 1 ≤ 140737488351232) (m0 : Int) (rm0 : -9223372036854775808 ≤ m0 ∧ m0 ≤ 9223372036854775807) :
    Calls Try.prog 6 #[.int .u64 a, .int .u64 b, .slice A n c, .int .i64 m0] W fun e w' => e = .returned (.bool true) ∧ Below W.heap.size W w' := by
  clear ra rb
  by_cases hbig : n ≤ 300
  · have t1 : decide ((n : Int) > 300) = false := by simp; omega
    have b0 := wi_bd m0 20 (by omega)
    obtain ⟨r, hr⟩ := Int.eq_ofNat_of_zero_le b0.1
    rw [hr] at b0
    have hr20 : r < 20 := by omega
    have HR := hid hr
    clear b0 hr
    go_enter Try.func6, Try.ntmps6
    go_wp2_with fail
    refine (known_any _).mono ?_
    rintro e w ⟨rfl, hb1⟩
    have hs := h.below hb1 (Nat.le_refl _)
    go_wp2_with (first
      | (at_builtin
         refine wp_app_b0 rfl (.tmp 19) (.tmp 20) rfl (w.heap.size + 1) (.slice (some ⟨w.heap.size + 1, 0, none⟩) 0 0) rfl (fun _ => Ow.new' (by simp)) A n c g rfl ((hs.alloc _).alloc _) (by omega) (by simp) ?_
         intro A1 c1 w1 o1 hc1 hm1 hb2 hg1 ho1
         have hb2' : Below (w.heap.size + 1) (w.alloc (.cells #[.int .u64 a, .int .u64 b] 26)) w1 := ((Below.refl _ _).alloc (by simp) _).trans hb2)
      | (go_at_call 14
         refine (re_i64 (within_any m0 20 _ (by omega) (by omega)) HR.out).mono ?_
         rintro e w2 ⟨rfl, rfl⟩)
      | (at_builtin
         refine wp_zeros rfl (.tmp 21) (.tmp 23) rfl (w.heap.size + 1) (.slice A1 n c1) n g rfl o1 r rfl (by omega) (by have := hb2'.size; simp at this; omega) ?_
         intro A4 c4 w4 o4 hc4 hm4 hb4 hg4 ho4
         have hb4' : Below (w.heap.size + 1) (w.alloc (.cells #[.int .u64 a, .int .u64 b] 26)) w4 := hb2'.trans hb4))
    have K4 := (KeyIn.made (w := w) (a := a) (b := b) (T := 26)).below (hb4'.mono (by simp))
    have B4 : Below W.heap.size W w4 := (hb1.alloc hb1.size _).trans (hb4'.mono (by have := hb1.size; omega))
    obtain ⟨f, hf⟩ : ∃ f : Nat → Int, ∀ j, f j = if j < n then g j else 0 := ⟨_, fun _ => rfl⟩
    have hfb : IsB f := fun j => by
      rw [hf]
      split
      · exact hg j
      · exact ⟨Int.le_refl 0, by simp⟩
    have S4 : By w4 A4 (n + r) f := o4.sl1.as fun j _ => by simp only [hf]
    generalize w.heap.size = K at *
    obtain ⟨k0, k1, k2⟩ := K4
    clear h hs hb1 hb2' hb4' o1 o4 hb2 hb4 hg1 hg4 ho1 ho4 hf
    go_region_held3 (fun w' => w'.cell? ⟨K, 0, none⟩ = some (.int .u64 a) ∧ w'.cell? ⟨K, 1, none⟩ = some (.int .u64 b) ∧ K < w'.heap.size ∧ By w' A4 (n + r) f ∧ Below W.heap.size W w')
      (first
        | (go_split_ands; refine ⟨?_, ?_, ?_, ?_, ?_⟩; (rw [hb5.cell (by assumption)]; assumption); (rw [hb5.cell (by assumption)]; assumption); exact Nat.lt_of_lt_of_le (by assumption) hb5.size; exact Sl.below (by assumption) hb5 (Nat.le_refl _); exact then_ (by assumption) hb5)
        | (refine ⟨?_, ?_, ?_, ?_, ?_⟩; assumption; assumption; assumption; exact Sl.drew (by assumption); exact Below.drew (by assumption))
        | (refine ⟨?_, ?_, ?_, ?_, ?_⟩; (rw [World.cell?_alloc_lt _ _ _ (by assumption)]; assumption); (rw [World.cell?_alloc_lt _ _ _ (by assumption)]; assumption); (simp; omega); exact Sl.alloc (by assumption) _; exact Below.alloc (by assumption) (Below.size (by assumption)) _)
        | go_keep)
      ((first
        | (go_at_call 15
           go_split_ands
           with_reducible refine (of_any a b A4 _ c4 f _ ?_ hfb ?_ ?_).mono ?_
           · assumption
           · omega
           · omega
           rintro e w5 ⟨rfl, hb5⟩)
        | (go_at_call 16
           go_split_ands
           with_reducible refine (rof_any a b A4 _ c4 f _ ?_ hfb ?_ ?_).mono ?_
           · assumption
           · omega
           · omega
           rintro e w5 ⟨rfl, hb5⟩)
        | (go_at_call 19
           go_split_ands
           with_reducible refine (re_u64 (words_any a b none 0 0 (fun _ => 0) _ ?_ ?_ ?_) (sumW_zero a b)).mono ?_
           · exact Sl.nil _ _ _
           · exact fun _ => ⟨by simp, by simp⟩
           · omega
           rintro e w5 ⟨rfl, hb5⟩)
        | (go_at_call 15
           go_split_ands
           with_reducible refine (of_any a b none 0 0 (fun _ => 0) _ ?_ ?_ ?_ ?_).mono ?_
           · exact Sl.nil _ _ _
           · exact fun _ => ⟨Int.le_refl 0, by simp⟩
           · omega
           · omega
           rintro e w5 ⟨rfl, hb5⟩)))
    all_goals
      go_split_ands
      go_wp2_with fail
      go_ret
      exact ⟨rfl, by assumption⟩
  · have t1 : decide ((n : Int) > 300) = true := by simp; omega
    skip
    go_enter Try.func6, Try.ntmps6
    go_wp2_with fail
    refine (known_any _).mono ?_
    rintro e w ⟨rfl, hb1⟩
    go_wp2
    go_ret
    exact ⟨rfl, hb1⟩

set_option maxRecDepth 100000 in
theorem lifted (os : Os) (started : os.Started) (H : Type) (enc : TypeId × Value → H) :
    ReturnsInHanded {} Try.checked os 6 .any (Rows.sipLengthsSpec.pre6 enc Try.prog Try.f6 [] false) (Rows.sipLengthsSpec.post enc Try.prog Try.f6 false true false false) :=
  law_step (s := Rows.sipLengthsSpec) started (by kernel_rfl) Try.func6
    (ChangeSpec.witness6 (s := Rows.sipLengthsSpec) (enc := enc) (C := Try.checked) false ⟨#[], #[.int .u64 0, .int .u64 0, .slice none 0 0, .int .i64 0], []⟩ 8 (by kernel_rfl) (by kernel_rfl) (by kernel_rfl) (by kernel_rfl))
    rfl (by rw [Try.params6]; decide +kernel) rfl Try.underlying4
    (fun ds h => by
      rw [Try.params6] at h
      match ds, h with
      | [_, _, _, _], _ => rfl)
    (fun W base args ds ps hval hA hsz => by
      rw [Try.params6] at hA hval hsz
      obtain ⟨v0, vs0, d0, ds0, p0, q0, hargs, rfl, rfl, h0, r0⟩ := trodAll_cons hA
      obtain ⟨v1, vs1, d1, ds1, p1, q1, rfl, rfl, rfl, h1, r1⟩ := trodAll_cons r0
      obtain ⟨v2, vs2, d2, ds2, p2, q2, rfl, rfl, rfl, h2, r2⟩ := trodAll_cons r1
      obtain ⟨v3, vs3, d3, ds3, p3, q3, rfl, rfl, rfl, h3, r3⟩ := trodAll_cons r2
      obtain ⟨rfl, rfl, rfl⟩ := trodAll_nil r3
      obtain rfl : args = #[v0, v1, v2, v3] := by cases args; simp_all
      obtain ⟨a0, rfl, rfl, rfl, w0⟩ := open_int Try.underlying22 (hval 0 22 v0 rfl rfl) h0
      obtain ⟨a1, rfl, rfl, rfl, w1⟩ := open_int Try.underlying22 (hval 1 22 v1 rfl rfl) h1
      obtain ⟨A2, n2, c2, g2, rfl, hn2, hc2, hs2, hw2, hl2, hd2⟩ := open_row Try.underlying23 Try.underlying5 (by kernel_rfl) (hval 2 23 v2 rfl rfl) h2
      have re2 : c2 * 1 ≤ 140737488351232 := by
        rcases hd2 with ⟨_, h0⟩ | ⟨xs, ys, h1, h2⟩
        · omega
        · have := sized_slice hsz (j := 2) (t := 23) (e := 5) rfl (by rw [h1]; rfl) Try.underlying23
          rw [h2, show Try.prog.bytesOf 5 = 1 from by kernel_rfl] at this
          simpa [reachBytes] using this
      obtain ⟨a3, rfl, rfl, rfl, w3⟩ := open_int Try.underlying3 (hval 3 3 v3 rfl rfl) h3
      exact walk W a0 (bounds_u64 w0) a1 (bounds_u64 w1) A2 n2 c2 g2 hn2 hc2 hs2 (fun j => bounds_u8 (hw2 j)) hl2 re2 a3 (bounds_i64 w3))

theorem proved : Rows.SipLengthsSaid :=
  OpenClaim.holds_of_wide 6 Try.f6 rfl rfl rfl rfl rfl rfl rfl ⟨rfl, rfl, rfl, rfl, rfl⟩ rfl rfl rfl rfl rfl (by kernel_rfl) Try.func6 (by kernel_rfl)
    (of_decide_eq_true (by kernel_rfl)) (by unfold Func.isWrapper; first | (rw [if_pos (by decide +kernel)]; kernel_rfl) | (rw [if_neg (by decide +kernel)]; exact ⟨rfl, rfl⟩))
    (fun os started H enc _ => lifted os started H enc)
end Go.Proofs.Ytgmfclpnmhgapaa.sipLengths
