/- roundhouselaw2.SipKeeps answers true for every argument; no condition. -/
import Derived.Test.YtgmfclpnmhgapaaSipLaw
namespace Go.Proofs.Ytgmfclpnmhgapaa.sipKeeps
set_option linter.unusedVariables false
open Go.RowKit Go.ChangeShapes Go.WideShapes Go.ChangeAt

set_option maxRecDepth 100000 in
set_option maxHeartbeats 4000000 in
theorem walk (W : World) (a : Int) (ra : 0 ≤ a ∧ a ≤ 18446744073709551615) (b : Int) (rb : 0 ≤ b ∧ b ≤ 18446744073709551615) (A : Option Addr) (n c : Nat) (g : Nat → Int) (hn : n ≤ c) (hc : c ≤ maxLen) (h : By W A n g) (hg : IsB g) (hl : ∀ ad, A = some ad → 0 < n → ad.block < W.heap.size) (re : c * 1 ≤ 140737488351232) :
    Calls Try.prog 7 #[.int .u64 a, .int .u64 b, .slice A n c] W fun e w' => e = .returned (.bool true) ∧ Below W.heap.size W w' := by
  clear ra rb
  by_cases hbig : n ≤ 300
  · have t1 : decide ((n : Int) > 300) = false := by simp; omega
    go_enter Try.func7, Try.ntmps7
    go_wp2_with fail
    refine (known_any _).mono ?_
    rintro e w ⟨rfl, hb1⟩
    have hs := h.below hb1 (Nat.le_refl _)
    go_wp2_with (at_builtin
                 refine wp_app_b0 rfl (.tmp 15) (.tmp 16) rfl w.heap.size (.slice (some ⟨w.heap.size, 0, none⟩) 0 0) rfl (fun _ => Ow.new' rfl) A n c g rfl (hs.alloc _) (by omega) (by simp) ?_
                 intro A1 c1 w1 o1 hc1 hm1 hb2 hg1 ho1
                 have hb2' : Below w.heap.size w w1 := ((Below.refl _ _).alloc (Nat.le_refl _) _).trans hb2)
    have K4 := KeyIn.made (w := w1) (a := a) (b := b) (T := 26)
    have S4 := (hs.below hb2' (Nat.le_refl _)).alloc (.cells #[.int .u64 a, .int .u64 b] 26)
    have X4 : By _ A1 n g := o1.sl1.alloc (.cells #[.int .u64 a, .int .u64 b] 26)
    have B4 : Below W.heap.size W (w1.alloc (.cells #[.int .u64 a, .int .u64 b] 26)) := (hb1.trans (hb2'.mono hb1.size)).alloc (hb1.trans (hb2'.mono hb1.size)).size _
    generalize w1.alloc (.cells #[.int .u64 a, .int .u64 b] 26) = w4 at *
    generalize w1.heap.size = K at *
    refine (of_any a b A1 n c1 g _ X4 hg hc1 (by omega)).mono ?_
    rintro e w5 ⟨rfl, hb5⟩
    have K5 := K4.below hb5
    have S5 := S4.below hb5 (Nat.le_refl _)
    have X5 := X4.below hb5 (Nat.le_refl _)
    have B5 := then_ B4 hb5
    clear K4 S4 X4 B4 hb5 h hs o1 hg1 ho1 hb2' hb2 hb1
    go_wp2_with fail
    refine (of_any 0 0 A1 n c1 g _ X5 hg hc1 (by omega)).mono ?_
    rintro e w6 ⟨rfl, hb6⟩
    obtain ⟨k0, k1, k2⟩ := K5.below hb6
    have S6 := S5.below hb6 (Nat.le_refl _)
    have X6 := X5.below hb6 (Nat.le_refl _)
    have B6 := then_ B5 hb6
    have cx := conv_str c1 X6
    have ca := conv_str c S6
    clear K5 S5 X5 B5 hb6
    go_wp2_with fail
    refine (of_any a b A1 n c1 g _ X6 hg hc1 (by omega)).mono ?_
    rintro e w7 ⟨rfl, hb7⟩
    go_wp2
    go_ret
    exact ⟨rfl, then_ B6 hb7⟩
  · have t1 : decide ((n : Int) > 300) = true := by simp; omega
    skip
    go_enter Try.func7, Try.ntmps7
    go_wp2_with fail
    refine (known_any _).mono ?_
    rintro e w ⟨rfl, hb1⟩
    go_wp2
    go_ret
    exact ⟨rfl, hb1⟩

set_option maxRecDepth 100000 in
theorem lifted (os : Os) (started : os.Started) (H : Type) (enc : TypeId × Value → H) :
    ReturnsInHanded {} Try.checked os 7 .any (Rows.sipKeepsSpec.pre6 enc Try.prog Try.f7 [] false) (Rows.sipKeepsSpec.post enc Try.prog Try.f7 false true false false) :=
  law_step (s := Rows.sipKeepsSpec) started (by kernel_rfl) Try.func7
    (ChangeSpec.witness6 (s := Rows.sipKeepsSpec) (enc := enc) (C := Try.checked) false ⟨#[], #[.int .u64 0, .int .u64 0, .slice none 0 0], []⟩ 8 (by kernel_rfl) (by kernel_rfl) (by kernel_rfl) (by kernel_rfl))
    rfl (by rw [Try.params7]; decide +kernel) rfl Try.underlying4
    (fun ds h => by
      rw [Try.params7] at h
      match ds, h with
      | [_, _, _], _ => rfl)
    (fun W base args ds ps hval hA hsz => by
      rw [Try.params7] at hA hval hsz
      obtain ⟨v0, vs0, d0, ds0, p0, q0, hargs, rfl, rfl, h0, r0⟩ := trodAll_cons hA
      obtain ⟨v1, vs1, d1, ds1, p1, q1, rfl, rfl, rfl, h1, r1⟩ := trodAll_cons r0
      obtain ⟨v2, vs2, d2, ds2, p2, q2, rfl, rfl, rfl, h2, r2⟩ := trodAll_cons r1
      obtain ⟨rfl, rfl, rfl⟩ := trodAll_nil r2
      obtain rfl : args = #[v0, v1, v2] := by cases args; simp_all
      obtain ⟨a0, rfl, rfl, rfl, w0⟩ := open_int Try.underlying22 (hval 0 22 v0 rfl rfl) h0
      obtain ⟨a1, rfl, rfl, rfl, w1⟩ := open_int Try.underlying22 (hval 1 22 v1 rfl rfl) h1
      obtain ⟨A2, n2, c2, g2, rfl, hn2, hc2, hs2, hw2, hl2, hd2⟩ := open_row Try.underlying23 Try.underlying5 (by kernel_rfl) (hval 2 23 v2 rfl rfl) h2
      have re2 : c2 * 1 ≤ 140737488351232 := by
        rcases hd2 with ⟨_, h0⟩ | ⟨xs, ys, h1, h2⟩
        · omega
        · have := sized_slice hsz (j := 2) (t := 23) (e := 5) rfl (by rw [h1]; rfl) Try.underlying23
          rw [h2, show Try.prog.bytesOf 5 = 1 from by kernel_rfl] at this
          simpa [reachBytes] using this
      exact walk W a0 (bounds_u64 w0) a1 (bounds_u64 w1) A2 n2 c2 g2 hn2 hc2 hs2 (fun j => bounds_u8 (hw2 j)) hl2 re2)

theorem proved : Rows.SipKeepsSaid :=
  OpenClaim.holds_of_wide 7 Try.f7 rfl rfl rfl rfl rfl rfl rfl ⟨rfl, rfl, rfl, rfl, rfl⟩ rfl rfl rfl rfl rfl (by kernel_rfl) Try.func7 (by kernel_rfl)
    (of_decide_eq_true (by kernel_rfl)) (by unfold Func.isWrapper; first | (rw [if_pos (by decide +kernel)]; kernel_rfl) | (rw [if_neg (by decide +kernel)]; exact ⟨rfl, rfl⟩))
    (fun os started H enc _ => lifted os started H enc)
end Go.Proofs.Ytgmfclpnmhgapaa.sipKeeps
