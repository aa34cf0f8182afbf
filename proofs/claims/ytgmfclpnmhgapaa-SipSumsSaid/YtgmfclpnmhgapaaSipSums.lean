/- roundhouselaw2.SipSums answers true for every key, every row of bytes and every number; no condition. -/
import Derived.Test.YtgmfclpnmhgapaaSipLaw
namespace Go.Proofs.Ytgmfclpnmhgapaa.sipSums
set_option linter.unusedVariables false
open Go.RowKit Go.ChangeShapes Go.WideShapes Go.ChangeAt

set_option maxRecDepth 100000 in
set_option maxHeartbeats 2000000 in
theorem walk (W : World) (a : Int) (ra : 0 ≤ a ∧ a ≤ 18446744073709551615) (b : Int) (rb : 0 ≤ b ∧ b ≤ 18446744073709551615)
    (A : Option Addr) (n c : Nat) (g : Nat → Int) (hn : n ≤ c) (hc : c ≤ maxLen) (h : By W A n g) (hg : IsB g) (hl : ∀ ad, A = some ad → 0 < n → ad.block < W.heap.size) (re : c * 1 ≤ 140737488351232)
    (cut : Int) (rcut : -9223372036854775808 ≤ cut ∧ cut ≤ 9223372036854775807) :
    Calls Try.prog 3 #[.int .u64 a, .int .u64 b, .slice A n c, .int .i64 cut] W fun e w' => e = .returned (.bool true) ∧ Below W.heap.size W w' := by
  clear ra rb
  by_cases hbig : n ≤ 1000
  · have t1 : decide ((n : Int) > 1000) = false := by simp; omega
    have b0 := wi_bd cut ((n : Int) + 1) (by omega)
    obtain ⟨m, hm⟩ := Int.eq_ofNat_of_zero_le b0.1
    rw [hm] at b0
    have hmn : m ≤ n := by omega
    have HM := hid hm
    clear b0 hm
    go_enter Try.func3, Try.ntmps3
    go_wp2_with fail
    refine (known_any _).mono ?_
    rintro e w ⟨rfl, hb1⟩
    have hs := h.below hb1 (Nat.le_refl _)
    go_wp2_with fail
    refine (re_i64 (within_any cut ((n : Int) + 1) _ (by omega) (by omega)) HM.out).mono ?_
    rintro e w2 ⟨rfl, rfl⟩
    go_wp2_with fail
    have K4 := KeyIn.made (w := w) (a := a) (b := b) (T := 26)
    have S4 := hs.alloc (.cells #[.int .u64 a, .int .u64 b] 26)
    have B4 : Below W.heap.size W (w.alloc (.cells #[.int .u64 a, .int .u64 b] 26)) := hb1.alloc hb1.size _
    generalize w.alloc (.cells #[.int .u64 a, .int .u64 b] 26) = w4 at *
    generalize w.heap.size = K at *
    obtain ⟨k0, k1, k2⟩ := K4
    have i15 : (m : Int) ≤ c := by omega
    clear h hs hb1
    go_region_held3 (fun w' => w'.cell? ⟨K, 0, none⟩ = some (.int .u64 a) ∧ w'.cell? ⟨K, 1, none⟩ = some (.int .u64 b) ∧ K < w'.heap.size ∧ By w' A n g ∧ Below W.heap.size W w')
      (first
        | (go_split_ands; refine ⟨?_, ?_, ?_, ?_, ?_⟩; (rw [hb5.cell (by assumption)]; assumption); (rw [hb5.cell (by assumption)]; assumption); exact Nat.lt_of_lt_of_le (by assumption) hb5.size; exact Sl.below (by assumption) hb5 (Nat.le_refl _); exact then_ (by assumption) hb5)
        | (refine ⟨?_, ?_, ?_, ?_, ?_⟩; assumption; assumption; assumption; exact Sl.drew (by assumption); exact Below.drew (by assumption))
        | go_keep)
      ((first
        | (go_at_call 15
           go_split_ands
           with_reducible refine (of_any a b A _ c g _ ?_ hg ?_ ?_).mono ?_
           · exact Sl.less (m := n) (by assumption) (by omega)
           · omega
           · omega
           rintro e w5 ⟨rfl, hb5⟩)
        | (go_at_call 16
           go_split_ands
           with_reducible refine (rof_any a b A _ c g _ ?_ hg ?_ ?_).mono ?_
           · exact Sl.less (m := n) (by assumption) (by omega)
           · omega
           · omega
           rintro e w5 ⟨rfl, hb5⟩)))
    all_goals
      go_split_ands
      go_wp2_with fail
      go_ret
      exact ⟨rfl, by assumption⟩
  · have t1 : decide ((n : Int) > 1000) = true := by simp; omega
    go_enter Try.func3, Try.ntmps3
    go_wp2_with fail
    refine (known_any _).mono ?_
    rintro e w ⟨rfl, hb1⟩
    go_wp2
    go_ret
    exact ⟨rfl, hb1⟩

set_option maxRecDepth 100000 in
theorem lifted (os : Os) (started : os.Started) (H : Type) (enc : TypeId × Value → H) :
    ReturnsInHanded {} Try.checked os 3 .any (Rows.sipSumsSpec.pre6 enc Try.prog Try.f3 [] false) (Rows.sipSumsSpec.post enc Try.prog Try.f3 false true false false) :=
  law_step (s := Rows.sipSumsSpec) started (by kernel_rfl) Try.func3
    (ChangeSpec.witness6 (s := Rows.sipSumsSpec) (enc := enc) (C := Try.checked) false ⟨#[], #[.int .u64 0, .int .u64 0, .slice none 0 0, .int .i64 0], []⟩ 8 (by kernel_rfl) (by kernel_rfl) (by kernel_rfl) (by kernel_rfl))
    rfl (by rw [Try.params3]; decide +kernel) rfl Try.underlying4
    (fun ds h => by
      rw [Try.params3] at h
      match ds, h with
      | [_, _, _, _], _ => rfl)
    (fun W base args ds ps hval hA hsz => by
      rw [Try.params3] at hA hval hsz
      obtain ⟨v0, vs0, d0, ds0, p0, q0, hargs, rfl, rfl, h0, r0⟩ := trodAll_cons hA
      obtain ⟨v1, vs1, d1, ds1, p1, q1, rfl, rfl, rfl, h1, r1⟩ := trodAll_cons r0
      obtain ⟨v2, vs2, d2, ds2, p2, q2, rfl, rfl, rfl, h2, r2⟩ := trodAll_cons r1
      obtain ⟨v3, vs3, d3, ds3, p3, q3, rfl, rfl, rfl, h3, r3⟩ := trodAll_cons r2
      obtain ⟨rfl, rfl, rfl⟩ := trodAll_nil r3
      obtain rfl : args = #[v0, v1, v2, v3] := by cases args; simp_all
      obtain ⟨a0, rfl, rfl, rfl, w0⟩ := open_int Try.underlying22 (hval 0 22 v0 rfl rfl) h0
      obtain ⟨a1, rfl, rfl, rfl, w1⟩ := open_int Try.underlying22 (hval 1 22 v1 rfl rfl) h1
      obtain ⟨A2, n2, c2, g2, rfl, hn2, hc2, hs2, hw2, hl2, hd2⟩ := open_row Try.underlying23 Try.underlying5 (by kernel_rfl) (hval 2 23 v2 rfl rfl) h2
      have re2 : c2 * 1 ≤ 140737488351232 := by
        rcases hd2 with ⟨_, h0⟩ | ⟨xs, ys, h1, h2⟩
        · omega
        · have := sized_slice hsz (j := 2) (t := 23) (e := 5) rfl (by rw [h1]; rfl) Try.underlying23
          rw [h2, show Try.prog.bytesOf 5 = 1 from by kernel_rfl] at this
          simpa [reachBytes] using this
      obtain ⟨a3, rfl, rfl, rfl, w3⟩ := open_int Try.underlying3 (hval 3 3 v3 rfl rfl) h3
      exact walk W a0 (bounds_u64 w0) a1 (bounds_u64 w1) A2 n2 c2 g2 hn2 hc2 hs2 (fun j => bounds_u8 (hw2 j)) hl2 re2 a3 (bounds_i64 w3))

theorem proved : Rows.SipSumsSaid :=
  OpenClaim.holds_of_wide 3 Try.f3 rfl rfl rfl rfl rfl rfl rfl ⟨rfl, rfl, rfl, rfl, rfl⟩ rfl rfl rfl rfl rfl (by kernel_rfl) Try.func3 (by kernel_rfl)
    (of_decide_eq_true (by kernel_rfl)) (by unfold Func.isWrapper; first | (rw [if_pos (by decide +kernel)]; kernel_rfl) | (rw [if_neg (by decide +kernel)]; exact ⟨rfl, rfl⟩))
    (fun os started H enc _ => lifted os started H enc)
end Go.Proofs.Ytgmfclpnmhgapaa.sipSums
