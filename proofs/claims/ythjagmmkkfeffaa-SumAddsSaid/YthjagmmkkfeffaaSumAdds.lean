/- roundhouselaw1.SumAdds answers true for every two rows of bytes; no condition. -/
import Derived.Test.YthjagmmkkfeffaaSumLaw
import Derived.Test.YthjagmmkkfeffaaBytes
namespace Go.Proofs.Ythjagmmkkfeffaa.sumAdds
set_option linter.unusedVariables false
open Go.RowKit Go.ChangeShapes Go.WideShapes Go.ChangeAt

/-- The first k of g, then h. -/
def both (k : Nat) (g h : Nat → Int) : Nat → Int := fun j => if j < k then g j else h (j - k)
theorem both_b {k : Nat} {g h : Nat → Int} (hg : IsB g) (hh : IsB h) : IsB (both k g h) := fun j => by unfold both; split; exact hg j; exact hh _
theorem tot_both (p m : Nat) (g h : Nat → Int) : tot (both (2 * p) g h) (2 * p + m) = tot g (2 * p) + tot h m := by
  rw [tot_split, tot_ext (both (2 * p) g h) g (2 * p) (fun j hj => by unfold both; rw [if_pos hj]), tot_ext (fun j => both (2 * p) g h (2 * p + j)) h m (fun j hj => by unfold both; rw [if_neg (by omega), Nat.add_sub_cancel_left])]

theorem walk (W : World) (A : Option Addr) (n c : Nat) (g : Nat → Int) (hn : n ≤ c) (hc : c ≤ maxLen) (h : By W A n g) (hg : IsB g) (hl : ∀ ad, A = some ad → 0 < n → ad.block < W.heap.size) (re : c * 1 ≤ 140737488351232)
    (A2 : Option Addr) (n2 c2 : Nat) (g2 : Nat → Int) (hn2 : n2 ≤ c2) (hc2 : c2 ≤ maxLen) (h2 : By W A2 n2 g2) (hg2 : IsB g2) (hl2 : ∀ ad, A2 = some ad → 0 < n2 → ad.block < W.heap.size) (re2 : c2 * 1 ≤ 140737488351232) :
    Calls Try.prog 3 #[.slice A n c, .slice A2 n2 c2] W fun e w' => e = .returned (.bool true) ∧ Below W.heap.size W w' := by
  by_cases hbig : n ≤ 2000
  · have t1 : decide ((n : Int) > 2000) = false := by simp; omega
    by_cases hbig2 : n2 ≤ 2000
    · have t2 : decide ((n2 : Int) > 2000) = false := by simp; omega
      obtain ⟨p, hp⟩ : ∃ p, p = n / 2 := ⟨_, rfl⟩
      have e1 : (n : Int) / 2 * 2 = ((2 * p : Nat) : Int) := by omega
      have hpn : 2 * p ≤ n := by omega
      have hx := hid (norm_plus (tot g (2 * p)) (tot g2 n2) (tot_nonneg g hg _) (tot_nonneg g2 hg2 _))
      have b1 := norm_bd (tot g (2 * p))
      have b2 := norm_bd (tot g2 n2)
      obtain ⟨b1, b1'⟩ := b1
      obtain ⟨b2, b2'⟩ := b2
      clear hp
      go_enter Try.func3, Try.ntmps3
      go_wp2_with fail
      refine (known_any _).mono ?_
      rintro e w ⟨rfl, hb1⟩
      have hs := h.below hb1 (Nat.le_refl _)
      have hs2 := h2.below hb1 (Nat.le_refl _)
      go_wp2_with (first
        | (at_builtin
           refine wp_app_b0 rfl (.tmp 23) (.tmp 24) rfl w.heap.size (.slice (some ⟨w.heap.size, 0, none⟩) 0 0) rfl (fun _ => Ow.new (Nat.le_refl _)) A (2 * p) c g rfl ((hs.less hpn).alloc _) (by omega) (by simp) ?_
           intro A1 c1 w1 o1 hc1 hm1 hb2 hg1 ho1
           have hb2' : Below w.heap.size w w1 := ((Below.refl _ _).alloc (Nat.le_refl _) _).trans hb2)
        | (at_builtin
           refine wp_app_b rfl (.tmp 25) (.tmp 26) rfl w.heap.size (.slice A1 (2 * p) c1) (2 * p) g rfl o1 A2 n2 c2 g2 rfl (hs2.below hb2' (Nat.le_refl _)) (by omega) hb2'.size ?_
           intro A3 c3 w3 o3 hc3 hm3 hb3 hg3 ho3
           have hb3' : Below w.heap.size w w3 := hb2'.trans hb3))
      have S := hs.below hb3' (Nat.le_refl _)
      have S2 := hs2.below hb3' (Nat.le_refl _)
      have SX : By w3 A3 (2 * p + n2) (both (2 * p) g g2) := o3.sl1
      have hx2 : norm (tot (both (2 * p) g g2) (2 * p + n2)) = plus (norm (tot g (2 * p))) (norm (tot g2 n2)) := by rw [tot_both, hx.out]
      have HX := hid hx2
      clear hx2 hx o3 o1 h h2 hs hs2
      refine (add_any _ _ _ _ _ S hg (by omega)).mono ?_
      rintro e w4 ⟨rfl, k1, rfl⟩
      go_wp2_with fail
      refine (radd_any _ _ _ _ _ (by exact S.drewN _) hg (by omega)).mono ?_
      rintro e w4 ⟨rfl, rfl⟩
      go_wp2_with fail
      refine (of_any _ _ _ _ _ (by exact S.drewN _) hg (by omega)).mono ?_
      rintro e w4 ⟨rfl, k2, rfl⟩
      go_wp2_with fail
      refine (rof_any _ _ _ _ _ (by exact S.drewN _) hg (by omega)).mono ?_
      rintro e w4 ⟨rfl, rfl⟩
      go_wp2_with fail
      refine (right_any _ _ _ _ _ (by exact S.drewN _) hg (by omega)).mono ?_
      rintro e w4 ⟨rfl, k3, rfl⟩
      go_wp2_with fail
      refine (rright_any _ _ _ _ _ (by exact S.drewN _) hg (by omega)).mono ?_
      rintro e w4 ⟨rfl, rfl⟩
      generalize (norm (tot g n) == 65535) = r
      cases r
      all_goals
        go_wp2_with fail
        refine (add_any _ _ _ _ _ (by exact SX.drewN _) (both_b hg hg2) (by omega)).mono ?_
        rintro e w4 ⟨rfl, k4, rfl⟩
        go_wp2_with fail
        refine (add_any _ _ _ _ _ (by exact (S.less hpn).drewN _) hg (by omega)).mono ?_
        rintro e w4 ⟨rfl, k5, rfl⟩
        go_wp2_with fail
        refine (add_any _ _ _ _ _ (by exact S2.drewN _) hg2 (by omega)).mono ?_
        rintro e w4 ⟨rfl, k6, rfl⟩
        go_wp2_with fail
        refine (re_i64 (plus_any _ _ _ b1 b1' b2 b2') HX.out.symm).mono ?_
        rintro e w4 ⟨rfl, rfl⟩
        go_wp2
        go_ret
        exact ⟨rfl, below_drewN (hb1.trans (hb3'.mono hb1.size)) _⟩
    · have t2 : decide ((n2 : Int) > 2000) = true := by simp; omega
      go_enter Try.func3, Try.ntmps3
      go_wp2_with fail
      refine (known_any _).mono ?_
      rintro e w ⟨rfl, hb1⟩
      go_wp2
      go_ret
      exact ⟨rfl, hb1⟩
  · have t1 : decide ((n : Int) > 2000) = true := by simp; omega
    go_enter Try.func3, Try.ntmps3
    go_wp2_with fail
    refine (known_any _).mono ?_
    rintro e w ⟨rfl, hb1⟩
    go_wp2
    go_ret
    exact ⟨rfl, hb1⟩

set_option maxRecDepth 100000 in
theorem lifted (os : Os) (started : os.Started) (H : Type) (enc : TypeId × Value → H) :
    ReturnsInHanded {} Try.checked os 3 .any (Rows.sumAddsSpec.pre6 enc Try.prog Try.f3 [] false) (Rows.sumAddsSpec.post enc Try.prog Try.f3 false true false false) :=
  law_step (s := Rows.sumAddsSpec) started (by kernel_rfl) Try.func3
    (ChangeSpec.witness6 (s := Rows.sumAddsSpec) (enc := enc) (C := Try.checked) false ⟨#[], #[.slice none 0 0, .slice none 0 0], []⟩ 8 (by kernel_rfl) (by kernel_rfl) (by kernel_rfl) (by kernel_rfl))
    rfl (by rw [Try.params3]; decide +kernel) rfl Try.underlying4
    (fun ds h => by
      rw [Try.params3] at h
      match ds, h with
      | [_, _], _ => rfl)
    (fun W base args ds ps hval hA hsz => by
      rw [Try.params3] at hA hval hsz
      obtain ⟨v0, vs0, d0, ds0, p0, q0, hargs, rfl, rfl, h0, r0⟩ := trodAll_cons hA
      obtain ⟨v1, vs1, d1, ds1, p1, q1, rfl, rfl, rfl, h1, r1⟩ := trodAll_cons r0
      obtain ⟨rfl, rfl, rfl⟩ := trodAll_nil r1
      obtain rfl : args = #[v0, v1] := by cases args; simp_all
      obtain ⟨A0, n0, c0, g0, rfl, hn0, hc0, hs0, hw0, hl0, hd0⟩ := open_row Try.underlying22 Try.underlying5 (by kernel_rfl) (hval 0 22 v0 rfl rfl) h0
      have re0 : c0 * 1 ≤ 140737488351232 := by
        rcases hd0 with ⟨_, h0⟩ | ⟨xs, ys, h1, h2⟩
        · omega
        · have := sized_slice hsz (j := 0) (t := 22) (e := 5) rfl (by rw [h1]; rfl) Try.underlying22
          rw [h2, show Try.prog.bytesOf 5 = 1 from by kernel_rfl] at this
          simpa [reachBytes] using this
      obtain ⟨A1, n1, c1, g1, rfl, hn1, hc1, hs1, hw1, hl1, hd1⟩ := open_row Try.underlying22 Try.underlying5 (by kernel_rfl) (hval 1 22 v1 rfl rfl) h1
      have re1 : c1 * 1 ≤ 140737488351232 := by
        rcases hd1 with ⟨_, h0⟩ | ⟨xs, ys, h1, h2⟩
        · omega
        · have := sized_slice hsz (j := 1) (t := 22) (e := 5) rfl (by rw [h1]; rfl) Try.underlying22
          rw [h2, show Try.prog.bytesOf 5 = 1 from by kernel_rfl] at this
          simpa [reachBytes] using this
      exact walk W A0 n0 c0 g0 hn0 hc0 hs0 (fun j => bounds_u8 (hw0 j)) hl0 re0 A1 n1 c1 g1 hn1 hc1 hs1 (fun j => bounds_u8 (hw1 j)) hl1 re1)

theorem proved : Rows.SumAddsSaid :=
  OpenClaim.holds_of_wide 3 Try.f3 rfl rfl rfl rfl rfl rfl rfl ⟨rfl, rfl, rfl, rfl, rfl⟩ rfl rfl rfl rfl rfl (by kernel_rfl) Try.func3 (by kernel_rfl)
    (of_decide_eq_true (by kernel_rfl)) (by unfold Func.isWrapper; first | (rw [if_pos (by decide +kernel)]; kernel_rfl) | (rw [if_neg (by decide +kernel)]; exact ⟨rfl, rfl⟩))
    (fun os started H enc _ => lifted os started H enc)
end Go.Proofs.Ythjagmmkkfeffaa.sumAdds
