/- roundhouselaw1.SumOwn answers true for every row of bytes; no condition. -/
import Derived.Test.YthjagmmkkfeffaaSumLaw
import Derived.Test.YthjagmmkkfeffaaBytes
namespace Go.Proofs.Ythjagmmkkfeffaa.sumOwn
set_option linter.unusedVariables false
open Go.RowKit Go.ChangeShapes Go.WideShapes Go.ChangeAt

theorem walk (W : World) (A : Option Addr) (n c : Nat) (g : Nat → Int) (hn : n ≤ c) (hc : c ≤ maxLen) (h : By W A n g) (hg : IsB g) (hl : ∀ ad, A = some ad → 0 < n → ad.block < W.heap.size) (re : c * 1 ≤ 140737488351232) :
    Calls Try.prog 11 #[.slice A n c] W fun e w' => e = .returned (.bool true) ∧ Below W.heap.size W w' := by
  go_enter Try.func11, Try.ntmps11
  go_wp2_with fail
  refine (known_any _).mono ?_
  rintro e w ⟨rfl, hb1⟩
  have hs := h.below hb1 (Nat.le_refl _)
  go_wp2_with (at_builtin
               refine wp_app_b0 rfl (.tmp 7) (.tmp 8) rfl w.heap.size (.slice (some ⟨w.heap.size, 0, none⟩) 0 0) rfl (fun _ => Ow.new (Nat.le_refl _)) A n c g rfl (hs.alloc _) (by omega) (by simp) ?_
               intro A1 c1 w1 o1 hc1 hm1 hb2 hg1 ho1
               have hb2' : Below w.heap.size w w1 := ((Below.refl _ _).alloc (Nat.le_refl _) _).trans hb2)
  have S := hs.below hb2' (Nat.le_refl _)
  have SX : By w1 A1 n g := o1.sl1
  clear o1 h hs
  refine (add_any _ _ _ _ _ SX hg (by omega)).mono ?_
  rintro e w4 ⟨rfl, k1, rfl⟩
  go_wp2_with fail
  refine (of_any _ _ _ _ _ (by exact SX.drewN _) hg (by omega)).mono ?_
  rintro e w4 ⟨rfl, k2, rfl⟩
  go_wp2_with fail
  refine (right_any _ _ _ _ _ (by exact SX.drewN _) hg (by omega)).mono ?_
  rintro e w4 ⟨rfl, k3, rfl⟩
  have cx : ∀ k, (convert 22 9 (.slice A1 n c1)).run Try.prog (w1.drewN k) = .ok (.string (bstr g n)) (w1.drewN k) := fun k => conv_str c1 (by exact SX.drewN k)
  have ca : ∀ k, (convert 22 9 (.slice A n c)).run Try.prog (w1.drewN k) = .ok (.string (bstr g n)) (w1.drewN k) := fun k => conv_str c (by exact S.drewN k)
  go_wp2_with fail
  refine (add_any _ _ _ _ _ (by exact SX.drewN _) hg (by omega)).mono ?_
  rintro e w4 ⟨rfl, k4, rfl⟩
  go_wp2_with fail
  refine (radd_any _ _ _ _ _ (by exact S.drewN _) hg (by omega)).mono ?_
  rintro e w4 ⟨rfl, rfl⟩
  go_wp2
  go_ret
  exact ⟨rfl, below_drewN (hb1.trans (hb2'.mono hb1.size)) _⟩

set_option maxRecDepth 100000 in
theorem lifted (os : Os) (started : os.Started) (H : Type) (enc : TypeId × Value → H) :
    ReturnsInHanded {} Try.checked os 11 .any (Rows.sumOwnSpec.pre6 enc Try.prog Try.f11 [] false) (Rows.sumOwnSpec.post enc Try.prog Try.f11 false true false false) :=
  law_step (s := Rows.sumOwnSpec) started (by kernel_rfl) Try.func11
    (ChangeSpec.witness6 (s := Rows.sumOwnSpec) (enc := enc) (C := Try.checked) false ⟨#[], #[.slice none 0 0], []⟩ 8 (by kernel_rfl) (by kernel_rfl) (by kernel_rfl) (by kernel_rfl))
    rfl (by rw [Try.params11]; decide +kernel) rfl Try.underlying4
    (fun ds h => by
      rw [Try.params11] at h
      match ds, h with
      | [_], _ => rfl)
    (fun W base args ds ps hval hA hsz => by
      rw [Try.params11] at hA hval hsz
      obtain ⟨v0, vs0, d0, ds0, p0, q0, hargs, rfl, rfl, h0, r0⟩ := trodAll_cons hA
      obtain ⟨rfl, rfl, rfl⟩ := trodAll_nil r0
      obtain rfl : args = #[v0] := by cases args; simp_all
      obtain ⟨A0, n0, c0, g0, rfl, hn0, hc0, hs0, hw0, hl0, hd0⟩ := open_row Try.underlying22 Try.underlying5 (by kernel_rfl) (hval 0 22 v0 rfl rfl) h0
      have re0 : c0 * 1 ≤ 140737488351232 := by
        rcases hd0 with ⟨_, h0⟩ | ⟨xs, ys, h1, h2⟩
        · omega
        · have := sized_slice hsz (j := 0) (t := 22) (e := 5) rfl (by rw [h1]; rfl) Try.underlying22
          rw [h2, show Try.prog.bytesOf 5 = 1 from by kernel_rfl] at this
          simpa [reachBytes] using this
      exact walk W A0 n0 c0 g0 hn0 hc0 hs0 (fun j => bounds_u8 (hw0 j)) hl0 re0)

theorem proved : Rows.SumOwnSaid :=
  OpenClaim.holds_of_wide 11 Try.f11 rfl rfl rfl rfl rfl rfl rfl ⟨rfl, rfl, rfl, rfl, rfl⟩ rfl rfl rfl rfl rfl (by kernel_rfl) Try.func11 (by kernel_rfl)
    (of_decide_eq_true (by kernel_rfl)) (by unfold Func.isWrapper; first | (rw [if_pos (by decide +kernel)]; kernel_rfl) | (rw [if_neg (by decide +kernel)]; exact ⟨rfl, rfl⟩))
    (fun os started H enc _ => lifted os started H enc)
end Go.Proofs.Ythjagmmkkfeffaa.sumOwn
