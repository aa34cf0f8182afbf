/- roundhouselaw1.SumBounds answers true for every row of bytes; no condition. -/
import Derived.Test.YthjagmmkkfeffaaSumLaw
namespace Go.Proofs.Ythjagmmkkfeffaa.sumBounds
set_option linter.unusedVariables false
open Go.RowKit Go.ChangeShapes Go.WideShapes Go.ChangeAt

/-- Are the first k noughts? -/
def zer (g : Nat → Int) : Nat → Bool
  | 0 => true
  | k + 1 => zer g k && (g k == 0)
theorem zer_iff (g : Nat → Int) (k : Nat) : zer g k = true ↔ ∀ j, j < k → g j = 0 := by
  induction k with
  | zero => exact ⟨fun _ j hj => absurd hj (by omega), fun _ => rfl⟩
  | succ k ih =>
    simp only [zer, Bool.and_eq_true, beq_iff_eq, ih]
    exact ⟨fun h j hj => by
      by_cases e : j = k
      · subst e; exact h.2
      · exact h.1 j (by omega), fun h => ⟨fun j hj => h j (by omega), h k (by omega)⟩⟩
theorem zer_norm (g : Nat → Int) (hg : IsB g) (n : Nat) : (norm (tot g n) == 0) = zer g n := by
  rw [Bool.eq_iff_iff, beq_iff_eq, norm_zero, tot_zero g hg, zer_iff]

theorem walk (W : World) (A : Option Addr) (n c : Nat) (g : Nat → Int) (hn : n ≤ c) (hc : c ≤ maxLen) (h : By W A n g) (hg : IsB g) (hl : ∀ ad, A = some ad → 0 < n → ad.block < W.heap.size) (re : c * 1 ≤ 140737488351232) :
    Calls Try.prog 9 #[.slice A n c] W fun e w' => e = .returned (.bool true) ∧ Below W.heap.size W w' := by
  by_cases hbig : n ≤ 2000
  · have hm := hid (zer_norm g hg n)
    have nb := norm_bd (tot g n)
    obtain ⟨nb, nb'⟩ := nb
    have hnat : ¬ ((n : Int) > 2000) := by omega
    go_enter Try.func9, Try.ntmps9
    go_wp2_with fail
    refine (known_any _).mono ?_
    rintro e w ⟨rfl, hb1⟩
    have hs := h.below hb1 (Nat.le_refl _)
    go_wp2_with fail
    go_loop [3, 4] (fun z i => ∃ k : Nat, k ≤ n ∧ i = .int .i64 k ∧ z = .bool (zer g k)) (fun _ i => n - (intOf i).toNat)
    case atStart => exact ⟨0, by omega, rfl, rfl⟩
    case round =>
      obtain ⟨k, hk, rfl, rfl⟩ := hrel
      by_cases hlt : k < n
      · obtain ⟨b, off, rfl, hblt, hcell⟩ := hs (by omega)
        have hc0 : w.cell? ⟨b, off + k, none⟩ = some (.int .u8 (g k)) := hcell _ (by omega)
        have hz : zer g (k + 1) = (zer g k && (g k == 0)) := rfl
        have HZ := hid hz
        have i1 : (k : Int) < n := by omega
        clear hz hcell hs h
        generalize zer g k = z at *
        cases z
        all_goals
          go_wp2_with fail
          go_round
          case rel => exact ⟨k + 1, by omega, by go_num, by rw [HZ.out]; rfl⟩
          case measure => simp [intOf]; omega
      · have e : zer g n = zer g k := by rw [show n = k from by omega]
        rw [← e]
        have i1 : ¬ (k : Int) < n := by omega
        clear e
        go_wp2_with fail
        refine (add_any _ _ _ _ _ hs hg (by omega)).mono ?_
        rintro e w2 ⟨rfl, k2, rfl⟩
        generalize hx : norm (tot g n) = x at *
        generalize zer g n = z at *
        have hxx := hid hx
        have hm' := hm.out
        clear hm hx
        cases z
        all_goals
          go_wp2_with fail
          refine (re_i64 (of_any _ _ _ _ _ (by exact hs.drewN _) hg (by omega)) (by rw [hxx.out])).mono ?_
          rintro e w2 ⟨rfl, k3, rfl⟩
          go_wp2_with fail
          refine (re_bool (right_any _ _ _ _ _ (by exact hs.drewN _) hg (by omega)) (by rw [hxx.out])).mono ?_
          rintro e w2 ⟨rfl, k4, rfl⟩
          cases hr : (x == 65535)
          all_goals
            go_wp2
            go_ret
            exact ⟨rfl, below_drewN hb1 _⟩
  · have hnat : ((n : Int) > 2000) := by omega
    go_enter Try.func9, Try.ntmps9
    go_wp2_with fail
    refine (known_any _).mono ?_
    rintro e w ⟨rfl, hb1⟩
    go_wp2
    go_ret
    exact ⟨rfl, hb1⟩

set_option maxRecDepth 100000 in
theorem lifted (os : Os) (started : os.Started) (H : Type) (enc : TypeId × Value → H) :
    ReturnsInHanded {} Try.checked os 9 .any (Rows.sumBoundsSpec.pre6 enc Try.prog Try.f9 [] false) (Rows.sumBoundsSpec.post enc Try.prog Try.f9 false true false false) :=
  law_step (s := Rows.sumBoundsSpec) started (by kernel_rfl) Try.func9
    (ChangeSpec.witness6 (s := Rows.sumBoundsSpec) (enc := enc) (C := Try.checked) false ⟨#[], #[.slice none 0 0], []⟩ 8 (by kernel_rfl) (by kernel_rfl) (by kernel_rfl) (by kernel_rfl))
    rfl (by rw [Try.params9]; decide +kernel) rfl Try.underlying4
    (fun ds h => by
      rw [Try.params9] at h
      match ds, h with
      | [_], _ => rfl)
    (fun W base args ds ps hval hA hsz => by
      rw [Try.params9] at hA hval hsz
      obtain ⟨v0, vs0, d0, ds0, p0, q0, hargs, rfl, rfl, h0, r0⟩ := trodAll_cons hA
      obtain ⟨rfl, rfl, rfl⟩ := trodAll_nil r0
      obtain rfl : args = #[v0] := by cases args; simp_all
      obtain ⟨A0, n0, c0, g0, rfl, hn0, hc0, hs0, hw0, hl0, hd0⟩ := open_row Try.underlying22 Try.underlying5 (by kernel_rfl) (hval 0 22 v0 rfl rfl) h0
      have re0 : c0 * 1 ≤ 140737488351232 := by
        rcases hd0 with ⟨_, h0⟩ | ⟨xs, ys, h1, h2⟩
        · omega
        · have := sized_slice hsz (j := 0) (t := 22) (e := 5) rfl (by rw [h1]; rfl) Try.underlying22
          rw [h2, show Try.prog.bytesOf 5 = 1 from by kernel_rfl] at this
          simpa [reachBytes] using this
      exact walk W A0 n0 c0 g0 hn0 hc0 hs0 (fun j => bounds_u8 (hw0 j)) hl0 re0)

theorem proved : Rows.SumBoundsSaid :=
  OpenClaim.holds_of_wide 9 Try.f9 rfl rfl rfl rfl rfl rfl rfl ⟨rfl, rfl, rfl, rfl, rfl⟩ rfl rfl rfl rfl rfl (by kernel_rfl) Try.func9 (by kernel_rfl)
    (of_decide_eq_true (by kernel_rfl)) (by unfold Func.isWrapper; first | (rw [if_pos (by decide +kernel)]; kernel_rfl) | (rw [if_neg (by decide +kernel)]; exact ⟨rfl, rfl⟩))
    (fun os started H enc _ => lifted os started H enc)
end Go.Proofs.Ythjagmmkkfeffaa.sumBounds
