/- roundhouselaw1.SumParts answers true for every row of bytes and two numbers; no condition. -/
import Derived.Test.YthjagmmkkfeffaaSumLaw
import Derived.Test.YthjagmmkkfeffaaZeros
import Derived.Deep.DeepCutAuto
namespace Go.Proofs.Ythjagmmkkfeffaa.sumParts
set_option linter.unusedVariables false
open Go.RowKit Go.ChangeShapes Go.WideShapes Go.ChangeAt

/-- The second row's bytes. -/
def yv (e k : Nat) (g : Nat → Int) : Nat → Int := fun j => if j < e - k then g (k + j) else g (j - (e - k))
/-- The first row's bytes: those from k on, then noughts. -/
def xv (m k : Nat) (g : Nat → Int) : Nat → Int := fun j => if j < m then g (k + j) else 0
theorem yv_b {g : Nat → Int} (hg : IsB g) (e k : Nat) : IsB (yv e k g) := fun j => by unfold yv; split <;> exact hg _
theorem xv_b {g : Nat → Int} (hg : IsB g) (m k : Nat) : IsB (xv m k g) := fun j => by
  unfold xv
  split
  · exact hg _
  · exact ⟨by omega, by omega⟩
theorem shift_b {g : Nat → Int} (hg : IsB g) (k : Nat) : IsB (fun j => g (k + j)) := fun j => hg _
theorem tot_x (g : Nat → Int) (m k r : Nat) : tot (xv m k g) (m + r) = tot (fun j => g (k + j)) m := by
  rw [tot_noughts _ _ _ (fun j h1 h2 => by unfold xv; rw [if_neg (by omega)])]
  exact tot_ext _ _ _ fun j hj => by unfold xv; rw [if_pos hj]
theorem tot_y (g : Nat → Int) (q p : Nat) (h : p ≤ q) : tot (yv (2 * q) (2 * p) g) (2 * q) = tot g (2 * q) := by
  have e1 : 2 * q = 2 * (q - p) + 2 * p := by omega
  have h1 := tot_split (yv (2 * q) (2 * p) g) (q - p) (2 * p)
  have h2 := tot_split g p (2 * q - 2 * p)
  rw [← e1] at h1
  rw [show 2 * p + (2 * q - 2 * p) = 2 * q from by omega] at h2
  rw [h1, h2, tot_ext (yv (2 * q) (2 * p) g) (fun j => g (2 * p + j)) (2 * (q - p)) (fun j hj => by unfold yv; rw [if_pos (by omega)]),
    tot_ext (fun j => yv (2 * q) (2 * p) g (2 * (q - p) + j)) g (2 * p) (fun j hj => by simp only [yv]; rw [if_neg (by omega)]; congr 1; omega), show 2 * (q - p) = 2 * q - 2 * p from by omega]
  omega

set_option maxHeartbeats 2000000 in
theorem walk (W : World) (A : Option Addr) (n c : Nat) (g : Nat → Int) (hn : n ≤ c) (hc : c ≤ maxLen) (h : By W A n g) (hg : IsB g) (hl : ∀ ad, A = some ad → 0 < n → ad.block < W.heap.size) (re : c * 1 ≤ 140737488351232)
    (cut : Int) (rcut : -9223372036854775808 ≤ cut ∧ cut ≤ 9223372036854775807) (m0 : Int) (rm : -9223372036854775808 ≤ m0 ∧ m0 ≤ 9223372036854775807) :
    Calls Try.prog 8 #[.slice A n c, .int .i64 cut, .int .i64 m0] W fun e w' => e = .returned (.bool true) ∧ Below W.heap.size W w' := by
  by_cases hbig : n ≤ 1000
  · have t1 : decide ((n : Int) > 1000) = false := by simp; omega
    have b0 := wi_bd cut ((n : Int) / 2 + 1) (by omega)
    go_enter Try.func8, Try.ntmps8
    go_wp2_with fail
    refine (known_any _).mono ?_
    rintro e w ⟨rfl, hb1⟩
    have hs := h.below hb1 (Nat.le_refl _)
    go_wp2_with fail
    refine (within_any cut ((n : Int) / 2 + 1) _ (by omega) (by omega)).mono ?_
    rintro e w2 ⟨rfl, rfl⟩
    obtain ⟨p, hp⟩ := Int.eq_ofNat_of_zero_le b0.1
    rw [hp]
    rw [hp] at b0
    clear hp
    obtain ⟨q, hq⟩ : ∃ q, q = n / 2 := ⟨_, rfl⟩
    have hpq : p ≤ q := by omega
    have hqn : 2 * q ≤ n := by omega
    have e1 : (n : Int) / 2 * 2 = ((2 * q : Nat) : Int) := by omega
    clear b0 hq
    have b1 := wi_bd m0 9 (by omega)
    obtain ⟨r, hr⟩ := Int.eq_ofNat_of_zero_le b1.1
    rw [hr] at b1
    have hr9 : r < 9 := by omega
    clear b1
    have HR := hid hr
    clear hr
    obtain ⟨A1, k1, S1⟩ := cut_from_b A n c (2 * p) (by omega) hn ((p : Int) * 2) (by omega)
    obtain ⟨A2, k2, S2⟩ := cut_from_b A (2 * q) c (2 * p) (by omega) (by omega) ((p : Int) * 2) (by omega)
    have s1 := S1 w g hs
    have s2 := S2 w g (hs.less hqn)
    clear S1 S2
    go_wp2_with (first
        | (at_builtin
           refine wp_app_b0 rfl (.tmp 23) (.tmp 26) rfl w.heap.size (.slice (some ⟨w.heap.size, 0, none⟩) 0 0) rfl (fun _ => Ow.new (Nat.le_refl _)) A1 (n - 2 * p) (c - 2 * p) (fun j => g (2 * p + j)) rfl (s1.alloc _) (by omega) (by simp) ?_
           intro A3 c3 w3 o3 hc3 hm3 hb3 hg3 ho3
           have hb3' : Below w.heap.size w w3 := ((Below.refl _ _).alloc (Nat.le_refl _) _).trans hb3)
        | (go_at_call 21
           refine (re_i64 (within_any m0 9 _ (by omega) (by omega)) HR.out).mono ?_
           rintro e w2 ⟨rfl, rfl⟩)
        | (at_builtin
           refine wp_zeros rfl (.tmp 27) (.tmp 30) rfl w.heap.size (.slice A3 (n - 2 * p) c3) (n - 2 * p) (fun j => g (2 * p + j)) rfl o3 (2 * r) (by simp [Act.eval]; omega) (by omega) hb3'.size ?_
           intro A4 c4 w4 o4 hc4 hm4 hb4 hg4 ho4
           have hb4' : Below w.heap.size w w4 := hb3'.trans hb4))
    have hmin : ¬ (2 * (q : Int) < (p : Int) * 2) := by omega
    have hm2 : ((p : Int) * 2).toNat = 2 * p := by omega
    have hb0 : 0 ≤ (p : Int) * 2 := by omega
    have hb9 : (p : Int) * 2 ≤ c := by omega
    have s2' := s2.below hb4' (Nat.le_refl _)
    have s5' := (hs.less (show 2 * p ≤ n by omega)).below hb4' (Nat.le_refl _)
    go_cut [10] (fun y wx => ∃ A6 c6, y = .slice A6 (2 * q) c6 ∧ Below w4.heap.size w4 wx ∧ By wx A6 (2 * q) (yv (2 * q) (2 * p) g))
    case first =>
      go_region_law (first
        | (refine step_app_b0 rfl (.tmp 38) (.tmp 44) rfl w4.heap.size (.slice (some ⟨w4.heap.size, 0, none⟩) 0 0) (by simp [Act.eval, Act.put]) (fun _ => Ow.drew (Ow.new (Nat.le_refl _))) A2 (2 * q - 2 * p) (c - 2 * p) (fun j => g (2 * p + j)) (by simp [Act.eval, Act.put]) (s2'.alloc _).drew (by omega) (by simp) ?_
           intro A5 c5 w5 o5 hc5 hm5 hb5 hg5 ho5
           have hb5' : Below w4.heap.size w4 w5 := ((Below.refl _ _).alloc (Nat.le_refl _) _).drew.trans hb5)
        | (refine step_app_b rfl (.tmp 45) (.tmp 51) rfl w4.heap.size (.slice A5 (2 * q - 2 * p) c5) (2 * q - 2 * p) (fun j => g (2 * p + j)) (by simp [Act.eval, Act.put]) o5 A (2 * p) c g (by simp [Act.eval, Act.put]) (s5'.below hb5' (Nat.le_refl _)) (by omega) hb5'.size ?_
           intro A6 c6 w6 o6 hc6 hm6 hb6 hg6 ho6
           have hb6' : Below w4.heap.size w4 w6 := hb5'.trans hb6))
      all_goals
        go_wp2_with fail
        go_meet
        have S6 := o6.sl1
        rw [show 2 * q - 2 * p + 2 * p = 2 * q from by omega] at S6 ⊢
        exact ⟨_, _, rfl, hb6', S6⟩
    case rest =>
      obtain ⟨A6, c6, rfl, hb6', S6⟩ := hcut
      generalize hw6 : wc = w6 at *
      clear hw6
      have hb46 : Below w.heap.size w w6 := hb4'.trans (hb6'.mono hb4'.size)
      have S := hs.below hb46 (Nat.le_refl _)
      have SE := (hs.less hqn).below hb46 (Nat.le_refl _)
      have SP := (hs.less (show 2 * p ≤ n by omega)).below hb46 (Nat.le_refl _)
      have S1 := s1.below hb46 (Nat.le_refl _)
      have S4 : By w6 A4 (n - 2 * p + 2 * r) (xv (n - 2 * p) (2 * p) g) := o4.sl1.below hb6' (Nat.le_refl _)
      have gx := shift_b hg (2 * p)
      obtain ⟨a1, h1⟩ : ∃ a, a = norm (tot (fun j => g (2 * p + j)) (n - 2 * p)) := ⟨_, rfl⟩
      obtain ⟨a3, h3⟩ : ∃ a, a = norm (tot g (2 * q)) := ⟨_, rfl⟩
      obtain ⟨a5, h5⟩ : ∃ a, a = norm (tot g (2 * p)) := ⟨_, rfl⟩
      obtain ⟨a7, h7⟩ : ∃ a, a = norm (tot g n) := ⟨_, rfl⟩
      have hp1 : plus a5 a1 = a7 := by
        rw [h5, h1, h7, norm_plus _ _ (tot_nonneg g hg _) (tot_nonneg _ gx _), ← tot_split, show 2 * p + (n - 2 * p) = n from by omega]
      have K1 := hid (fun k => q0q (re_i64 (b := a1) (add_any A4 (n - 2 * p + 2 * r) c4 _ (w6.drewN k) (S4.drewN _) (xv_b hg _ _) (by omega)) (by rw [tot_x, h1])))
      have K2 := hid (fun k => q0q (re_i64 (b := a1) (add_any A1 (n - 2 * p) (c - 2 * p) _ (w6.drewN k) (S1.drewN _) gx (by omega)) h1.symm))
      have K3 := hid (fun k => q0q (re_i64 (b := a3) (add_any A6 (2 * q) c6 _ (w6.drewN k) (S6.drewN _) (yv_b hg _ _) (by omega)) (by rw [tot_y g q p hpq, h3])))
      have K4 := hid (fun k => q0q (re_i64 (b := a3) (add_any A (2 * q) c _ (w6.drewN k) (SE.drewN _) hg (by omega)) h3.symm))
      have K5 := hid (fun k => q0q (re_i64 (b := a5) (add_any A (2 * p) c _ (w6.drewN k) (SP.drewN _) hg (by omega)) h5.symm))
      have K7 := hid (fun k => q0q (re_i64 (b := a7) (add_any A n c _ (w6.drewN k) (S.drewN _) hg (by omega)) h7.symm))
      have b1 := norm_bd (tot (fun j => g (2 * p + j)) (n - 2 * p))
      have b5 := norm_bd (tot g (2 * p))
      rw [← h1] at b1
      rw [← h5] at b5
      have K6 := hid (fun k => q0p (re_i64 (b := a7) (plus_any a5 a1 (w6.drewN k) b5.1 b5.2 b1.1 b1.2) hp1))
      clear h1 h3 h5 h7 hp1 b1 b5 S S1 S4 S6 SE SP gx s1 s2 hs h s2' s5' o3 o4
      go_wp2_with fail
      go_quiet ((first
        | with_reducible exact K1.out _
        | with_reducible exact K2.out _
        | with_reducible exact K3.out _
        | with_reducible exact K4.out _
        | with_reducible exact K5.out _
        | with_reducible exact K6.out _
        | with_reducible exact K7.out _))
      go_wp2
      go_ret
      exact ⟨rfl, below_drewN (hb1.trans (hb46.mono hb1.size)) _⟩
  · have t1 : decide ((n : Int) > 1000) = true := by simp; omega
    go_enter Try.func8, Try.ntmps8
    go_wp2_with fail
    refine (known_any _).mono ?_
    rintro e w ⟨rfl, hb1⟩
    go_wp2
    go_ret
    exact ⟨rfl, hb1⟩

set_option maxRecDepth 100000 in
theorem lifted (os : Os) (started : os.Started) (H : Type) (enc : TypeId × Value → H) :
    ReturnsInHanded {} Try.checked os 8 .any (Rows.sumPartsSpec.pre6 enc Try.prog Try.f8 [] false) (Rows.sumPartsSpec.post enc Try.prog Try.f8 false true false false) :=
  law_step (s := Rows.sumPartsSpec) started (by kernel_rfl) Try.func8
    (ChangeSpec.witness6 (s := Rows.sumPartsSpec) (enc := enc) (C := Try.checked) false ⟨#[], #[.slice none 0 0, .int .i64 0, .int .i64 0], []⟩ 8 (by kernel_rfl) (by kernel_rfl) (by kernel_rfl) (by kernel_rfl))
    rfl (by rw [Try.params8]; decide +kernel) rfl Try.underlying4
    (fun ds h => by
      rw [Try.params8] at h
      match ds, h with
      | [_, _, _], _ => rfl)
    (fun W base args ds ps hval hA hsz => by
      rw [Try.params8] at hA hval hsz
      obtain ⟨v0, vs0, d0, ds0, p0, q0, hargs, rfl, rfl, h0, r0⟩ := trodAll_cons hA
      obtain ⟨v1, vs1, d1, ds1, p1, q1, rfl, rfl, rfl, h1, r1⟩ := trodAll_cons r0
      obtain ⟨v2, vs2, d2, ds2, p2, q2, rfl, rfl, rfl, h2, r2⟩ := trodAll_cons r1
      obtain ⟨rfl, rfl, rfl⟩ := trodAll_nil r2
      obtain rfl : args = #[v0, v1, v2] := by cases args; simp_all
      obtain ⟨A0, n0, c0, g0, rfl, hn0, hc0, hs0, hw0, hl0, hd0⟩ := open_row Try.underlying22 Try.underlying5 (by kernel_rfl) (hval 0 22 v0 rfl rfl) h0
      have re0 : c0 * 1 ≤ 140737488351232 := by
        rcases hd0 with ⟨_, h0⟩ | ⟨xs, ys, h1, h2⟩
        · omega
        · have := sized_slice hsz (j := 0) (t := 22) (e := 5) rfl (by rw [h1]; rfl) Try.underlying22
          rw [h2, show Try.prog.bytesOf 5 = 1 from by kernel_rfl] at this
          simpa [reachBytes] using this
      obtain ⟨a1, rfl, rfl, rfl, w1⟩ := open_int Try.underlying3 (hval 1 3 v1 rfl rfl) h1
      obtain ⟨a2, rfl, rfl, rfl, w2⟩ := open_int Try.underlying3 (hval 2 3 v2 rfl rfl) h2
      exact walk W A0 n0 c0 g0 hn0 hc0 hs0 (fun j => bounds_u8 (hw0 j)) hl0 re0 a1 (bounds_i64 w1) a2 (bounds_i64 w2))

theorem proved : Rows.SumPartsSaid :=
  OpenClaim.holds_of_wide 8 Try.f8 rfl rfl rfl rfl rfl rfl rfl ⟨rfl, rfl, rfl, rfl, rfl⟩ rfl rfl rfl rfl rfl (by kernel_rfl) Try.func8 (by kernel_rfl)
    (of_decide_eq_true (by kernel_rfl)) (by unfold Func.isWrapper; first | (rw [if_pos (by decide +kernel)]; kernel_rfl) | (rw [if_neg (by decide +kernel)]; exact ⟨rfl, rfl⟩))
    (fun os started H enc _ => lifted os started H enc)
end Go.Proofs.Ythjagmmkkfeffaa.sumParts
