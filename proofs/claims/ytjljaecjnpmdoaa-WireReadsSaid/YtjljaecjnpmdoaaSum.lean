/- What package sum's functions answer. -/
import Derived.Test.YtjljaecjnpmdoaaBase
import Derived.Test.YtjljaecjnpmdoaaSumMath
import Derived.ScopeJumps
import Derived.WalkMore
namespace Go.Proofs.Ytjljaecjnpmdoaa
set_option linter.unusedVariables false
open Go.RowKit

theorem plus_any (a b : Int) (w : World) (ha : 0 ≤ a) (ha' : a ≤ 65535) (hb : 0 ≤ b) (hb' : b ≤ 65535) :
    Calls Try.prog 67 #[.int .i64 a, .int .i64 b] w fun e w' => e = .returned (.int .i64 (plus a b)) ∧ w = w' := by
  go_enter Try.func67, Try.ntmps67
  go_wp2
  · go_ret
    refine ⟨?_, rfl⟩
    unfold plus
    rw [if_pos (by omega)]
    rfl
  · go_ret
    refine ⟨?_, rfl⟩
    unfold plus
    rw [if_neg (by omega)]
    rfl

theorem or_shift (a b : Int) (ha : 0 ≤ a) (ha' : a ≤ 255) (hb : 0 ≤ b) (hb' : b ≤ 255) : bits .or .i64 (a * 256) b = a * 256 + b := by
  obtain ⟨x, rfl⟩ := Int.eq_ofNat_of_zero_le ha
  obtain ⟨y, rfl⟩ := Int.eq_ofNat_of_zero_le hb
  have e : ((x : Int) * 256) = ((x * 256 : Nat) : Int) := by omega
  have hor : x * 256 ||| y = x * 256 + y := by
    rw [Nat.mul_comm, show (256 : Nat) = 2 ^ 8 from rfl, Nat.two_pow_add_eq_or_of_lt (by omega)]
  rw [e]
  show IntKind.i64.wrap ((BitVec.ofInt 64 ((x * 256 : Nat) : Int) ||| BitVec.ofInt 64 ((y : Nat) : Int)).toNat : Int) = _
  rw [BitVec.toNat_or, BitVec.ofInt_natCast, BitVec.ofInt_natCast, BitVec.toNat_ofNat, BitVec.toNat_ofNat, Nat.mod_eq_of_lt (by omega), Nat.mod_eq_of_lt (by omega), hor, IntKind.wrap_i64]
  omega

theorem pair_any (a b : Int) (w : World) (ha : 0 ≤ a) (ha' : a ≤ 255) (hb : 0 ≤ b) (hb' : b ≤ 255) :
    Calls Try.prog 68 #[.int .u8 a, .int .u8 b] w fun e w' => e = .returned (.int .i64 (a * 256 + b)) ∧ w = w' := by
  have h := or_shift a b ha ha' hb hb'
  go_enter Try.func68, Try.ntmps68
  go_wp2
  go_ret
  exact ⟨rfl, rfl⟩

theorem turn_any (s a b : Int) (w : World) (hs : 0 ≤ s) (hs' : s ≤ 65535) (ha : 0 ≤ a) (ha' : a ≤ 65535) (hb : 0 ≤ b) (hb' : b ≤ 65535) :
    Calls Try.prog 66 #[.int .i64 s, .int .i64 a, .int .i64 b] w fun e w' => e = .returned (.int .i64 (turn s a b)) ∧ w = w' := by
  have h1 := plus_bd (65535 - a) b (by omega) (by omega) hb hb'
  have h2 := plus_bd (65535 - s) (plus (65535 - a) b) (by omega) (by omega) h1.1 h1.2
  obtain ⟨h1a, h1b⟩ := h1
  obtain ⟨h2a, h2b⟩ := h2
  go_enter Try.func66, Try.ntmps66
  go_wp2_with fail
  refine (plus_any _ _ _ (by omega) (by omega) hb hb').mono ?_
  rintro e w' ⟨rfl, rfl⟩
  go_wp2_with fail
  refine (plus_any _ _ _ (by omega) (by omega) h1a h1b).mono ?_
  rintro e w' ⟨rfl, rfl⟩
  go_wp2
  go_ret
  exact ⟨rfl, rfl⟩

def AddAt (w : World) (A : Option Addr) (n c : Nat) (g : Nat → Int) (a' : Act) (w' : World) : Prop :=
  (∃ k, w' = w.drewN k) ∧ ∃ (p : Nat) (u5 u6 u7 u8 u9 u10 u11 u12 u13 u14 u15 u16 u17 u18 u19 u20 u21 u22 u23 u24 u25 u26 u27 u28 u29 u30 u31 u32 u33 u34 u35 : Value), a' = { tmps := #[.slice A n c, undef, .int .i64 0, .int .i64 (norm (tot g (2 * p))), .int .i64 ((2 * p : Nat) : Int), u5, u6, u7, u8, u9, u10, u11, u12, u13, u14, u15, u16, u17, u18, u19, u20, u21, u22, u23, u24, u25, u26, u27, u28, u29, u30, u31, u32, u33, u34, u35], defers := [] } ∧ 2 * p ≤ n

/-- A scope whose label is met from ahead and by jumps back: the code behind the label is walked once. -/
theorem wp_scope_lead {P : Program} {a : Act} {w : World} {Q : Exit → Act → World → Prop} {c X : Code} (l : Nat) (J : Act → World → Prop) (μ : Act → World → Nat) (hf : findLabel c l = some (Code.skip.seq X))
    (start : ∀ Q' : Exit → Act → World → Prop, (∀ a w, J a w → X.wp P Q' a w) → c.wp P Q' a w)
    (pass : ∀ a w, J a w → X.wp P (Exit.jump l (fun a' w' => J a' w' ∧ μ a' w' < μ a w) Q) a w) : (Code.scope c).wp P Q a w :=
  wp_scope_jumps l J μ hf (start _ (fun a w hJ => wp_mono (pass a w hJ) (by
    intro e a w h
    cases e with
    | goto l' => exact ⟨h.1, h.2.1⟩
    | _ => exact h))) (fun a w hJ => wp_seq (wp_skip (pass a w hJ)))

theorem add_any (A : Option Addr) (n c : Nat) (g : Nat → Int) (w : World) (h : By w A n g) (hg : IsB g) (hn : n ≤ 140737488355328) :
    Calls Try.prog 64 #[.slice A n c] w fun e w' => e = .returned (.int .i64 (norm (tot g n))) ∧ ∃ k, w' = w.drewN k := by

  go_enter Try.func64, Try.ntmps64
  go_wp2
  refine wp_scope_lead 0 (AddAt w A n c g) (fun a' _ => n - (intOf (a'.tmps.getD 4 undef)).toNat) rfl ?_ ?_
  · intro Q' hQ
    have HQ := hid hQ
    clear hQ
    go_wp2
    go_step3
    simp only [Exit.then]
    refine (by assumption : ∀ a w, _ → _) _ _ ?_
    exact HQ.out _ _ ⟨⟨0, rfl⟩, 0, undef, undef, undef, undef, undef, undef, undef, undef, undef, undef, undef, undef, undef, undef, undef, undef, undef, undef, undef, undef, undef, undef, undef, undef, undef, undef, undef, undef, undef, undef, undef, rfl, by omega⟩
  · rintro a' w' ⟨⟨k, rfl⟩, p, u5, u6, u7, u8, u9, u10, u11, u12, u13, u14, u15, u16, u17, u18, u19, u20, u21, u22, u23, u24, u25, u26, u27, u28, u29, u30, u31, u32, u33, u34, u35, rfl, hp⟩
    have hb0 := hg (2 * p)
    have hb1 := hg (2 * p + 1)
    have hnm := norm_bd (tot g (2 * p))
    obtain ⟨hb0a, hb0b⟩ := hb0
    obtain ⟨hb1a, hb1b⟩ := hb1
    obtain ⟨hna, hnb⟩ := hnm
    by_cases h1 : 2 * p + 1 < n
    · obtain ⟨b, off, rfl, hlt, hc⟩ := h (by omega)
      have hc0 : w.cell? ⟨b, off + (2 * (p : Int)).toNat, none⟩ = some (.int .u8 (g (2 * p))) := by
        rw [show (2 * (p : Int)).toNat = 2 * p from by omega]; exact hc _ (by omega)
      have hc1 : w.cell? ⟨b, off + (2 * (p : Int) + 1).toNat, none⟩ = some (.int .u8 (g (2 * p + 1))) := by
        rw [show (2 * (p : Int) + 1).toNat = 2 * p + 1 from by omega]; exact hc _ (by omega)
      clear hc h
      have ht : decide (2 * (p : Int) + 1 < n) = true := by simp; omega
      have e1 : ((2 * p : Nat) : Int) = 2 * (p : Int) := by omega
      rw [e1]
      clear e1
      have i0 : 0 ≤ 2 * (p : Int) := by omega
      have i1 : 2 * (p : Int) < n := by omega
      have i2 : 0 ≤ 2 * (p : Int) + 1 := by omega
      have i3 : 2 * (p : Int) + 1 < n := by omega
      have i4 : IntKind.i64.wrap (2 * (p : Int) + 1) = 2 * (p : Int) + 1 := IntWalk.i64_in _ (by omega)
      go_wp2
      go_quiet ((first | (go_at_call 68; exact q1p (pair_any _ _ _ hb0a hb0b hb1a hb1b)) | (go_at_call 67; exact q1p (plus_any _ _ _ hna hnb (by omega) (by omega)))))
      clear i4
      go_wp2
      go_step3
      have e2 : plus (norm (tot g (2 * p))) (g (2 * p) * 256 + g (2 * p + 1)) = norm (tot g (2 * (p + 1))) := by
        rw [plus_norm _ _ (tot_nonneg g hg _) (by omega) (by omega), Nat.mul_add, tot_pair]
      have e3 : 2 * (p : Int) + 2 = ((2 * (p + 1) : Nat) : Int) := by omega
      rw [e2, e3]
      refine ⟨rfl, ⟨⟨_, rfl⟩, p + 1, _, _, _, _, _, _, _, _, _, _, _, _, _, _, _, _, _, _, _, _, _, _, _, _, _, _, _, _, _, _, _, rfl, by omega⟩, ?_⟩
      simp [intOf]
      omega
    · have ht : decide (2 * (p : Int) + 1 < n) = false := by simp; omega
      have e1 : ((2 * p : Nat) : Int) = 2 * (p : Int) := by omega
      by_cases h2 : 2 * p < n
      · have ht2 : decide (2 * (p : Int) < n) = true := by simp; omega
        have i1 : 2 * (p : Int) < n := by omega
        have i0 : 0 ≤ 2 * (p : Int) := by omega
        obtain ⟨b, off, rfl, hlt, hc⟩ := h (by omega)
        have hc0 : w.cell? ⟨b, off + 2 * p, none⟩ = some (.int .u8 (g (2 * p))) := hc _ (by omega)
        clear hc h
        rw [e1]
        clear e1
        have hfin : norm (tot g n) = plus (norm (tot g (2 * p))) (g (2 * p) * 256) := by
          rw [show n = 2 * p + 1 from by omega, plus_norm _ _ (tot_nonneg g hg _) (by omega) (by omega), tot_last]
        have HF := hid hfin
        clear hfin
        go_wp2_with fail
        refine (pair_any _ _ _ hb0a hb0b (by omega) (by omega)).mono ?_
        rintro e w' ⟨rfl, rfl⟩
        go_wp2_with fail
        refine (plus_any _ _ _ hna hnb (by omega) (by omega)).mono ?_
        rintro e w' ⟨rfl, rfl⟩
        go_wp2
        simp only [Exit.jump]
        go_ret
        exact ⟨ret_i64 HF.out.symm, _, rfl⟩
      · have ht2 : decide (2 * (p : Int) < n) = false := by simp; omega
        rw [e1]
        clear e1
        have hfin : norm (tot g n) = norm (tot g (2 * p)) := by rw [show n = 2 * p from by omega]
        have HF := hid hfin
        clear hfin
        go_wp2
        simp only [Exit.jump]
        go_ret
        exact ⟨ret_i64 HF.out.symm, _, rfl⟩

theorem of_any (A : Option Addr) (n c : Nat) (g : Nat → Int) (w : World) (h : By w A n g) (hg : IsB g) (hn : n ≤ 140737488355328) :
    Calls Try.prog 37 #[.slice A n c] w fun e w' => e = .returned (.int .i64 (65535 - norm (tot g n))) ∧ ∃ k, w' = w.drewN k := by
  have hb := norm_bd (tot g n)
  obtain ⟨h1, h2⟩ := hb
  go_enter Try.func37, Try.ntmps37
  go_wp2_with fail
  refine (add_any _ _ _ _ _ h hg hn).mono ?_
  rintro e w' ⟨rfl, k, rfl⟩
  go_wp2
  go_ret
  exact ⟨rfl, k, rfl⟩

theorem right_any (A : Option Addr) (n c : Nat) (g : Nat → Int) (w : World) (h : By w A n g) (hg : IsB g) (hn : n ≤ 140737488355328) :
    Calls Try.prog 51 #[.slice A n c] w fun e w' => e = .returned (.bool (norm (tot g n) == 65535)) ∧ ∃ k, w' = w.drewN k := by
  go_enter Try.func51, Try.ntmps51
  go_wp2_with fail
  refine (add_any _ _ _ _ _ h hg hn).mono ?_
  rintro e w' ⟨rfl, k, rfl⟩
  go_wp2
  all_goals go_ret
  all_goals exact ⟨rfl, k, rfl⟩
end Go.Proofs.Ytjljaecjnpmdoaa
