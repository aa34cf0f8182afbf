/- What the document's sums, said a second time, answer. -/
import Derived.Test.YtjljaecjnpmdoaaSum
namespace Go.Proofs.Ytjljaecjnpmdoaa
set_option linter.unusedVariables false
open Go.RowKit

theorem rplus_any (a b : Int) (w : World) (ha : 0 ≤ a) (ha' : a ≤ 65535) (hb : 0 ≤ b) (hb' : b ≤ 65535) :
    Calls Try.prog 65 #[.int .i64 a, .int .i64 b] w fun e w' => e = .returned (.int .i64 (plus a b)) ∧ w = w' := by
  go_enter Try.func65, Try.ntmps65
  go_wp2
  · go_ret
    refine ⟨?_, rfl⟩
    unfold plus
    rw [if_pos (by omega)]
    rfl
  · go_ret
    refine ⟨?_, rfl⟩
    unfold plus
    rw [if_neg (by omega)]
    rfl

theorem rturn_any (s a b : Int) (w : World) (hs : 0 ≤ s) (hs' : s ≤ 65535) (ha : 0 ≤ a) (ha' : a ≤ 65535) (hb : 0 ≤ b) (hb' : b ≤ 65535) :
    Calls Try.prog 56 #[.int .i64 s, .int .i64 a, .int .i64 b] w fun e w' => e = .returned (.int .i64 (turn s a b)) ∧ w = w' := by
  have h1 := plus_bd (65535 - s) (65535 - a) (by omega) (by omega) (by omega) (by omega)
  have h2 := plus_bd (plus (65535 - s) (65535 - a)) b h1.1 h1.2 hb hb'
  have ht := hid (turn_other s a b hs hs' ha ha' hb hb')
  obtain ⟨h1a, h1b⟩ := h1
  obtain ⟨h2a, h2b⟩ := h2
  go_enter Try.func56, Try.ntmps56
  go_wp2_with fail
  refine (rplus_any _ _ _ (by omega) (by omega) (by omega) (by omega)).mono ?_
  rintro e w' ⟨rfl, rfl⟩
  go_wp2_with fail
  refine (rplus_any _ _ _ h1a h1b hb hb').mono ?_
  rintro e w' ⟨rfl, rfl⟩
  go_wp2
  go_ret
  exact ⟨ret_i64 ht.out, rfl⟩

theorem radd_any (A : Option Addr) (n c : Nat) (g : Nat → Int) (w : World) (h : By w A n g) (hg : IsB g) (hn : n ≤ 140737488355328) :
    Calls Try.prog 52 #[.slice A n c] w fun e w' => e = .returned (.int .i64 (norm (tot g n))) ∧ w = w' := by

  go_enter Try.func52, Try.ntmps52
  go_wp2
  go_loop [3, 4, 5] (fun t i _ => ∃ p : Nat, 2 * p ≤ n + 1 ∧ i = .int .i64 (2 * (p : Int)) ∧ t = .int .i64 (norm (tot g (min (2 * p) n)))) (fun _ i _ => n + 1 - (intOf i).toNat)
  case atStart => exact ⟨0, by omega, rfl, by simp [tot, norm]⟩
  case round =>
    obtain ⟨p, hp2, rfl, rfl⟩ := hrel
    have hnm := norm_bd (tot g (min (2 * p) n))
    obtain ⟨hna, hnb⟩ := hnm
    have hb0 := hg (2 * p)
    have hb1 := hg (2 * p + 1)
    obtain ⟨hb0a, hb0b⟩ := hb0
    obtain ⟨hb1a, hb1b⟩ := hb1
    by_cases h0 : 2 * p < n
    · obtain ⟨b, off, rfl, hlt, hc⟩ := h (by omega)
      have hc0 : w.cell? ⟨b, off + 2 * p, none⟩ = some (.int .u8 (g (2 * p))) := hc _ (by omega)
      have i1 : 2 * (p : Int) < n := by omega
      by_cases h1 : 2 * p + 1 < n
      · have hc1 : w.cell? ⟨b, off + (2 * p + 1), none⟩ = some (.int .u8 (g (2 * p + 1))) := hc _ (by omega)
        have i3 : 2 * (p : Int) + 1 < n := by omega
        have hfin : norm (tot g (min (2 * (p + 1)) n)) = plus (norm (tot g (min (2 * p) n))) (g (2 * p) * 256 + g (2 * p + 1)) := by
          rw [Nat.min_eq_left (by omega), Nat.min_eq_left (by omega), plus_norm _ _ (tot_nonneg g hg _) (by omega) (by omega), Nat.mul_add, tot_pair]
        have HF := hid hfin
        clear hfin hc h
        go_wp2_with fail
        refine (rplus_any _ _ _ hna hnb (by omega) (by omega)).mono ?_
        rintro e w' ⟨rfl, rfl⟩
        go_wp2
        go_round
        case rel => exact ⟨p + 1, by omega, by go_num, by rw [HF.out]⟩
        case measure => simp [intOf]; omega
      · have hfin : norm (tot g (min (2 * (p + 1)) n)) = plus (norm (tot g (min (2 * p) n))) (g (2 * p) * 256) := by
          rw [Nat.min_eq_right (by omega), Nat.min_eq_left (by omega), show n = 2 * p + 1 from by omega, plus_norm _ _ (tot_nonneg g hg _) (by omega) (by omega), tot_last]
        have HF := hid hfin
        clear hfin hc h
        have i3 : ¬ 2 * (p : Int) + 1 < n := by omega
        go_wp2_with fail
        refine (rplus_any _ _ _ hna hnb (by omega) (by omega)).mono ?_
        rintro e w' ⟨rfl, rfl⟩
        go_wp2
        go_round
        case rel => exact ⟨p + 1, by omega, by go_num, by rw [HF.out]⟩
        case measure => simp [intOf]; omega
    · have hfin : norm (tot g n) = norm (tot g (min (2 * p) n)) := by rw [Nat.min_eq_right (by omega)]
      have HF := hid hfin
      clear hfin h
      have i1 : ¬ 2 * (p : Int) < n := by omega
      go_wp2
      go_ret
      exact ⟨ret_i64 HF.out.symm, rfl⟩

theorem rof_any (A : Option Addr) (n c : Nat) (g : Nat → Int) (w : World) (h : By w A n g) (hg : IsB g) (hn : n ≤ 140737488355328) :
    Calls Try.prog 23 #[.slice A n c] w fun e w' => e = .returned (.int .i64 (65535 - norm (tot g n))) ∧ w = w' := by
  have hb := norm_bd (tot g n)
  obtain ⟨h1, h2⟩ := hb
  go_enter Try.func23, Try.ntmps23
  go_wp2_with fail
  refine (radd_any _ _ _ _ _ h hg hn).mono ?_
  rintro e w' ⟨rfl, rfl⟩
  go_wp2
  go_ret
  exact ⟨rfl, rfl⟩

theorem rright_any (A : Option Addr) (n c : Nat) (g : Nat → Int) (w : World) (h : By w A n g) (hg : IsB g) (hn : n ≤ 140737488355328) :
    Calls Try.prog 33 #[.slice A n c] w fun e w' => e = .returned (.bool (norm (tot g n) == 65535)) ∧ w = w' := by
  go_enter Try.func33, Try.ntmps33
  go_wp2_with fail
  refine (radd_any _ _ _ _ _ h hg hn).mono ?_
  rintro e w' ⟨rfl, rfl⟩
  go_wp2
  all_goals go_ret
  all_goals exact ⟨rfl, rfl⟩
end Go.Proofs.Ytjljaecjnpmdoaa
