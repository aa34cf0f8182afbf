/- The reference's Check. -/
import Derived.Test.YtljgcffpijjliaaDoorPolChk2
import Derived.BigQuiet
import Derived.Deep.RegionHeld3
import Derived.Deep.Cut
namespace Go.Proofs.YtljgcffpijjliaaDoor
set_option linter.unusedVariables false
set_option linter.unusedSimpArgs false
open Go.RowKit Go.ChangeShapes Go.WideShapes Go.ChangeAt

theorem inR_not (k : Int) : (decide (k < 1) || decide (6 < k)) = !(inR k 1 6) := by
  unfold inR
  by_cases h1 : 1 ≤ k <;> by_cases h2 : k ≤ 6 <;> simp [h1, h2] <;> omega
theorem chk_r (e : En) : chk e = bif !(inR e.k 1 6) then 2 else bif !(inR e.s 0 63) || (e.k == 6 && e.s != 0) then 11 else
    bif e.k == 1 && !(inR e.a 0 4294967295 && inR e.p 0 65535 && inR e.w 1 8) then 14 else
    bif (!(e.k == 1) && (e.a != 0 || e.p != 0 || e.w != 0)) || (!(e.k == 6) && !(e.y.a == 0 && e.y.b == 0)) then 14 else 0 := by
  obtain ⟨k, s, a, p, m, y1, y2⟩ := e
  rw [chk_eq]
  simp only [inR_not, mayB]
  cases i0 : inR k 1 6
  · rfl
  cases i1 : (!(inR s 0 63) || (k == 6 && s != 0))
  · simp only [cond_false, cond_true, Bool.not_true]
    cases i2 : (k == 1 && !(inR a 0 4294967295 && inR p 0 65535 && inR m 1 8))
    · simp only [cond_false]
      unfold its eqE eqK zKy
      simp only
      by_cases b1 : k = 1
      · subst b1
        simp
        by_cases h1 : y1 = 0 <;> by_cases h2 : y2 = 0 <;> simp [h1, h2]
      · rw [if_neg b1]
        by_cases b6 : k = 6
        · subst b6
          have hs : s = 0 := by simp at i1; exact i1.2
          subst hs
          simp [bne]
          by_cases ha : a = 0 <;> by_cases hp : p = 0 <;> by_cases hm : m = 0 <;> simp [ha, hp, hm]
        · rw [if_neg b6]
          simp [b1, b6, bne]
          by_cases ha : a = 0 <;> by_cases hp : p = 0 <;> by_cases hm : m = 0 <;> by_cases h1 : y1 = 0 <;> by_cases h2 : y2 = 0 <;> simp [ha, hp, hm, h1, h2]
    · rfl
  · rfl
set_option maxRecDepth 100000 in
set_option maxHeartbeats 4000000 in
theorem rcheck_any (e : En) (w : World) : Calls Tryd.prog 30 #[enV e] w fun x w' => x = .returned (.int .i64 (chk e)) ∧ Below w.heap.size w w' := by
  obtain ⟨k, s, a, p, m, y1, y2⟩ := e
  have HC := hid (chk_r ⟨k, s, a, p, m, ⟨y1, y2⟩⟩)
  simp only at HC
  unfold enV
  generalize chk ⟨k, s, a, p, m, ⟨y1, y2⟩⟩ = r at *
  simp only
  cases i0 : inR k 1 6
  · have HR : Hid (r = 2) := hid (by rw [HC.out]; simp only [i0]; rfl)
    clear HC
    go_enter Tryd.func30, Tryd.ntmps30
    go_wp2_with fail
    go_quiet (fail)
    go_wp2_with (go_at_call 44; refine (rout_any _ _ _ _).mono ?_; rintro x w' ⟨rfl, rfl⟩)
    go_ret
    exact ⟨by rw [HR.out]; rfl, below_drewN ((Below.refl _ _).alloc (Nat.le_refl _) _) _⟩
  · cases i1 : inR s 0 63
    · have HR : Hid (r = 11) := hid (by rw [HC.out]; simp only [i0, i1]; rfl)
      clear HC
      go_enter Tryd.func30, Tryd.ntmps30
      go_wp2_with fail
      go_quiet (fail)
      go_wp2_with (go_at_call 44; refine (rout_any _ _ _ _).mono ?_; rintro x w' ⟨rfl, rfl⟩)
      go_ret
      exact ⟨by rw [HR.out]; rfl, below_drewN ((Below.refl _ _).alloc (Nat.le_refl _) _) _⟩
    · cases b1 : (k == 1)
      · cases b6 : (k == 6)
        · cases a0 : (a != 0)
          · cases p0 : (p != 0)
            · cases m0 : (m != 0)
              · cases c1 : (y1 == 0)
                · have HR : Hid (r = 14) := hid (by rw [HC.out]; simp only [i0, i1, b1, b6, a0, p0, m0, c1]; rfl)
                  clear HC
                  go_enter Tryd.func30, Tryd.ntmps30
                  go_wp2_with fail
                  go_quiet (fail)
                  go_wp2_with (go_at_call 44; refine (rout_any _ _ _ _).mono ?_; rintro x w' ⟨rfl, rfl⟩)
                  go_ret
                  exact ⟨by rw [HR.out]; rfl, below_drewN ((Below.refl _ _).alloc (Nat.le_refl _) _) _⟩
                · cases c2 : (y2 == 0)
                  · have HR : Hid (r = 14) := hid (by rw [HC.out]; simp only [i0, i1, b1, b6, a0, p0, m0, c1, c2]; rfl)
                    clear HC
                    go_enter Tryd.func30, Tryd.ntmps30
                    go_wp2_with fail
                    go_quiet (fail)
                    go_wp2_with (go_at_call 44; refine (rout_any _ _ _ _).mono ?_; rintro x w' ⟨rfl, rfl⟩)
                    go_ret
                    exact ⟨by rw [HR.out]; rfl, below_drewN ((Below.refl _ _).alloc (Nat.le_refl _) _) _⟩
                  · have HR : Hid (r = 0) := hid (by rw [HC.out]; simp only [i0, i1, b1, b6, a0, p0, m0, c1, c2]; rfl)
                    clear HC
                    go_enter Tryd.func30, Tryd.ntmps30
                    go_wp2_with fail
                    go_quiet (fail)
                    go_wp2_with (go_at_call 44; refine (rout_any _ _ _ _).mono ?_; rintro x w' ⟨rfl, rfl⟩)
                    go_ret
                    exact ⟨by rw [HR.out]; rfl, below_drewN ((Below.refl _ _).alloc (Nat.le_refl _) _) _⟩
              · have HR : Hid (r = 14) := hid (by rw [HC.out]; simp only [i0, i1, b1, b6, a0, p0, m0]; rfl)
                clear HC
                go_enter Tryd.func30, Tryd.ntmps30
                go_wp2_with fail
                go_quiet (fail)
                go_wp2_with (go_at_call 44; refine (rout_any _ _ _ _).mono ?_; rintro x w' ⟨rfl, rfl⟩)
                go_ret
                exact ⟨by rw [HR.out]; rfl, below_drewN ((Below.refl _ _).alloc (Nat.le_refl _) _) _⟩
            · have HR : Hid (r = 14) := hid (by rw [HC.out]; simp only [i0, i1, b1, b6, a0, p0]; rfl)
              clear HC
              go_enter Tryd.func30, Tryd.ntmps30
              go_wp2_with fail
              go_quiet (fail)
              go_wp2_with (go_at_call 44; refine (rout_any _ _ _ _).mono ?_; rintro x w' ⟨rfl, rfl⟩)
              go_ret
              exact ⟨by rw [HR.out]; rfl, below_drewN ((Below.refl _ _).alloc (Nat.le_refl _) _) _⟩
          · have HR : Hid (r = 14) := hid (by rw [HC.out]; simp only [i0, i1, b1, b6, a0]; rfl)
            clear HC
            go_enter Tryd.func30, Tryd.ntmps30
            go_wp2_with fail
            go_quiet (fail)
            go_wp2_with (go_at_call 44; refine (rout_any _ _ _ _).mono ?_; rintro x w' ⟨rfl, rfl⟩)
            go_ret
            exact ⟨by rw [HR.out]; rfl, below_drewN ((Below.refl _ _).alloc (Nat.le_refl _) _) _⟩
        · cases s0 : (s != 0)
          · cases a0 : (a != 0)
            · cases p0 : (p != 0)
              · cases m0 : (m != 0)
                · have HR : Hid (r = 0) := hid (by rw [HC.out]; simp only [i0, i1, b1, b6, s0, a0, p0, m0]; rfl)
                  clear HC
                  go_enter Tryd.func30, Tryd.ntmps30
                  go_wp2_with fail
                  go_quiet (fail)
                  go_wp2_with (go_at_call 44; refine (rout_any _ _ _ _).mono ?_; rintro x w' ⟨rfl, rfl⟩)
                  go_ret
                  exact ⟨by rw [HR.out]; rfl, below_drewN ((Below.refl _ _).alloc (Nat.le_refl _) _) _⟩
                · have HR : Hid (r = 14) := hid (by rw [HC.out]; simp only [i0, i1, b1, b6, s0, a0, p0, m0]; rfl)
                  clear HC
                  go_enter Tryd.func30, Tryd.ntmps30
                  go_wp2_with fail
                  go_quiet (fail)
                  go_wp2_with (go_at_call 44; refine (rout_any _ _ _ _).mono ?_; rintro x w' ⟨rfl, rfl⟩)
                  go_ret
                  exact ⟨by rw [HR.out]; rfl, below_drewN ((Below.refl _ _).alloc (Nat.le_refl _) _) _⟩
              · have HR : Hid (r = 14) := hid (by rw [HC.out]; simp only [i0, i1, b1, b6, s0, a0, p0]; rfl)
                clear HC
                go_enter Tryd.func30, Tryd.ntmps30
                go_wp2_with fail
                go_quiet (fail)
                go_wp2_with (go_at_call 44; refine (rout_any _ _ _ _).mono ?_; rintro x w' ⟨rfl, rfl⟩)
                go_ret
                exact ⟨by rw [HR.out]; rfl, below_drewN ((Below.refl _ _).alloc (Nat.le_refl _) _) _⟩
            · have HR : Hid (r = 14) := hid (by rw [HC.out]; simp only [i0, i1, b1, b6, s0, a0]; rfl)
              clear HC
              go_enter Tryd.func30, Tryd.ntmps30
              go_wp2_with fail
              go_quiet (fail)
              go_wp2_with (go_at_call 44; refine (rout_any _ _ _ _).mono ?_; rintro x w' ⟨rfl, rfl⟩)
              go_ret
              exact ⟨by rw [HR.out]; rfl, below_drewN ((Below.refl _ _).alloc (Nat.le_refl _) _) _⟩
          · have HR : Hid (r = 11) := hid (by rw [HC.out]; simp only [i0, i1, b1, b6, s0]; rfl)
            clear HC
            go_enter Tryd.func30, Tryd.ntmps30
            go_wp2_with fail
            go_quiet (fail)
            go_wp2_with (go_at_call 44; refine (rout_any _ _ _ _).mono ?_; rintro x w' ⟨rfl, rfl⟩)
            go_ret
            exact ⟨by rw [HR.out]; rfl, below_drewN ((Below.refl _ _).alloc (Nat.le_refl _) _) _⟩
      · have b6 : (k == 6) = false := by have := eq_of_beq b1; subst this; rfl
        cases ia : inR a 0 4294967295
        · have HR : Hid (r = 14) := hid (by rw [HC.out]; simp only [i0, i1, b1, b6, ia]; rfl)
          clear HC
          go_enter Tryd.func30, Tryd.ntmps30
          go_wp2_with fail
          go_quiet (fail)
          go_wp2_with (go_at_call 44; refine (rout_any _ _ _ _).mono ?_; rintro x w' ⟨rfl, rfl⟩)
          go_ret
          exact ⟨by rw [HR.out]; rfl, below_drewN ((Below.refl _ _).alloc (Nat.le_refl _) _) _⟩
        · cases ip : inR p 0 65535
          · have HR : Hid (r = 14) := hid (by rw [HC.out]; simp only [i0, i1, b1, b6, ia, ip]; rfl)
            clear HC
            go_enter Tryd.func30, Tryd.ntmps30
            go_wp2_with fail
            go_quiet (fail)
            go_wp2_with (go_at_call 44; refine (rout_any _ _ _ _).mono ?_; rintro x w' ⟨rfl, rfl⟩)
            go_ret
            exact ⟨by rw [HR.out]; rfl, below_drewN ((Below.refl _ _).alloc (Nat.le_refl _) _) _⟩
          · cases im : inR m 1 8
            · have HR : Hid (r = 14) := hid (by rw [HC.out]; simp only [i0, i1, b1, b6, ia, ip, im]; rfl)
              clear HC
              go_enter Tryd.func30, Tryd.ntmps30
              go_wp2_with fail
              go_quiet (fail)
              go_wp2_with (go_at_call 44; refine (rout_any _ _ _ _).mono ?_; rintro x w' ⟨rfl, rfl⟩)
              go_ret
              exact ⟨by rw [HR.out]; rfl, below_drewN ((Below.refl _ _).alloc (Nat.le_refl _) _) _⟩
            · cases c1 : (y1 == 0)
              · have HR : Hid (r = 14) := hid (by rw [HC.out]; simp only [i0, i1, b1, b6, ia, ip, im, c1]; rfl)
                clear HC
                go_enter Tryd.func30, Tryd.ntmps30
                go_wp2_with fail
                go_quiet (fail)
                go_wp2_with (go_at_call 44; refine (rout_any _ _ _ _).mono ?_; rintro x w' ⟨rfl, rfl⟩)
                go_ret
                exact ⟨by rw [HR.out]; rfl, below_drewN ((Below.refl _ _).alloc (Nat.le_refl _) _) _⟩
              · cases c2 : (y2 == 0)
                · have HR : Hid (r = 14) := hid (by rw [HC.out]; simp only [i0, i1, b1, b6, ia, ip, im, c1, c2]; rfl)
                  clear HC
                  go_enter Tryd.func30, Tryd.ntmps30
                  go_wp2_with fail
                  go_quiet (fail)
                  go_wp2_with (go_at_call 44; refine (rout_any _ _ _ _).mono ?_; rintro x w' ⟨rfl, rfl⟩)
                  go_ret
                  exact ⟨by rw [HR.out]; rfl, below_drewN ((Below.refl _ _).alloc (Nat.le_refl _) _) _⟩
                · have HR : Hid (r = 0) := hid (by rw [HC.out]; simp only [i0, i1, b1, b6, ia, ip, im, c1, c2]; rfl)
                  clear HC
                  go_enter Tryd.func30, Tryd.ntmps30
                  go_wp2_with fail
                  go_quiet (fail)
                  go_wp2_with (go_at_call 44; refine (rout_any _ _ _ _).mono ?_; rintro x w' ⟨rfl, rfl⟩)
                  go_ret
                  exact ⟨by rw [HR.out]; rfl, below_drewN ((Below.refl _ _).alloc (Nat.le_refl _) _) _⟩
end Go.Proofs.YtljgcffpijjliaaDoor
