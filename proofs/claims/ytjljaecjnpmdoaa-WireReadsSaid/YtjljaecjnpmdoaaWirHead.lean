/- What a head, a body tell. -/
import Derived.Test.YtjljaecjnpmdoaaWirClone
import Derived.Test.YtjljaecjnpmdoaaWirPair
import Derived.Test.YtjljaecjnpmdoaaSum
import Derived.Test.YtjljaecjnpmdoaaSumRef
import Derived.BigQuiet
import Derived.Deep.RegionHeld3
import Derived.Deep.Cut
namespace Go.Proofs.Ytjljaecjnpmdoaa
set_option linter.unusedVariables false
set_option linter.unusedSimpArgs false
open Go.RowKit Go.ChangeShapes Go.WideShapes Go.ChangeAt

/-- What the head tells. -/
def headE (g : Nat → Int) (n : Nat) : Int :=
  if n < 16 then 1 else if isK (g 0) = false then 2 else if ((pairF g n 2 != (n : Int)) || decide (1500 < (n : Int)) || (g 13 != 0)) = true then 3 else if (norm (tot g 16) == 65535) = false then 4 else 0
/-- What the body tells, behind a head that may be. -/
def bodyE (g : Nat → Int) (n : Nat) : Int :=
  if g 0 = 3 then (if n < 44 then 1 else if g 17 ≠ 0 then 2 else 0)
  else if n < 24 then 1 else if g 0 = 1 ∧ (15 < g 20 ∨ 40 < g 21 ∨ (n : Int) - 24 < g 21) then 5 else 0
def parseE (g : Nat → Int) (n : Nat) : Int := if headE g n = 0 then bodyE g n else headE g n
theorem headE_0 {g : Nat → Int} {n : Nat} (h : headE g n = 0) : 16 ≤ n ∧ isK (g 0) = true ∧ pairF g n 2 = n ∧ n ≤ 1500 ∧ g 13 = 0 ∧ norm (tot g 16) = 65535 := by
  unfold headE at h
  split at h
  · cases h
  · split at h
    · cases h
    · split at h
      · cases h
      · split at h
        · cases h
        · rename_i h1 h2 h3 h4
          simp at h2 h3 h4
          exact ⟨by omega, h2, h3.1.1, by omega, h3.2, h4⟩
set_option maxHeartbeats 4000000 in
theorem head_any (A : Option Addr) (n c : Nat) (g : Nat → Int) (w : World) (h : By w A n g) (hg : IsB g) (hc : n ≤ c) (hb : n ≤ 1000000) :
    Calls Try.prog 45 #[.slice A n c] w fun e w' => e = .returned (.int .i64 (headE g n)) ∧ ∃ m, w' = w.drewN m := by
  by_cases h16 : n < 16
  · have i1 : (n : Int) < 16 := by omega
    have HF : Hid (headE g n = 1) := hid (by unfold headE; rw [if_pos h16])
    clear h h16
    go_enter Try.func45, Try.ntmps45
    go_wp2_with fail
    go_ret
    exact ⟨ret_i64 HF.out.symm, 0, rfl⟩
  · have i1 : ¬ (n : Int) < 16 := by omega
    have HP := hid (pair_any_ A n c g w h hg 2 (by omega) hc hb)
    have HR0 := hid (fun c' => right_any A 16 c' g w (h.less (k := 16) (by omega)) hg (by omega))
    obtain ⟨b, off, rfl, hblt, hcell⟩ := h (by omega)
    have c0 := hcell 0 (by omega)
    have c13 := hcell 13 (by omega)
    rw [Nat.add_zero] at c0
    have i2 : (0 : Int) < n := by omega
    have i3 : (13 : Int) < n := by omega
    have i4 : (16 : Int) ≤ c := by omega
    have IK := hid (iskind_any (g 0))
    have gb := hg 0
    obtain ⟨gb0, gb1⟩ := gb
    have HG := hid hg
    clear hcell h hg
    cases b0 : isK (g 0)
    · have HF : Hid (headE g n = 2) := hid (by unfold headE; rw [if_neg h16, if_pos b0])
      rw [b0] at IK
      clear h16
      go_enter Try.func45, Try.ntmps45
      go_wp2_with fail
      refine (IK.out _).mono ?_
      rintro x w' ⟨rfl, rfl⟩
      go_wp2_with fail
      go_ret
      exact ⟨ret_i64 HF.out.symm, 0, rfl⟩
    · rw [b0] at IK
      have HX : Hid (headE g n = if ((pairF g n 2 != (n : Int)) || decide (1500 < (n : Int)) || (g 13 != 0)) = true then 3 else if (norm (tot g 16) == 65535) = false then 4 else 0) := hid (by
        unfold headE; rw [if_neg h16, if_neg (by simp [b0])])
      clear h16
      obtain ⟨p, hp⟩ : ∃ p, p = pairF g n 2 := ⟨_, rfl⟩
      rw [← hp] at HP HX
      clear hp
      cases b1 : (p != (n : Int)) <;> cases b2 : decide (1500 < (n : Int)) <;> cases b3 : (g 13 != 0)
      · obtain ⟨r, hr⟩ : ∃ r, r = (norm (tot g 16) == 65535) := ⟨_, rfl⟩
        rw [← hr] at HR0 HX
        rw [b1, b2, b3] at HX
        clear hr
        cases r
        all_goals
          go_enter Try.func45, Try.ntmps45
          go_wp2_with fail
          refine (IK.out _).mono ?_
          rintro x w' ⟨rfl, rfl⟩
          go_wp2_with fail
          refine HP.out.mono ?_
          rintro x w' ⟨rfl, rfl⟩
          go_wp2_with fail
          refine (HR0.out _).mono ?_
          rintro x w' ⟨rfl, m, rfl⟩
          go_wp2_with fail
          go_ret
          exact ⟨ret_i64 (by rw [HX.out]; rfl), m, rfl⟩
      all_goals
        rw [b1, b2, b3] at HX
        go_enter Try.func45, Try.ntmps45
        go_wp2_with fail
        refine (IK.out _).mono ?_
        rintro x w' ⟨rfl, rfl⟩
        go_wp2_with fail
        refine HP.out.mono ?_
        rintro x w' ⟨rfl, rfl⟩
        go_wp2_with fail
        go_ret
        exact ⟨ret_i64 (by rw [HX.out]; rfl), 0, rfl⟩
set_option maxHeartbeats 4000000 in
theorem body_any_ (A : Option Addr) (n c : Nat) (g : Nat → Int) (w : World) (h : By w A n g) (hg : IsB g) (hn : 16 ≤ n) (hb : n ≤ 1000000) :
    Calls Try.prog 46 #[.slice A n c] w fun e w' => e = .returned (.int .i64 (bodyE g n)) ∧ w = w' := by
  have HG := hid hg
  have gb := hg 21
  obtain ⟨g0, g1⟩ := gb
  obtain ⟨b, off, rfl, hblt, hcell⟩ := h (by omega)
  have c0 := hcell 0 (by omega)
  rw [Nat.add_zero] at c0
  have i2 : (0 : Int) < n := by omega
  have HC := hid hcell
  clear hcell h hg
  cases b0 : (g 0 == 3)
  · have h0 : ¬ g 0 = 3 := by simpa using b0
    by_cases h24 : n < 24
    · have i1 : (n : Int) < 24 := by omega
      have HF : Hid (bodyE g n = 1) := hid (by unfold bodyE; rw [if_neg h0, if_pos h24])
      clear h24 h0
      go_enter Try.func46, Try.ntmps46
      go_wp2_with fail
      go_ret
      exact ⟨ret_i64 HF.out.symm, rfl⟩
    · have i1 : ¬ (n : Int) < 24 := by omega
      have c20 := HC.out 20 (by omega)
      have c21 := HC.out 21 (by omega)
      have i3 : (20 : Int) < n := by omega
      have i4 : (21 : Int) < n := by omega
      have q1 : IntKind.i64.wrap ((n : Int) - 24) = (n : Int) - 24 := IntWalk.i64_in _ (by omega)
      have HX : Hid (bodyE g n = if g 0 = 1 ∧ (15 < g 20 ∨ 40 < g 21 ∨ (n : Int) - 24 < g 21) then 5 else 0) := hid (by unfold bodyE; rw [if_neg h0, if_neg h24])
      clear HC h24 h0
      cases b1 : (g 0 == 1)
      · have HF : Hid (bodyE g n = 0) := hid (by rw [HX.out, if_neg (by intro h; rw [h.1] at b1; cases b1)])
        go_enter Try.func46, Try.ntmps46
        go_wp2_with fail
        go_ret
        exact ⟨ret_i64 HF.out.symm, rfl⟩
      · have h1 : Hid (g 0 = 1) := hid (by simpa using b1)
        cases b2 : decide (15 < g 20) <;> cases b3 : decide (40 < g 21) <;> cases b4 : decide ((n : Int) - 24 < g 21)
        all_goals
          have HF : Hid (bodyE g n = if (decide (15 < g 20) || decide (40 < g 21) || decide ((n : Int) - 24 < g 21)) = true then 5 else 0) := hid (by
            rw [HX.out]; simp only [h1.out, true_and, Bool.or_eq_true, decide_eq_true_eq, or_assoc])
          rw [b2, b3, b4] at HF
          go_enter Try.func46, Try.ntmps46
          go_wp2_with fail
          go_ret
          exact ⟨ret_i64 (by rw [HF.out]; rfl), rfl⟩
  · have h0 : g 0 = 3 := by simpa using b0
    by_cases h44 : n < 44
    · have i1 : (n : Int) < 44 := by omega
      have HF : Hid (bodyE g n = 1) := hid (by unfold bodyE; rw [if_pos h0, if_pos h44])
      clear h44 h0
      go_enter Try.func46, Try.ntmps46
      go_wp2_with fail
      go_ret
      exact ⟨ret_i64 HF.out.symm, rfl⟩
    · have i1 : ¬ (n : Int) < 44 := by omega
      have c17 := HC.out 17 (by omega)
      have i3 : (17 : Int) < n := by omega
      have HX : Hid (bodyE g n = if g 17 ≠ 0 then 2 else 0) := hid (by unfold bodyE; rw [if_pos h0, if_neg h44])
      clear HC h44 h0
      cases b1 : (g 17 != 0)
      · have HF : Hid (bodyE g n = 0) := hid (by rw [HX.out, if_neg (by simpa using b1)])
        go_enter Try.func46, Try.ntmps46
        go_wp2_with fail
        go_ret
        exact ⟨ret_i64 HF.out.symm, rfl⟩
      · have HF : Hid (bodyE g n = 2) := hid (by rw [HX.out, if_pos (by simpa using b1)])
        go_enter Try.func46, Try.ntmps46
        go_wp2_with fail
        go_ret
        exact ⟨ret_i64 HF.out.symm, rfl⟩
end Go.Proofs.Ytjljaecjnpmdoaa
