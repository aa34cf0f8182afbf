/- What a verdict becomes. -/
import Derived.Test.YtljgcffpijjliaaDoorOrdAdd
import Derived.BigQuiet
import Derived.Deep.RegionHeld3
import Derived.Deep.Cut
namespace Go.Proofs.YtljgcffpijjliaaDoor
set_option linter.unusedVariables false
set_option linter.unusedSimpArgs false
open Go.RowKit Go.ChangeShapes Go.WideShapes Go.ChangeAt

attribute [local irreducible] PA
set_option maxRecDepth 100000 in
set_option maxHeartbeats 4000000 in
theorem mark_any (p : Pl) (s v : Int) (w : World) : Calls Tryd.prog 25 #[plV p, .int .i64 s, .int .i64 v] w (Ls1 w (mrkL p s v)) := by
  unfold plV
  rcases (by omega : s < 0 ∨ 64 ≤ s ∨ 0 ≤ s ∧ s < 64) with h1 | h1 | ⟨h1, h2⟩
  · have HR : mrkL p s v = [] := by unfold mrkL; rw [if_pos (.inl h1)]
    rw [HR]
    clear HR
    go_enter Tryd.func25, Tryd.ntmps25
    go_upto_region 1 with (fail)
    have P1 := hid (PoolAt.made (w := w) (p := p) (T := 33) rfl)
    have B1 := hid ((Below.refl w.heap.size w).alloc (Nat.le_refl _) (.cells (PA p) 33))
    generalize w.alloc (.cells (PA p) 33) = w1 at *
    generalize hK : w.heap.size = P at *
    have HK := hid hK
    clear hK
    go_wp2_with fail
    go_ret
    exact Ls1.nil (by rw [HK.out]; exact B1.out)
  · have HR : mrkL p s v = [] := by unfold mrkL; rw [if_pos (.inr h1)]
    rw [HR]
    clear HR
    have h0 : ¬ s < 0 := by omega
    go_enter Tryd.func25, Tryd.ntmps25
    go_upto_region 1 with (fail)
    have P1 := hid (PoolAt.made (w := w) (p := p) (T := 33) rfl)
    have B1 := hid ((Below.refl w.heap.size w).alloc (Nat.le_refl _) (.cells (PA p) 33))
    generalize w.alloc (.cells (PA p) 33) = w1 at *
    generalize hK : w.heap.size = P at *
    have HK := hid hK
    clear hK
    go_wp2_with fail
    go_ret
    exact Ls1.nil (by rw [HK.out]; exact B1.out)
  · obtain ⟨k, rfl⟩ : ∃ k : Nat, s = k := ⟨s.toNat, by omega⟩
    have k64 : k < 64 := by omega
    have h0 : ¬ (k : Int) < 0 := by omega
    have h3 : ¬ (64 : Int) ≤ k := by omega
    have HM : mrkL p (k : Int) v = if v = 1 ∧ ((p.s k).st = 1 ∨ (p.s k).st = 3) then [⟨2, (k : Int), 0, 0, 0, zKy⟩] else if v = 2 ∧ (p.s k).st = 2 then [⟨3, (k : Int), 0, 0, 0, zKy⟩] else [] := by unfold mrkL; rw [if_neg (by omega), Int.toNat_natCast]
    obtain ⟨st, hst⟩ : ∃ x, x = (p.s k).st := ⟨_, rfl⟩
    rw [← hst] at HM
    have HST := hid hst
    clear hst
    cases v1 : (v == 1)
    · cases v2 : (v == 2)
      · have HR : mrkL p (k : Int) v = [] := by rw [HM]; rw [if_neg (by simp at v1; simp [v1]), if_neg (by simp at v2; simp [v2])]
        rw [HR]
        clear HR HM
        go_enter Tryd.func25, Tryd.ntmps25
        go_upto_region 1 with (fail)
        have P1 := hid (PoolAt.made (w := w) (p := p) (T := 33) rfl)
        have B1 := hid ((Below.refl w.heap.size w).alloc (Nat.le_refl _) (.cells (PA p) 33))
        generalize w.alloc (.cells (PA p) 33) = w1 at *
        generalize hK : w.heap.size = P at *
        have HK := hid hK
        clear hK
        have cs : w1.cell? ⟨P, 3 + k * 5, none⟩ = some (.int .i64 st) := by rw [HST.out]; exact P1.out.cs k 0 k64 (by omega)
        go_wp2_with fail
        go_ret
        exact Ls1.nil (by rw [HK.out]; exact B1.out)
      · cases s2 : (st == 2)
        · have HR : mrkL p (k : Int) v = [] := by rw [HM]; rw [if_neg (by simp at v1; simp [v1]), if_neg (by simp at s2; simp [s2])]
          rw [HR]
          clear HR HM
          go_enter Tryd.func25, Tryd.ntmps25
          go_upto_region 1 with (fail)
          have P1 := hid (PoolAt.made (w := w) (p := p) (T := 33) rfl)
          have B1 := hid ((Below.refl w.heap.size w).alloc (Nat.le_refl _) (.cells (PA p) 33))
          generalize w.alloc (.cells (PA p) 33) = w1 at *
          generalize hK : w.heap.size = P at *
          have HK := hid hK
          clear hK
          have cs : w1.cell? ⟨P, 3 + k * 5, none⟩ = some (.int .i64 st) := by rw [HST.out]; exact P1.out.cs k 0 k64 (by omega)
          go_wp2_with fail
          go_ret
          exact Ls1.nil (by rw [HK.out]; exact B1.out)
        · have HR : mrkL p (k : Int) v = [⟨3, (k : Int), 0, 0, 0, zKy⟩] := by rw [HM]; rw [if_neg (by simp at v1; simp [v1]), if_pos (by simp at v2 s2; simp [v2, s2])]
          rw [HR]
          clear HR HM
          go_enter Tryd.func25, Tryd.ntmps25
          go_upto_region 1 with (fail)
          have P1 := hid (PoolAt.made (w := w) (p := p) (T := 33) rfl)
          have B1 := hid ((Below.refl w.heap.size w).alloc (Nat.le_refl _) (.cells (PA p) 33))
          generalize w.alloc (.cells (PA p) 33) = w1 at *
          generalize hK : w.heap.size = P at *
          have HK := hid hK
          clear hK
          have cs : w1.cell? ⟨P, 3 + k * 5, none⟩ = some (.int .i64 st) := by rw [HST.out]; exact P1.out.cs k 0 k64 (by omega)
          go_wp2_with fail
          go_ret
          exact Ls1.lit [⟨3, (k : Int), 0, 0, 0, zKy⟩] rfl rfl (by simp) rfl (by rw [HK.out]; exact B1.out)
    · have v2 : (v == 2) = false := by simp at v1; simp [v1]
      cases s1 : (st == 1)
      · cases s3 : (st == 3)
        · have HR : mrkL p (k : Int) v = [] := by rw [HM]; rw [if_neg (by simp at s1 s3; simp [s1, s3]), if_neg (by simp at v2; simp [v2])]
          rw [HR]
          clear HR HM
          go_enter Tryd.func25, Tryd.ntmps25
          go_upto_region 1 with (fail)
          have P1 := hid (PoolAt.made (w := w) (p := p) (T := 33) rfl)
          have B1 := hid ((Below.refl w.heap.size w).alloc (Nat.le_refl _) (.cells (PA p) 33))
          generalize w.alloc (.cells (PA p) 33) = w1 at *
          generalize hK : w.heap.size = P at *
          have HK := hid hK
          clear hK
          have cs : w1.cell? ⟨P, 3 + k * 5, none⟩ = some (.int .i64 st) := by rw [HST.out]; exact P1.out.cs k 0 k64 (by omega)
          go_wp2_with fail
          go_ret
          exact Ls1.nil (by rw [HK.out]; exact B1.out)
        · have HR : mrkL p (k : Int) v = [⟨2, (k : Int), 0, 0, 0, zKy⟩] := by rw [HM]; rw [if_pos (by simp at v1 s3; simp [v1, s3])]
          rw [HR]
          clear HR HM
          go_enter Tryd.func25, Tryd.ntmps25
          go_upto_region 1 with (fail)
          have P1 := hid (PoolAt.made (w := w) (p := p) (T := 33) rfl)
          have B1 := hid ((Below.refl w.heap.size w).alloc (Nat.le_refl _) (.cells (PA p) 33))
          generalize w.alloc (.cells (PA p) 33) = w1 at *
          generalize hK : w.heap.size = P at *
          have HK := hid hK
          clear hK
          have cs : w1.cell? ⟨P, 3 + k * 5, none⟩ = some (.int .i64 st) := by rw [HST.out]; exact P1.out.cs k 0 k64 (by omega)
          go_wp2_with fail
          go_ret
          exact Ls1.lit [⟨2, (k : Int), 0, 0, 0, zKy⟩] rfl rfl (by simp) rfl (by rw [HK.out]; exact B1.out)
      · have HR : mrkL p (k : Int) v = [⟨2, (k : Int), 0, 0, 0, zKy⟩] := by rw [HM]; rw [if_pos (by simp at v1 s1; simp [v1, s1])]
        rw [HR]
        clear HR HM
        go_enter Tryd.func25, Tryd.ntmps25
        go_upto_region 1 with (fail)
        have P1 := hid (PoolAt.made (w := w) (p := p) (T := 33) rfl)
        have B1 := hid ((Below.refl w.heap.size w).alloc (Nat.le_refl _) (.cells (PA p) 33))
        generalize w.alloc (.cells (PA p) 33) = w1 at *
        generalize hK : w.heap.size = P at *
        have HK := hid hK
        clear hK
        have cs : w1.cell? ⟨P, 3 + k * 5, none⟩ = some (.int .i64 st) := by rw [HST.out]; exact P1.out.cs k 0 k64 (by omega)
        go_wp2_with fail
        go_ret
        exact Ls1.lit [⟨2, (k : Int), 0, 0, 0, zKy⟩] rfl rfl (by simp) rfl (by rw [HK.out]; exact B1.out)
set_option maxRecDepth 100000 in
set_option maxHeartbeats 4000000 in
theorem rmark_any (p : Pl) (s v : Int) (w : World) : Calls Tryd.prog 26 #[plV p, .int .i64 s, .int .i64 v] w (Ls1 w (mrkL p s v)) := by
  unfold plV
  rcases (by omega : s < 0 ∨ 64 ≤ s ∨ 0 ≤ s ∧ s < 64) with h1 | h1 | ⟨h1, h2⟩
  · have HR : mrkL p s v = [] := by unfold mrkL; rw [if_pos (.inl h1)]
    rw [HR]
    clear HR
    go_enter Tryd.func26, Tryd.ntmps26
    go_upto_region 1 with (fail)
    have P1 := hid (PoolAt.made (w := w) (p := p) (T := 33) rfl)
    have B1 := hid ((Below.refl w.heap.size w).alloc (Nat.le_refl _) (.cells (PA p) 33))
    generalize w.alloc (.cells (PA p) 33) = w1 at *
    generalize hK : w.heap.size = P at *
    have HK := hid hK
    clear hK
    go_wp2_with fail
    go_ret
    exact Ls1.nil (by rw [HK.out]; exact B1.out)
  · have HR : mrkL p s v = [] := by unfold mrkL; rw [if_pos (.inr h1)]
    rw [HR]
    clear HR
    have h0 : ¬ s < 0 := by omega
    go_enter Tryd.func26, Tryd.ntmps26
    go_upto_region 1 with (fail)
    have P1 := hid (PoolAt.made (w := w) (p := p) (T := 33) rfl)
    have B1 := hid ((Below.refl w.heap.size w).alloc (Nat.le_refl _) (.cells (PA p) 33))
    generalize w.alloc (.cells (PA p) 33) = w1 at *
    generalize hK : w.heap.size = P at *
    have HK := hid hK
    clear hK
    go_wp2_with fail
    go_ret
    exact Ls1.nil (by rw [HK.out]; exact B1.out)
  · obtain ⟨k, rfl⟩ : ∃ k : Nat, s = k := ⟨s.toNat, by omega⟩
    have k64 : k < 64 := by omega
    have h0 : ¬ (k : Int) < 0 := by omega
    have h3 : ¬ (64 : Int) ≤ k := by omega
    have HM : mrkL p (k : Int) v = if v = 1 ∧ ((p.s k).st = 1 ∨ (p.s k).st = 3) then [⟨2, (k : Int), 0, 0, 0, zKy⟩] else if v = 2 ∧ (p.s k).st = 2 then [⟨3, (k : Int), 0, 0, 0, zKy⟩] else [] := by unfold mrkL; rw [if_neg (by omega), Int.toNat_natCast]
    obtain ⟨st, hst⟩ : ∃ x, x = (p.s k).st := ⟨_, rfl⟩
    rw [← hst] at HM
    have HST := hid hst
    clear hst
    cases v1 : (v == 1)
    · cases v2 : (v == 2)
      · have HR : mrkL p (k : Int) v = [] := by rw [HM]; rw [if_neg (by simp at v1; simp [v1]), if_neg (by simp at v2; simp [v2])]
        rw [HR]
        clear HR HM
        go_enter Tryd.func26, Tryd.ntmps26
        go_upto_region 1 with (fail)
        have P1 := hid (PoolAt.made (w := w) (p := p) (T := 33) rfl)
        have B1 := hid ((Below.refl w.heap.size w).alloc (Nat.le_refl _) (.cells (PA p) 33))
        generalize w.alloc (.cells (PA p) 33) = w1 at *
        generalize hK : w.heap.size = P at *
        have HK := hid hK
        clear hK
        have cs : w1.cell? ⟨P, 3 + k * 5, none⟩ = some (.int .i64 st) := by rw [HST.out]; exact P1.out.cs k 0 k64 (by omega)
        go_wp2_with fail
        go_ret
        exact Ls1.nil (by rw [HK.out]; exact B1.out)
      · cases s2 : (st == 2)
        · have HR : mrkL p (k : Int) v = [] := by rw [HM]; rw [if_neg (by simp at v1; simp [v1]), if_neg (by simp at s2; simp [s2])]
          rw [HR]
          clear HR HM
          go_enter Tryd.func26, Tryd.ntmps26
          go_upto_region 1 with (fail)
          have P1 := hid (PoolAt.made (w := w) (p := p) (T := 33) rfl)
          have B1 := hid ((Below.refl w.heap.size w).alloc (Nat.le_refl _) (.cells (PA p) 33))
          generalize w.alloc (.cells (PA p) 33) = w1 at *
          generalize hK : w.heap.size = P at *
          have HK := hid hK
          clear hK
          have cs : w1.cell? ⟨P, 3 + k * 5, none⟩ = some (.int .i64 st) := by rw [HST.out]; exact P1.out.cs k 0 k64 (by omega)
          go_wp2_with fail
          go_ret
          exact Ls1.nil (by rw [HK.out]; exact B1.out)
        · have HR : mrkL p (k : Int) v = [⟨3, (k : Int), 0, 0, 0, zKy⟩] := by rw [HM]; rw [if_neg (by simp at v1; simp [v1]), if_pos (by simp at v2 s2; simp [v2, s2])]
          rw [HR]
          clear HR HM
          go_enter Tryd.func26, Tryd.ntmps26
          go_upto_region 1 with (fail)
          have P1 := hid (PoolAt.made (w := w) (p := p) (T := 33) rfl)
          have B1 := hid ((Below.refl w.heap.size w).alloc (Nat.le_refl _) (.cells (PA p) 33))
          generalize w.alloc (.cells (PA p) 33) = w1 at *
          generalize hK : w.heap.size = P at *
          have HK := hid hK
          clear hK
          have cs : w1.cell? ⟨P, 3 + k * 5, none⟩ = some (.int .i64 st) := by rw [HST.out]; exact P1.out.cs k 0 k64 (by omega)
          go_wp2_with fail
          go_ret
          exact Ls1.lit [⟨3, (k : Int), 0, 0, 0, zKy⟩] rfl rfl (by simp) rfl (by rw [HK.out]; exact B1.out)
    · have v2 : (v == 2) = false := by simp at v1; simp [v1]
      cases s1 : (st == 1)
      · cases s3 : (st == 3)
        · have HR : mrkL p (k : Int) v = [] := by rw [HM]; rw [if_neg (by simp at s1 s3; simp [s1, s3]), if_neg (by simp at v2; simp [v2])]
          rw [HR]
          clear HR HM
          go_enter Tryd.func26, Tryd.ntmps26
          go_upto_region 1 with (fail)
          have P1 := hid (PoolAt.made (w := w) (p := p) (T := 33) rfl)
          have B1 := hid ((Below.refl w.heap.size w).alloc (Nat.le_refl _) (.cells (PA p) 33))
          generalize w.alloc (.cells (PA p) 33) = w1 at *
          generalize hK : w.heap.size = P at *
          have HK := hid hK
          clear hK
          have cs : w1.cell? ⟨P, 3 + k * 5, none⟩ = some (.int .i64 st) := by rw [HST.out]; exact P1.out.cs k 0 k64 (by omega)
          go_wp2_with fail
          go_ret
          exact Ls1.nil (by rw [HK.out]; exact B1.out)
        · have HR : mrkL p (k : Int) v = [⟨2, (k : Int), 0, 0, 0, zKy⟩] := by rw [HM]; rw [if_pos (by simp at v1 s3; simp [v1, s3])]
          rw [HR]
          clear HR HM
          go_enter Tryd.func26, Tryd.ntmps26
          go_upto_region 1 with (fail)
          have P1 := hid (PoolAt.made (w := w) (p := p) (T := 33) rfl)
          have B1 := hid ((Below.refl w.heap.size w).alloc (Nat.le_refl _) (.cells (PA p) 33))
          generalize w.alloc (.cells (PA p) 33) = w1 at *
          generalize hK : w.heap.size = P at *
          have HK := hid hK
          clear hK
          have cs : w1.cell? ⟨P, 3 + k * 5, none⟩ = some (.int .i64 st) := by rw [HST.out]; exact P1.out.cs k 0 k64 (by omega)
          go_wp2_with fail
          go_ret
          exact Ls1.lit [⟨2, (k : Int), 0, 0, 0, zKy⟩] rfl rfl (by simp) rfl (by rw [HK.out]; exact B1.out)
      · have HR : mrkL p (k : Int) v = [⟨2, (k : Int), 0, 0, 0, zKy⟩] := by rw [HM]; rw [if_pos (by simp at v1 s1; simp [v1, s1])]
        rw [HR]
        clear HR HM
        go_enter Tryd.func26, Tryd.ntmps26
        go_upto_region 1 with (fail)
        have P1 := hid (PoolAt.made (w := w) (p := p) (T := 33) rfl)
        have B1 := hid ((Below.refl w.heap.size w).alloc (Nat.le_refl _) (.cells (PA p) 33))
        generalize w.alloc (.cells (PA p) 33) = w1 at *
        generalize hK : w.heap.size = P at *
        have HK := hid hK
        clear hK
        have cs : w1.cell? ⟨P, 3 + k * 5, none⟩ = some (.int .i64 st) := by rw [HST.out]; exact P1.out.cs k 0 k64 (by omega)
        go_wp2_with fail
        go_ret
        exact Ls1.lit [⟨2, (k : Int), 0, 0, 0, zKy⟩] rfl rfl (by simp) rfl (by rw [HK.out]; exact B1.out)
end Go.Proofs.YtljgcffpijjliaaDoor
