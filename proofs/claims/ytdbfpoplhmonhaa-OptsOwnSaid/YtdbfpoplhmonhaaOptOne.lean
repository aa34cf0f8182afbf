/- One option of package opts. -/
import Derived.Test.YtdbfpoplhmonhaaOptMath
import Derived.Test.YtdbfpoplhmonhaaBytes
namespace Go.Proofs.Ytdbfpoplhmonhaa
set_option linter.unusedVariables false
set_option linter.unusedSimpArgs false
open Go.RowKit Go.ChangeShapes Go.WideShapes Go.ChangeAt

def oV (o : Int × Int × Int) : Value := .agg #[.int .i64 o.1, .int .i64 o.2.1, .int .i64 o.2.2]
theorem one_short (x : Int) (b off a n c : Nat) (w : World) (hx : x = 0 ∨ x = 1) (hb : b < w.heap.size) (h0 : w.cell? ⟨b, off + a, none⟩ = some (.int .u8 x)) (ha : a < n) (hn : n ≤ 140737488355328) :
    Calls Try.prog 28 #[.slice (some ⟨b, off, none⟩) n c, .int .i64 (a : Int)] w fun e w' => e = .returned (.tuple #[.agg #[.int .i64 x, .int .i64 a, .int .i64 1], .bool true]) ∧ Below w.heap.size w w' := by
  rcases hx with rfl | rfl
  all_goals
    have h1 : ∀ o, (w.alloc o).cell? ⟨b, off + a, none⟩ = some _ := fun o => (World.cell?_alloc_lt w o _ hb).trans h0
    go_enter Try.func28, Try.ntmps28
    go_wp2
    refine bodyPost_ret (v := .tuple #[.agg #[.int .i64 _, .int .i64 a, .int .i64 1], .bool true]) (by simp [results, Try.results28, go_sem]) rfl ⟨rfl, ?_⟩
    exact (Below.refl _ _).alloc (Nat.le_refl _) _

theorem one_endb (x : Int) (b off a n c : Nat) (w : World) (hx : 2 ≤ x ∧ x ≤ 255) (hb : b < w.heap.size) (h0 : w.cell? ⟨b, off + a, none⟩ = some (.int .u8 x)) (ha : a < n) (hn : n ≤ 140737488355328) (hs : n ≤ a + 1) :
    Calls Try.prog 28 #[.slice (some ⟨b, off, none⟩) n c, .int .i64 (a : Int)] w fun e w' => e = .returned (.tuple #[.agg #[.int .i64 0, .int .i64 0, .int .i64 0], .bool false]) ∧ Below w.heap.size w w' := by
  obtain ⟨hx1, hx2⟩ := hx
  have t0 : (x == 0) = false := by simp; omega
  have t1 : (x == 1) = false := by simp; omega
  have h1 : ∀ o, (w.alloc o).cell? ⟨b, off + a, none⟩ = some _ := fun o => (World.cell?_alloc_lt w o _ hb).trans h0
  obtain rfl : n = a + 1 := by omega
  go_enter Try.func28, Try.ntmps28
  go_wp2
  refine bodyPost_ret (v := .tuple #[.agg #[.int .i64 0, .int .i64 0, .int .i64 0], .bool false]) (by simp [results, Try.results28, go_sem]) rfl ⟨rfl, ?_⟩
  exact (Below.refl _ _).alloc (Nat.le_refl _) _

theorem one_long (x y : Int) (b off a n c : Nat) (w : World) (hx : 2 ≤ x ∧ x ≤ 255) (hy : 0 ≤ y ∧ y ≤ 255) (hb : b < w.heap.size) (h0 : w.cell? ⟨b, off + a, none⟩ = some (.int .u8 x)) (h2 : w.cell? ⟨b, off + (a + 1), none⟩ = some (.int .u8 y)) (ha : a + 1 < n) (hn : n ≤ 140737488355328) :
    Calls Try.prog 28 #[.slice (some ⟨b, off, none⟩) n c, .int .i64 (a : Int)] w fun e w' => e = .returned (if y < 2 ∨ (n : Int) - a < y then .tuple #[.agg #[.int .i64 0, .int .i64 0, .int .i64 0], .bool false] else .tuple #[.agg #[.int .i64 x, .int .i64 a, .int .i64 y], .bool true]) ∧ Below w.heap.size w w' := by
  obtain ⟨hx1, hx2⟩ := hx
  obtain ⟨hy1, hy2⟩ := hy
  have t0 : (x == 0) = false := by simp; omega
  have t1 : (x == 1) = false := by simp; omega
  have t2 : ((a : Int) + 1 == n) = false := by simp; omega
  have e1 : ((a : Int) + 1).toNat = a + 1 := by omega
  have h1 : ∀ o, (w.alloc o).cell? ⟨b, off + a, none⟩ = some _ := fun o => (World.cell?_alloc_lt w o _ hb).trans h0
  have h3 : ∀ o, (w.alloc o).cell? ⟨b, off + (a + 1), none⟩ = some _ := fun o => (World.cell?_alloc_lt w o _ hb).trans h2
  by_cases c1 : y < 2
  · have d1 : decide (y < 2) = true := by simpa using c1
    rw [if_pos (.inl c1)]
    go_enter Try.func28, Try.ntmps28
    go_wp2
    refine bodyPost_ret (v := .tuple #[.agg #[.int .i64 0, .int .i64 0, .int .i64 0], .bool false]) (by simp [results, Try.results28, go_sem]) rfl ⟨rfl, ?_⟩
    exact (Below.refl _ _).alloc (Nat.le_refl _) _
  · have d1 : decide (y < 2) = false := by simpa using c1
    by_cases c2 : (n : Int) - a < y
    · have d2 : decide ((n : Int) - a < y) = true := by simpa using c2
      rw [if_pos (.inr c2)]
      go_enter Try.func28, Try.ntmps28
      go_wp2
      refine bodyPost_ret (v := .tuple #[.agg #[.int .i64 0, .int .i64 0, .int .i64 0], .bool false]) (by simp [results, Try.results28, go_sem]) rfl ⟨rfl, ?_⟩
      exact (Below.refl _ _).alloc (Nat.le_refl _) _
    · have d2 : decide ((n : Int) - a < y) = false := by simpa using c2
      rw [if_neg (by omega)]
      go_enter Try.func28, Try.ntmps28
      go_wp2
      refine bodyPost_ret (v := .tuple #[.agg #[.int .i64 x, .int .i64 a, .int .i64 y], .bool true]) (by simp [results, Try.results28, go_sem]) rfl ⟨rfl, ?_⟩
      exact (Below.refl _ _).alloc (Nat.le_refl _) _

theorem one_any {g : Nat → Int} {A : Option Addr} {n : Nat} (c a : Nat) {w : World} (h : By w A n g) (hg : IsB g) (ha : a < n) (hn : n ≤ 140737488355328) :
    Calls Try.prog 28 #[.slice A n c, .int .i64 (a : Int)] w fun e w' => e = .returned (.tuple #[oV ((oneO g n a).getD (0, 0, 0)), .bool (oneO g n a).isSome]) ∧ Below w.heap.size w w' := by
  obtain ⟨b, off, rfl, hb, hc⟩ := h (by omega)
  have h0 := hc a ha
  have g0 := hg a
  by_cases hx : g a < 2
  · have e : oneO g n a = some (g a, (a : Int), 1) := by unfold oneO; rw [if_pos hx]
    rw [e]
    exact one_short (g a) b off a n c w (by omega) hb h0 ha hn
  · by_cases hs : n ≤ a + 1
    · have e : oneO g n a = none := by unfold oneO; rw [if_neg hx, if_pos hs]
      rw [e]
      exact one_endb _ b off a n c w (by omega) hb h0 ha hn hs
    · have h1 := hc (a + 1) (by omega)
      have g1 := hg (a + 1)
      refine (one_long (g a) (g (a + 1)) b off a n c w (by omega) g1 hb h0 h1 (by omega) hn).mono fun e w' ⟨he, hw⟩ => ⟨?_, hw⟩
      rw [he]
      unfold oneO
      rw [if_neg hx, if_neg hs]
      by_cases c1 : g (a + 1) < 2
      · rw [if_pos (.inl c1), if_pos c1]; rfl
      · rw [if_neg c1]
        by_cases c2 : (n : Int) - a < g (a + 1)
        · rw [if_pos (.inr c2), if_pos c2]; rfl
        · rw [if_neg (by omega), if_neg c2]; rfl
end Go.Proofs.Ytdbfpoplhmonhaa
