/- Sums of pairs of bytes, as plain numbers. -/
namespace Go.Proofs.Ytjljaecjnpmdoaa
set_option linter.unusedVariables false

def plus (a b : Int) : Int := if a + b > 65535 then a + b - 65535 else a + b
/-- What a true sum comes to, folded. -/
def norm (s : Int) : Int := if s = 0 then 0 else (s - 1) % 65535 + 1
/-- The bytes' true sum: those at even places count 256 each. -/
def tot (g : Nat → Int) : Nat → Int
  | 0 => 0
  | n + 1 => tot g n + g n * (if n % 2 = 0 then 256 else 1)
def turn (s a b : Int) : Int := 65535 - plus (65535 - s) (plus (65535 - a) b)

theorem plus_bd (a b : Int) (ha : 0 ≤ a) (ha' : a ≤ 65535) (hb : 0 ≤ b) (hb' : b ≤ 65535) : 0 ≤ plus a b ∧ plus a b ≤ 65535 := by unfold plus; split <;> omega
theorem norm_bd (s : Int) : 0 ≤ norm s ∧ norm s ≤ 65535 := by unfold norm; split <;> omega
theorem norm_zero (s : Int) : norm s = 0 ↔ s = 0 := by unfold norm; split <;> omega
theorem norm_self (s : Int) (h : 0 ≤ s) (h' : s ≤ 65535) : norm s = s := by unfold norm; split <;> omega
theorem plus_norm (s b : Int) (hs : 0 ≤ s) (hb : 0 ≤ b) (hb' : b ≤ 65535) : plus (norm s) b = norm (s + b) := by
  unfold plus norm
  split <;> split <;> (try split) <;> omega
theorem norm_plus (s t : Int) (hs : 0 ≤ s) (ht : 0 ≤ t) : plus (norm s) (norm t) = norm (s + t) := by
  unfold plus norm
  split <;> split <;> (try split) <;> (try split) <;> omega
theorem plus_eq (a b : Int) (ha : 0 ≤ a) (ha' : a ≤ 65535) (hb : 0 ≤ b) (hb' : b ≤ 65535) : plus a b = norm (a + b) := by
  unfold plus norm
  split <;> split <;> omega
theorem turn_bd (s a b : Int) (hs : 0 ≤ s) (hs' : s ≤ 65535) (ha : 0 ≤ a) (ha' : a ≤ 65535) (hb : 0 ≤ b) (hb' : b ≤ 65535) : 0 ≤ turn s a b ∧ turn s a b ≤ 65535 := by
  have h1 := plus_bd (65535 - a) b (by omega) (by omega) hb hb'
  have h2 := plus_bd (65535 - s) (plus (65535 - a) b) (by omega) (by omega) h1.1 h1.2
  unfold turn
  omega
/-- The document's Turn, bracketed the other way, is the same. -/
theorem turn_other (s a b : Int) (hs : 0 ≤ s) (hs' : s ≤ 65535) (ha : 0 ≤ a) (ha' : a ≤ 65535) (hb : 0 ≤ b) (hb' : b ≤ 65535) :
    65535 - plus (plus (65535 - s) (65535 - a)) b = turn s a b := by
  unfold turn plus
  split <;> split <;> (try split) <;> (try split) <;> omega

theorem tot_nonneg (g : Nat → Int) (h : ∀ j, 0 ≤ g j ∧ g j ≤ 255) (n : Nat) : 0 ≤ tot g n := by
  induction n with
  | zero => exact Int.le_refl _
  | succ n ih => have := h n; unfold tot; split <;> omega
theorem tot_pair (g : Nat → Int) (p : Nat) : tot g (2 * p + 2) = tot g (2 * p) + (g (2 * p) * 256 + g (2 * p + 1)) := by
  rw [show 2 * p + 2 = (2 * p + 1) + 1 from rfl, tot, tot, if_pos (by omega), if_neg (by omega)]
  omega
theorem tot_last (g : Nat → Int) (p : Nat) : tot g (2 * p + 1) = tot g (2 * p) + g (2 * p) * 256 := by
  rw [tot, if_pos (by omega)]
theorem tot_split (g : Nat → Int) (k m : Nat) : tot g (2 * k + m) = tot g (2 * k) + tot (fun j => g (2 * k + j)) m := by
  induction m with
  | zero => simp [tot]
  | succ m ih =>
    rw [← Nat.add_assoc, tot, ih, tot]
    have : (2 * k + m) % 2 = m % 2 := by omega
    rw [this]
    omega
theorem tot_ext (g g' : Nat → Int) (n : Nat) (h : ∀ j, j < n → g j = g' j) : tot g n = tot g' n := by
  induction n with
  | zero => rfl
  | succ n ih => rw [tot, tot, ih (fun j hj => h j (by omega)), h n (by omega)]
theorem tot_zero (g : Nat → Int) (h : ∀ j, 0 ≤ g j ∧ g j ≤ 255) (n : Nat) : tot g n = 0 ↔ ∀ j, j < n → g j = 0 := by
  induction n with
  | zero => exact ⟨fun _ j hj => absurd hj (by omega), fun _ => rfl⟩
  | succ n ih =>
    have h1 := tot_nonneg g h n
    have h2 := h n
    rw [tot]
    constructor
    · intro he j hj
      have hn : g n = 0 ∧ tot g n = 0 := by split at he <;> omega
      by_cases e : j = n
      · subst e; exact hn.1
      · exact ih.1 hn.2 j (by omega)
    · intro hz
      rw [ih.2 (fun j hj => hz j (by omega)), hz n (by omega)]
      simp
/-- Noughts behind count nothing. -/
theorem tot_noughts (g : Nat → Int) (n m : Nat) (h : ∀ j, n ≤ j → j < n + m → g j = 0) : tot g (n + m) = tot g n := by
  induction m with
  | zero => rfl
  | succ m ih => rw [← Nat.add_assoc, tot, ih (fun j h1 h2 => h j h1 (by omega)), h (n + m) (by omega) (by omega)]; simp
def set1 (g : Nat → Int) (i : Nat) (v : Int) : Nat → Int := fun j => if j = i then v else g j
theorem set1_b (g : Nat → Int) (h : ∀ j, 0 ≤ g j ∧ g j ≤ 255) (i : Nat) (v : Int) (hv : 0 ≤ v) (hv' : v ≤ 255) : ∀ j, 0 ≤ set1 g i v j ∧ set1 g i v j ≤ 255 := by
  intro j
  have := h j
  unfold set1
  split <;> omega
theorem tot_set1 (g : Nat → Int) (i : Nat) (v : Int) (n : Nat) (hi : i < n) : tot (set1 g i v) n = tot g n + (v - g i) * (if i % 2 = 0 then 256 else 1) := by
  induction n with
  | zero => omega
  | succ n ih =>
    by_cases e : i = n
    · subst e
      rw [tot, tot, tot_ext (set1 g i v) g i (fun j hj => by unfold set1; rw [if_neg (by omega)])]
      simp only [set1, if_true]
      split <;> omega
    · rw [tot, tot, ih (by omega)]
      simp only [set1, if_neg (show ¬ n = i by omega)]
      omega
/-- Are the first k noughts? -/
def zer (g : Nat → Int) : Nat → Bool
  | 0 => true
  | k + 1 => zer g k && (g k == 0)
theorem zer_iff (g : Nat → Int) (k : Nat) : zer g k = true ↔ ∀ j, j < k → g j = 0 := by
  induction k with
  | zero => exact ⟨fun _ j hj => absurd hj (by omega), fun _ => rfl⟩
  | succ k ih =>
    simp only [zer, Bool.and_eq_true, beq_iff_eq, ih]
    exact ⟨fun h j hj => by
      by_cases e : j = k
      · subst e; exact h.2
      · exact h.1 j (by omega), fun h => ⟨fun j hj => h j (by omega), h k (by omega)⟩⟩
theorem turn_mod (x a b : Int) : turn x a b % 65535 = (x + (a - b)) % 65535 := by
  unfold turn plus
  split <;> split <;> omega
end Go.Proofs.Ytjljaecjnpmdoaa
