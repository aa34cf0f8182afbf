/- A wheel's places, as plain functions: whose turn it is, which place is taken, how many there are of each. -/
import Derived.Test.YtejlfbiehcfbgaaBase
namespace Go.Proofs.Ytejlfbiehcfbgaa
set_option linter.unusedVariables false
/-- The place of turn j on a course. -/
def posW (a b j : Nat) : Nat := (a + j * b) % 127
theorem pos_lt (a b j : Nat) : posW a b j < 127 := Nat.mod_lt _ (by omega)
theorem inv127 : ∀ b, b < 127 → 1 ≤ b → (b * (b ^ 125 % 127)) % 127 = 1 := by decide +kernel
theorem cover (a b p : Nat) (hb : 1 ≤ b ∧ b ≤ 126) (hp : p < 127) : ∃ j, j < 127 ∧ posW a b j = p := by
  have hi := inv127 b (by omega) hb.1
  generalize b ^ 125 % 127 = c at hi
  refine ⟨((p + 127 - a % 127) * c) % 127, Nat.mod_lt _ (by omega), ?_⟩
  unfold posW
  have ha : a % 127 < 127 := Nat.mod_lt _ (by omega)
  have h1 : (((p + 127 - a % 127) * c) % 127 * b) % 127 = (p + 127 - a % 127) % 127 := by
    rw [Nat.mod_mul_mod, Nat.mul_assoc, Nat.mul_comm c b, ← Nat.mul_mod_mod, hi, Nat.mul_one]
  rw [Nat.add_mod, h1, ← Nat.add_mod, Nat.add_mod, ← Nat.add_mod]
  omega
/-- How often a number stands in the first n places. -/
def cnW (f : Nat → Int) (x : Int) : Nat → Nat
  | 0 => 0
  | n + 1 => cnW f x n + if f n = x then 1 else 0
def putW (f : Nat → Int) (p : Nat) (v : Int) : Nat → Int := fun j => if j = p then v else f j
theorem cn_le (f : Nat → Int) (x : Int) : ∀ n, cnW f x n ≤ n
  | 0 => Nat.le_refl _
  | n + 1 => by
    have := cn_le f x n
    unfold cnW
    split <;> omega
theorem cn_put_ge (f : Nat → Int) (x v : Int) {p : Nat} : ∀ {n}, n ≤ p → cnW (putW f p v) x n = cnW f x n
  | 0, _ => rfl
  | n + 1, h => by
    have h1 : putW f p v n = f n := by unfold putW; rw [if_neg (by omega)]
    show cnW (putW f p v) x n + (if putW f p v n = x then 1 else 0) = cnW f x n + _
    rw [cn_put_ge f x v (by omega), h1]
theorem cn_put (f : Nat → Int) (x v : Int) {p : Nat} : ∀ {n}, p < n → cnW (putW f p v) x n + (if f p = x then 1 else 0) = cnW f x n + (if v = x then 1 else 0)
  | 0, h => absurd h (by omega)
  | n + 1, h => by
    by_cases e : p = n
    · subst e
      show cnW (putW f p v) x p + (if putW f p v p = x then 1 else 0) + _ = cnW f x p + (if f p = x then 1 else 0) + _
      rw [cn_put_ge f x v (Nat.le_refl _)]
      have : putW f p v p = v := by unfold putW; simp
      rw [this]
      omega
    · have ih := cn_put f x v (p := p) (n := n) (by omega)
      show cnW (putW f p v) x n + (if putW f p v n = x then 1 else 0) + _ = cnW f x n + (if f n = x then 1 else 0) + _
      have : putW f p v n = f n := by unfold putW; rw [if_neg (by omega)]
      rw [this]
      omega
theorem cn_all (f : Nat → Int) (x : Int) : ∀ {n}, (∀ j, j < n → f j = x) → cnW f x n = n
  | 0, _ => rfl
  | n + 1, h => by
    unfold cnW
    rw [cn_all f x (fun j hj => h j (by omega)), if_pos (h n (by omega))]
theorem cn_no (f : Nat → Int) (x : Int) : ∀ {n}, (∀ j, j < n → f j ≠ x) → cnW f x n = 0
  | 0, _ => rfl
  | n + 1, h => by
    unfold cnW
    rw [cn_no f x (fun j hj => h j (by omega)), if_neg (h n (by omega))]
theorem cn_pos (f : Nat → Int) (x : Int) {n : Nat} (h : 0 < cnW f x n) : ∃ p, p < n ∧ f p = x := by
  apply Classical.byContradiction
  intro hc
  have := cn_no f x (n := n) (fun j hj e => hc ⟨j, hj, e⟩)
  omega
theorem cn_mem (f : Nat → Int) (x : Int) : ∀ {n p : Nat}, p < n → f p = x → 0 < cnW f x n
  | 0, _, hp, _ => absurd hp (by omega)
  | n + 1, p, hp, h => by
    show 0 < cnW f x n + (if f n = x then 1 else 0)
    by_cases e : p = n
    · subst e; rw [if_pos h]; omega
    · have := cn_mem f x (n := n) (p := p) (by omega) h
      omega
/-- The first turn of a course whose place is nobody's. -/
def ffW (f : Nat → Int) (a b : Nat) : Nat := ((List.range 127).find? (fun j => f (posW a b j) == -1)).getD 0
theorem ff_spec {f : Nat → Int} {a b : Nat} (hb : 1 ≤ b ∧ b ≤ 126) (h : 0 < cnW f (-1) 127) : ffW f a b < 127 ∧ f (posW a b (ffW f a b)) = -1 ∧ ∀ j, j < ffW f a b → f (posW a b j) ≠ -1 := by
  obtain ⟨p, hp, hf⟩ := cn_pos f _ h
  obtain ⟨j, hj, hjp⟩ := cover a b p hb hp
  unfold ffW
  cases hfi : (List.range 127).find? (fun j => f (posW a b j) == -1) with
  | none =>
    rw [List.find?_eq_none] at hfi
    have := hfi j (by simpa using hj)
    rw [hjp, hf] at this
    simp at this
  | some k =>
    rw [List.find?_range_eq_some] at hfi
    obtain ⟨h1, h2, h3⟩ := hfi
    simp only [Option.getD_some]
    refine ⟨by simpa using h2, by simpa using h1, fun i hi => ?_⟩
    have := h3 i hi
    simpa using this
theorem ff_eq {f : Nat → Int} {a b j : Nat} (hj : j < 127) (h1 : f (posW a b j) = -1) (h2 : ∀ i, i < j → f (posW a b i) ≠ -1) : ffW f a b = j := by
  unfold ffW
  have : (List.range 127).find? (fun j => f (posW a b j) == -1) = some j := by
    rw [List.find?_range_eq_some]
    exact ⟨by simpa using h1, by simpa using hj, fun i hi => by simpa using h2 i hi⟩
  rw [this]
  rfl
/-- Turns ahead of a slot, in a round. -/
def offW (wt : Nat → Nat) : Nat → Nat
  | 0 => 0
  | i + 1 => offW wt i + wt i
theorem off_mono (wt : Nat → Nat) {i j : Nat} (h : i ≤ j) : offW wt i ≤ offW wt j := by
  induction j with
  | zero => have : i = 0 := by omega
            subst this; exact Nat.le_refl _
  | succ j ih =>
    by_cases e : i = j + 1
    · subst e; exact Nat.le_refl _
    · have := ih (by omega)
      show offW wt i ≤ offW wt j + wt j
      omega
/-- The slot of a turn of a round. -/
def slW (wt : Nat → Nat) (r : Nat) : Nat := ((List.range 64).find? (fun i => decide (r < offW wt (i + 1)))).getD 0
theorem sl_eq {wt : Nat → Nat} {i n : Nat} (hi : i < 64) (hn : n < wt i) : slW wt (offW wt i + n) = i := by
  unfold slW
  have : (List.range 64).find? (fun k => decide (offW wt i + n < offW wt (k + 1))) = some i := by
    rw [List.find?_range_eq_some]
    refine ⟨by show decide (offW wt i + n < offW wt i + wt i) = true; simp; omega, by simpa using hi, fun k hk => ?_⟩
    have := off_mono wt (show k + 1 ≤ i by omega)
    simp
    omega
  rw [this]
  rfl
theorem sl_of {wt : Nat → Nat} {r : Nat} (hr : r < offW wt 64) : ∃ i n, i < 64 ∧ n < wt i ∧ r = offW wt i + n := by
  have key : ∀ m, r < offW wt m → ∃ i n, i < m ∧ n < wt i ∧ r = offW wt i + n := by
    intro m
    induction m with
    | zero => intro h; exact absurd h (by simp [offW])
    | succ m ih =>
      intro h
      by_cases h2 : r < offW wt m
      · obtain ⟨i, n, h3, h4, h5⟩ := ih h2
        exact ⟨i, n, by omega, h4, h5⟩
      · have : offW wt (m + 1) = offW wt m + wt m := rfl
        exact ⟨m, r - offW wt m, by omega, by omega, by omega⟩
  exact key 64 hr
/-- The wheel behind k turns. -/
def wkW (wt at_ by_ : Nat → Nat) : Nat → Nat → Int
  | 0 => fun _ => -1
  | k + 1 => putW (wkW wt at_ by_ k) (posW (at_ (slW wt (k % offW wt 64))) (by_ (slW wt (k % offW wt 64))) (ffW (wkW wt at_ by_ k) (at_ (slW wt (k % offW wt 64))) (by_ (slW wt (k % offW wt 64))))) (slW wt (k % offW wt 64))
section
variable {wt at_ by_ : Nat → Nat}
theorem wk_free (hT : 0 < offW wt 64) (hb : ∀ i, i < 64 → 0 < wt i → 1 ≤ by_ i ∧ by_ i ≤ 126) : ∀ k, k ≤ 127 → cnW (wkW wt at_ by_ k) (-1) 127 = 127 - k
  | 0, _ => cn_all _ _ (fun _ _ => rfl)
  | k + 1, h => by
    have ih := wk_free hT hb k (by omega)
    obtain ⟨i, n, h1, h2, h3⟩ := sl_of (wt := wt) (r := k % offW wt 64) (Nat.mod_lt _ hT)
    have hsl : slW wt (k % offW wt 64) = i := by rw [h3]; exact sl_eq h1 h2
    have hs := ff_spec (f := wkW wt at_ by_ k) (a := at_ i) (b := by_ i) (hb i h1 (by omega)) (by rw [ih]; omega)
    unfold wkW
    rw [hsl]
    have hc := cn_put (wkW wt at_ by_ k) (-1) (i : Int) (p := posW (at_ i) (by_ i) (ffW (wkW wt at_ by_ k) (at_ i) (by_ i))) (n := 127) (pos_lt _ _ _)
    rw [if_pos hs.2.1, if_neg (by omega)] at hc
    omega
/-- How many of the first k turns are a slot's. -/
def tnW (wt : Nat → Nat) (i : Nat) : Nat → Nat
  | 0 => 0
  | k + 1 => tnW wt i k + if slW wt (k % offW wt 64) = i then 1 else 0
theorem wk_cn (hT : 0 < offW wt 64) (hb : ∀ i, i < 64 → 0 < wt i → 1 ≤ by_ i ∧ by_ i ≤ 126) (i : Nat) : ∀ k, k ≤ 127 → cnW (wkW wt at_ by_ k) (i : Int) 127 = tnW wt i k
  | 0, _ => cn_no _ _ (fun _ _ => by show (-1 : Int) ≠ i; omega)
  | k + 1, h => by
    have ih := wk_cn hT hb i k (by omega)
    have hfr := wk_free (at_ := at_) hT hb k (by omega)
    obtain ⟨s, n, h1, h2, h3⟩ := sl_of (wt := wt) (r := k % offW wt 64) (Nat.mod_lt _ hT)
    have hsl : slW wt (k % offW wt 64) = s := by rw [h3]; exact sl_eq h1 h2
    have hs := ff_spec (f := wkW wt at_ by_ k) (a := at_ s) (b := by_ s) (hb s h1 (by omega)) (by rw [hfr]; omega)
    unfold wkW tnW
    rw [hsl]
    have hc := cn_put (wkW wt at_ by_ k) (i : Int) (s : Int) (p := posW (at_ s) (by_ s) (ffW (wkW wt at_ by_ k) (at_ s) (by_ s))) (n := 127) (pos_lt _ _ _)
    rw [hs.2.1, if_neg (by omega)] at hc
    rw [ih] at hc
    by_cases e : s = i
    · subst e
      rw [if_pos rfl] at hc
      rw [if_pos rfl]
      omega
    · rw [if_neg (by omega)] at hc
      rw [if_neg e]
      omega
/-- What stands in a wheel is nobody, or a slot with turns. -/
theorem wk_val (hT : 0 < offW wt 64) : ∀ k p, wkW wt at_ by_ k p = -1 ∨ ∃ i : Nat, i < 64 ∧ 0 < wt i ∧ wkW wt at_ by_ k p = i
  | 0, p => .inl rfl
  | k + 1, p => by
    obtain ⟨s, n, h1, h2, h3⟩ := sl_of (wt := wt) (r := k % offW wt 64) (Nat.mod_lt _ hT)
    have hsl : slW wt (k % offW wt 64) = s := by rw [h3]; exact sl_eq h1 h2
    unfold wkW
    rw [hsl]
    unfold putW
    split
    · exact .inr ⟨s, h1, by omega, rfl⟩
    · exact wk_val hT k p
theorem wk_full (hT : 0 < offW wt 64) (hb : ∀ i, i < 64 → 0 < wt i → 1 ≤ by_ i ∧ by_ i ≤ 126) (p : Nat) (hp : p < 127) : ∃ i : Nat, i < 64 ∧ 0 < wt i ∧ wkW wt at_ by_ 127 p = i := by
  rcases wk_val (at_ := at_) (by_ := by_) hT 127 p with h | h
  · have := cn_mem _ _ hp h
    have h2 := wk_free (at_ := at_) hT hb 127 (by omega)
    omega
  · exact h
/-- What is once taken stays taken, by the same one. -/
theorem wk_keep (hT : 0 < offW wt 64) (hb : ∀ i, i < 64 → 0 < wt i → 1 ≤ by_ i ∧ by_ i ≤ 126) {p : Nat} {k : Nat} {v : Int} (h : wkW wt at_ by_ k p = v) (hv : v ≠ -1) : ∀ d, k + d ≤ 127 → wkW wt at_ by_ (k + d) p = v
  | 0, _ => h
  | d + 1, hd => by
    have ih := wk_keep hT hb h hv d (by omega)
    have hfr := wk_free (at_ := at_) hT hb (k + d) (by omega)
    obtain ⟨s, n, h1, h2, h3⟩ := sl_of (wt := wt) (r := (k + d) % offW wt 64) (Nat.mod_lt _ hT)
    have hsl : slW wt ((k + d) % offW wt 64) = s := by rw [h3]; exact sl_eq h1 h2
    have hs := ff_spec (f := wkW wt at_ by_ (k + d)) (a := at_ s) (b := by_ s) (hb s h1 (by omega)) (by rw [hfr]; omega)
    show wkW wt at_ by_ (k + d + 1) p = v
    unfold wkW
    rw [hsl]
    unfold putW
    split
    · rename_i e
      subst e
      rw [hs.2.1] at ih
      exact absurd ih.symm hv
    · exact ih
/-- How many of a whole number of rounds, and of r turns more, are a slot's. -/
theorem tn_eq {i : Nat} (hi : i < 64) (hT : 0 < offW wt 64) : ∀ q r, r ≤ offW wt 64 → tnW wt i (q * offW wt 64 + r) = q * wt i + min (r - offW wt i) (wt i) := by
  have hle : offW wt i + wt i ≤ offW wt 64 := off_mono wt (show i + 1 ≤ 64 by omega)
  have inner : ∀ q, tnW wt i (q * offW wt 64) = q * wt i → ∀ r, r ≤ offW wt 64 → tnW wt i (q * offW wt 64 + r) = q * wt i + min (r - offW wt i) (wt i) := by
    intro q h0 r
    induction r with
    | zero => intro _; simp [h0]
    | succ r ih =>
      intro hr
      have ih := ih (by omega)
      have hm : (q * offW wt 64 + r) % offW wt 64 = r := by
        rw [Nat.add_comm, Nat.add_mul_mod_self_right]
        exact Nat.mod_eq_of_lt (by omega)
      show tnW wt i (q * offW wt 64 + r) + (if slW wt ((q * offW wt 64 + r) % offW wt 64) = i then 1 else 0) = _
      rw [hm, ih]
      obtain ⟨s, n, h1, h2, h3⟩ := sl_of (wt := wt) (r := r) (by omega)
      have hsl : slW wt r = s := by rw [h3]; exact sl_eq h1 h2
      rw [hsl]
      by_cases e : s = i
      · subst e
        rw [if_pos rfl]
        omega
      · rw [if_neg e]
        rcases Nat.lt_or_ge s i with h | h
        · have := off_mono wt (show s + 1 ≤ i by omega)
          have h5 : offW wt (s + 1) = offW wt s + wt s := rfl
          omega
        · have := off_mono wt (show i + 1 ≤ s by omega)
          have h5 : offW wt (i + 1) = offW wt i + wt i := rfl
          omega
  intro q
  induction q with
  | zero => exact inner 0 (by simp [tnW])
  | succ q ih =>
    refine inner (q + 1) ?_
    have := ih (offW wt 64) (Nat.le_refl _)
    rw [Nat.add_mul, Nat.one_mul, this, Nat.add_mul, Nat.one_mul, Nat.min_eq_right (by omega)]
theorem tn_127 {i : Nat} (hi : i < 64) (hT : 0 < offW wt 64) : tnW wt i 127 = 127 / offW wt 64 * wt i + min (127 % offW wt 64 - offW wt i) (wt i) := by
  have := tn_eq hi hT (127 / offW wt 64) (127 % offW wt 64) (Nat.le_of_lt (Nat.mod_lt _ hT))
  rw [← this, Nat.mul_comm, Nat.div_add_mod]
/-- All turns are some slot's. -/
def tnSW (wt : Nat → Nat) (k : Nat) : Nat → Nat
  | 0 => 0
  | i + 1 => tnSW wt k i + tnW wt i k
theorem tnS_eq (hT : 0 < offW wt 64) : ∀ k, tnSW wt k 64 = k := by
  have step : ∀ k m, tnSW wt (k + 1) m = tnSW wt k m + if slW wt (k % offW wt 64) < m then 1 else 0 := by
    intro k m
    induction m with
    | zero => simp [tnSW]
    | succ m ih =>
      show tnSW wt (k + 1) m + (tnW wt m k + if slW wt (k % offW wt 64) = m then 1 else 0) = tnSW wt k m + tnW wt m k + _
      rw [ih]
      by_cases h1 : slW wt (k % offW wt 64) < m
      · rw [if_pos h1, if_neg (by omega), if_pos (by omega)]; omega
      · by_cases h2 : slW wt (k % offW wt 64) = m
        · rw [if_neg h1, if_pos h2, if_pos (by omega)]; omega
        · rw [if_neg h1, if_neg h2, if_neg (by omega)]; omega
  intro k
  induction k with
  | zero =>
    have : ∀ m, tnSW wt 0 m = 0 := by
      intro m
      induction m with
      | zero => rfl
      | succ m ih => show tnSW wt 0 m + 0 = 0; rw [ih]
    exact this 64
  | succ k ih =>
    obtain ⟨s, n, h1, h2, h3⟩ := sl_of (wt := wt) (r := k % offW wt 64) (Nat.mod_lt _ hT)
    have hsl : slW wt (k % offW wt 64) = s := by rw [h3]; exact sl_eq h1 h2
    rw [step, ih, hsl, if_pos h1]
end
end Go.Proofs.Ytejlfbiehcfbgaa
