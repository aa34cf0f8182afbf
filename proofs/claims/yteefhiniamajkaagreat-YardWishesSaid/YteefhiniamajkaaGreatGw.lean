/- A wheel's places, as plain functions: whose turn it is, which place is taken, how many there are of each. Arrays of numbers, in blocks and as values. What is asked of keyed sums; a slot's course; Pick, Share, Same. A course goes on; its next place. -/
import Derived.Test.YteefhiniamajkaaGreatGa
import Derived.Test.YteefhiniamajkaaGreatGc
import Derived.Test.YteefhiniamajkaaGreatGs
import Derived.BigQuiet
import Derived.Deep.RegionHeld3
import Derived.Deep.Cut
import Derived.Deep.LoopGhost
namespace Go.Proofs.YteefhiniamajkaaGreat
set_option linter.unusedVariables false
/-- The place of turn j on a course. -/
def posW (a b j : Nat) : Nat := (a + j * b) % 127
theorem pos_lt (a b j : Nat) : posW a b j < 127 := Nat.mod_lt _ (by omega)
theorem inv127 : ∀ b, b < 127 → 1 ≤ b → (b * (b ^ 125 % 127)) % 127 = 1 := by decide +kernel
theorem cover (a b p : Nat) (hb : 1 ≤ b ∧ b ≤ 126) (hp : p < 127) : ∃ j, j < 127 ∧ posW a b j = p := by
  have hi := inv127 b (by omega) hb.1
  generalize b ^ 125 % 127 = c at hi
  refine ⟨((p + 127 - a % 127) * c) % 127, Nat.mod_lt _ (by omega), ?_⟩
  unfold posW
  have ha : a % 127 < 127 := Nat.mod_lt _ (by omega)
  have h1 : (((p + 127 - a % 127) * c) % 127 * b) % 127 = (p + 127 - a % 127) % 127 := by
    rw [Nat.mod_mul_mod, Nat.mul_assoc, Nat.mul_comm c b, ← Nat.mul_mod_mod, hi, Nat.mul_one]
  rw [Nat.add_mod, h1, ← Nat.add_mod, Nat.add_mod, ← Nat.add_mod]
  omega
/-- How often a number stands in the first n places. -/
def cnW (f : Nat → Int) (x : Int) : Nat → Nat
  | 0 => 0
  | n + 1 => cnW f x n + if f n = x then 1 else 0
def putW (f : Nat → Int) (p : Nat) (v : Int) : Nat → Int := fun j => if j = p then v else f j
theorem cn_le (f : Nat → Int) (x : Int) : ∀ n, cnW f x n ≤ n
  | 0 => Nat.le_refl _
  | n + 1 => by
    have := cn_le f x n
    unfold cnW
    split <;> omega
theorem cn_put_ge (f : Nat → Int) (x v : Int) {p : Nat} : ∀ {n}, n ≤ p → cnW (putW f p v) x n = cnW f x n
  | 0, _ => rfl
  | n + 1, h => by
    have h1 : putW f p v n = f n := by unfold putW; rw [if_neg (by omega)]
    show cnW (putW f p v) x n + (if putW f p v n = x then 1 else 0) = cnW f x n + _
    rw [cn_put_ge f x v (by omega), h1]
theorem cn_put (f : Nat → Int) (x v : Int) {p : Nat} : ∀ {n}, p < n → cnW (putW f p v) x n + (if f p = x then 1 else 0) = cnW f x n + (if v = x then 1 else 0)
  | 0, h => absurd h (by omega)
  | n + 1, h => by
    by_cases e : p = n
    · subst e
      show cnW (putW f p v) x p + (if putW f p v p = x then 1 else 0) + _ = cnW f x p + (if f p = x then 1 else 0) + _
      rw [cn_put_ge f x v (Nat.le_refl _)]
      have : putW f p v p = v := by unfold putW; simp
      rw [this]
      omega
    · have ih := cn_put f x v (p := p) (n := n) (by omega)
      show cnW (putW f p v) x n + (if putW f p v n = x then 1 else 0) + _ = cnW f x n + (if f n = x then 1 else 0) + _
      have : putW f p v n = f n := by unfold putW; rw [if_neg (by omega)]
      rw [this]
      omega
theorem cn_all (f : Nat → Int) (x : Int) : ∀ {n}, (∀ j, j < n → f j = x) → cnW f x n = n
  | 0, _ => rfl
  | n + 1, h => by
    unfold cnW
    rw [cn_all f x (fun j hj => h j (by omega)), if_pos (h n (by omega))]
theorem cn_no (f : Nat → Int) (x : Int) : ∀ {n}, (∀ j, j < n → f j ≠ x) → cnW f x n = 0
  | 0, _ => rfl
  | n + 1, h => by
    unfold cnW
    rw [cn_no f x (fun j hj => h j (by omega)), if_neg (h n (by omega))]
theorem cn_pos (f : Nat → Int) (x : Int) {n : Nat} (h : 0 < cnW f x n) : ∃ p, p < n ∧ f p = x := by
  apply Classical.byContradiction
  intro hc
  have := cn_no f x (n := n) (fun j hj e => hc ⟨j, hj, e⟩)
  omega
theorem cn_mem (f : Nat → Int) (x : Int) : ∀ {n p : Nat}, p < n → f p = x → 0 < cnW f x n
  | 0, _, hp, _ => absurd hp (by omega)
  | n + 1, p, hp, h => by
    show 0 < cnW f x n + (if f n = x then 1 else 0)
    by_cases e : p = n
    · subst e; rw [if_pos h]; omega
    · have := cn_mem f x (n := n) (p := p) (by omega) h
      omega
/-- The first turn of a course whose place is nobody's. -/
def ffW (f : Nat → Int) (a b : Nat) : Nat := ((List.range 127).find? (fun j => f (posW a b j) == -1)).getD 0
theorem ff_spec {f : Nat → Int} {a b : Nat} (hb : 1 ≤ b ∧ b ≤ 126) (h : 0 < cnW f (-1) 127) : ffW f a b < 127 ∧ f (posW a b (ffW f a b)) = -1 ∧ ∀ j, j < ffW f a b → f (posW a b j) ≠ -1 := by
  obtain ⟨p, hp, hf⟩ := cn_pos f _ h
  obtain ⟨j, hj, hjp⟩ := cover a b p hb hp
  unfold ffW
  cases hfi : (List.range 127).find? (fun j => f (posW a b j) == -1) with
  | none =>
    rw [List.find?_eq_none] at hfi
    have := hfi j (by simpa using hj)
    rw [hjp, hf] at this
    simp at this
  | some k =>
    rw [List.find?_range_eq_some] at hfi
    obtain ⟨h1, h2, h3⟩ := hfi
    simp only [Option.getD_some]
    refine ⟨by simpa using h2, by simpa using h1, fun i hi => ?_⟩
    have := h3 i hi
    simpa using this
theorem ff_eq {f : Nat → Int} {a b j : Nat} (hj : j < 127) (h1 : f (posW a b j) = -1) (h2 : ∀ i, i < j → f (posW a b i) ≠ -1) : ffW f a b = j := by
  unfold ffW
  have : (List.range 127).find? (fun j => f (posW a b j) == -1) = some j := by
    rw [List.find?_range_eq_some]
    exact ⟨by simpa using h1, by simpa using hj, fun i hi => by simpa using h2 i hi⟩
  rw [this]
  rfl
/-- Turns ahead of a slot, in a round. -/
def offW (wt : Nat → Nat) : Nat → Nat
  | 0 => 0
  | i + 1 => offW wt i + wt i
theorem off_mono (wt : Nat → Nat) {i j : Nat} (h : i ≤ j) : offW wt i ≤ offW wt j := by
  induction j with
  | zero => have : i = 0 := by omega
            subst this; exact Nat.le_refl _
  | succ j ih =>
    by_cases e : i = j + 1
    · subst e; exact Nat.le_refl _
    · have := ih (by omega)
      show offW wt i ≤ offW wt j + wt j
      omega
/-- The slot of a turn of a round. -/
def slW (wt : Nat → Nat) (r : Nat) : Nat := ((List.range 64).find? (fun i => decide (r < offW wt (i + 1)))).getD 0
theorem sl_eq {wt : Nat → Nat} {i n : Nat} (hi : i < 64) (hn : n < wt i) : slW wt (offW wt i + n) = i := by
  unfold slW
  have : (List.range 64).find? (fun k => decide (offW wt i + n < offW wt (k + 1))) = some i := by
    rw [List.find?_range_eq_some]
    refine ⟨by show decide (offW wt i + n < offW wt i + wt i) = true; simp; omega, by simpa using hi, fun k hk => ?_⟩
    have := off_mono wt (show k + 1 ≤ i by omega)
    simp
    omega
  rw [this]
  rfl
theorem sl_of {wt : Nat → Nat} {r : Nat} (hr : r < offW wt 64) : ∃ i n, i < 64 ∧ n < wt i ∧ r = offW wt i + n := by
  have key : ∀ m, r < offW wt m → ∃ i n, i < m ∧ n < wt i ∧ r = offW wt i + n := by
    intro m
    induction m with
    | zero => intro h; exact absurd h (by simp [offW])
    | succ m ih =>
      intro h
      by_cases h2 : r < offW wt m
      · obtain ⟨i, n, h3, h4, h5⟩ := ih h2
        exact ⟨i, n, by omega, h4, h5⟩
      · have : offW wt (m + 1) = offW wt m + wt m := rfl
        exact ⟨m, r - offW wt m, by omega, by omega, by omega⟩
  exact key 64 hr
/-- The wheel behind k turns. -/
def wkW (wt at_ by_ : Nat → Nat) : Nat → Nat → Int
  | 0 => fun _ => -1
  | k + 1 => putW (wkW wt at_ by_ k) (posW (at_ (slW wt (k % offW wt 64))) (by_ (slW wt (k % offW wt 64))) (ffW (wkW wt at_ by_ k) (at_ (slW wt (k % offW wt 64))) (by_ (slW wt (k % offW wt 64))))) (slW wt (k % offW wt 64))
section
variable {wt at_ by_ : Nat → Nat}
theorem wk_free (hT : 0 < offW wt 64) (hb : ∀ i, i < 64 → 0 < wt i → 1 ≤ by_ i ∧ by_ i ≤ 126) : ∀ k, k ≤ 127 → cnW (wkW wt at_ by_ k) (-1) 127 = 127 - k
  | 0, _ => cn_all _ _ (fun _ _ => rfl)
  | k + 1, h => by
    have ih := wk_free hT hb k (by omega)
    obtain ⟨i, n, h1, h2, h3⟩ := sl_of (wt := wt) (r := k % offW wt 64) (Nat.mod_lt _ hT)
    have hsl : slW wt (k % offW wt 64) = i := by rw [h3]; exact sl_eq h1 h2
    have hs := ff_spec (f := wkW wt at_ by_ k) (a := at_ i) (b := by_ i) (hb i h1 (by omega)) (by rw [ih]; omega)
    unfold wkW
    rw [hsl]
    have hc := cn_put (wkW wt at_ by_ k) (-1) (i : Int) (p := posW (at_ i) (by_ i) (ffW (wkW wt at_ by_ k) (at_ i) (by_ i))) (n := 127) (pos_lt _ _ _)
    rw [if_pos hs.2.1, if_neg (by omega)] at hc
    omega
/-- How many of the first k turns are a slot's. -/
def tnW (wt : Nat → Nat) (i : Nat) : Nat → Nat
  | 0 => 0
  | k + 1 => tnW wt i k + if slW wt (k % offW wt 64) = i then 1 else 0
theorem wk_cn (hT : 0 < offW wt 64) (hb : ∀ i, i < 64 → 0 < wt i → 1 ≤ by_ i ∧ by_ i ≤ 126) (i : Nat) : ∀ k, k ≤ 127 → cnW (wkW wt at_ by_ k) (i : Int) 127 = tnW wt i k
  | 0, _ => cn_no _ _ (fun _ _ => by show (-1 : Int) ≠ i; omega)
  | k + 1, h => by
    have ih := wk_cn hT hb i k (by omega)
    have hfr := wk_free (at_ := at_) hT hb k (by omega)
    obtain ⟨s, n, h1, h2, h3⟩ := sl_of (wt := wt) (r := k % offW wt 64) (Nat.mod_lt _ hT)
    have hsl : slW wt (k % offW wt 64) = s := by rw [h3]; exact sl_eq h1 h2
    have hs := ff_spec (f := wkW wt at_ by_ k) (a := at_ s) (b := by_ s) (hb s h1 (by omega)) (by rw [hfr]; omega)
    unfold wkW tnW
    rw [hsl]
    have hc := cn_put (wkW wt at_ by_ k) (i : Int) (s : Int) (p := posW (at_ s) (by_ s) (ffW (wkW wt at_ by_ k) (at_ s) (by_ s))) (n := 127) (pos_lt _ _ _)
    rw [hs.2.1, if_neg (by omega)] at hc
    rw [ih] at hc
    by_cases e : s = i
    · subst e
      rw [if_pos rfl] at hc
      rw [if_pos rfl]
      omega
    · rw [if_neg (by omega)] at hc
      rw [if_neg e]
      omega
/-- What stands in a wheel is nobody, or a slot with turns. -/
theorem wk_val (hT : 0 < offW wt 64) : ∀ k p, wkW wt at_ by_ k p = -1 ∨ ∃ i : Nat, i < 64 ∧ 0 < wt i ∧ wkW wt at_ by_ k p = i
  | 0, p => .inl rfl
  | k + 1, p => by
    obtain ⟨s, n, h1, h2, h3⟩ := sl_of (wt := wt) (r := k % offW wt 64) (Nat.mod_lt _ hT)
    have hsl : slW wt (k % offW wt 64) = s := by rw [h3]; exact sl_eq h1 h2
    unfold wkW
    rw [hsl]
    unfold putW
    split
    · exact .inr ⟨s, h1, by omega, rfl⟩
    · exact wk_val hT k p
theorem wk_full (hT : 0 < offW wt 64) (hb : ∀ i, i < 64 → 0 < wt i → 1 ≤ by_ i ∧ by_ i ≤ 126) (p : Nat) (hp : p < 127) : ∃ i : Nat, i < 64 ∧ 0 < wt i ∧ wkW wt at_ by_ 127 p = i := by
  rcases wk_val (at_ := at_) (by_ := by_) hT 127 p with h | h
  · have := cn_mem _ _ hp h
    have h2 := wk_free (at_ := at_) hT hb 127 (by omega)
    omega
  · exact h
/-- What is once taken stays taken, by the same one. -/
theorem wk_keep (hT : 0 < offW wt 64) (hb : ∀ i, i < 64 → 0 < wt i → 1 ≤ by_ i ∧ by_ i ≤ 126) {p : Nat} {k : Nat} {v : Int} (h : wkW wt at_ by_ k p = v) (hv : v ≠ -1) : ∀ d, k + d ≤ 127 → wkW wt at_ by_ (k + d) p = v
  | 0, _ => h
  | d + 1, hd => by
    have ih := wk_keep hT hb h hv d (by omega)
    have hfr := wk_free (at_ := at_) hT hb (k + d) (by omega)
    obtain ⟨s, n, h1, h2, h3⟩ := sl_of (wt := wt) (r := (k + d) % offW wt 64) (Nat.mod_lt _ hT)
    have hsl : slW wt ((k + d) % offW wt 64) = s := by rw [h3]; exact sl_eq h1 h2
    have hs := ff_spec (f := wkW wt at_ by_ (k + d)) (a := at_ s) (b := by_ s) (hb s h1 (by omega)) (by rw [hfr]; omega)
    show wkW wt at_ by_ (k + d + 1) p = v
    unfold wkW
    rw [hsl]
    unfold putW
    split
    · rename_i e
      subst e
      rw [hs.2.1] at ih
      exact absurd ih.symm hv
    · exact ih
/-- How many of a whole number of rounds, and of r turns more, are a slot's. -/
theorem tn_eq {i : Nat} (hi : i < 64) (hT : 0 < offW wt 64) : ∀ q r, r ≤ offW wt 64 → tnW wt i (q * offW wt 64 + r) = q * wt i + min (r - offW wt i) (wt i) := by
  have hle : offW wt i + wt i ≤ offW wt 64 := off_mono wt (show i + 1 ≤ 64 by omega)
  have inner : ∀ q, tnW wt i (q * offW wt 64) = q * wt i → ∀ r, r ≤ offW wt 64 → tnW wt i (q * offW wt 64 + r) = q * wt i + min (r - offW wt i) (wt i) := by
    intro q h0 r
    induction r with
    | zero => intro _; simp [h0]
    | succ r ih =>
      intro hr
      have ih := ih (by omega)
      have hm : (q * offW wt 64 + r) % offW wt 64 = r := by
        rw [Nat.add_comm, Nat.add_mul_mod_self_right]
        exact Nat.mod_eq_of_lt (by omega)
      show tnW wt i (q * offW wt 64 + r) + (if slW wt ((q * offW wt 64 + r) % offW wt 64) = i then 1 else 0) = _
      rw [hm, ih]
      obtain ⟨s, n, h1, h2, h3⟩ := sl_of (wt := wt) (r := r) (by omega)
      have hsl : slW wt r = s := by rw [h3]; exact sl_eq h1 h2
      rw [hsl]
      by_cases e : s = i
      · subst e
        rw [if_pos rfl]
        omega
      · rw [if_neg e]
        rcases Nat.lt_or_ge s i with h | h
        · have := off_mono wt (show s + 1 ≤ i by omega)
          have h5 : offW wt (s + 1) = offW wt s + wt s := rfl
          omega
        · have := off_mono wt (show i + 1 ≤ s by omega)
          have h5 : offW wt (i + 1) = offW wt i + wt i := rfl
          omega
  intro q
  induction q with
  | zero => exact inner 0 (by simp [tnW])
  | succ q ih =>
    refine inner (q + 1) ?_
    have := ih (offW wt 64) (Nat.le_refl _)
    rw [Nat.add_mul, Nat.one_mul, this, Nat.add_mul, Nat.one_mul, Nat.min_eq_right (by omega)]
theorem tn_127 {i : Nat} (hi : i < 64) (hT : 0 < offW wt 64) : tnW wt i 127 = 127 / offW wt 64 * wt i + min (127 % offW wt 64 - offW wt i) (wt i) := by
  have := tn_eq hi hT (127 / offW wt 64) (127 % offW wt 64) (Nat.le_of_lt (Nat.mod_lt _ hT))
  rw [← this, Nat.mul_comm, Nat.div_add_mod]
/-- All turns are some slot's. -/
def tnSW (wt : Nat → Nat) (k : Nat) : Nat → Nat
  | 0 => 0
  | i + 1 => tnSW wt k i + tnW wt i k
theorem tnS_eq (hT : 0 < offW wt 64) : ∀ k, tnSW wt k 64 = k := by
  have step : ∀ k m, tnSW wt (k + 1) m = tnSW wt k m + if slW wt (k % offW wt 64) < m then 1 else 0 := by
    intro k m
    induction m with
    | zero => simp [tnSW]
    | succ m ih =>
      show tnSW wt (k + 1) m + (tnW wt m k + if slW wt (k % offW wt 64) = m then 1 else 0) = tnSW wt k m + tnW wt m k + _
      rw [ih]
      by_cases h1 : slW wt (k % offW wt 64) < m
      · rw [if_pos h1, if_neg (by omega), if_pos (by omega)]; omega
      · by_cases h2 : slW wt (k % offW wt 64) = m
        · rw [if_neg h1, if_pos h2, if_pos (by omega)]; omega
        · rw [if_neg h1, if_neg h2, if_neg (by omega)]; omega
  intro k
  induction k with
  | zero =>
    have : ∀ m, tnSW wt 0 m = 0 := by
      intro m
      induction m with
      | zero => rfl
      | succ m ih => show tnSW wt 0 m + 0 = 0; rw [ih]
    exact this 64
  | succ k ih =>
    obtain ⟨s, n, h1, h2, h3⟩ := sl_of (wt := wt) (r := k % offW wt 64) (Nat.mod_lt _ hT)
    have hsl : slW wt (k % offW wt 64) = s := by rw [h3]; exact sl_eq h1 h2
    rw [step, ih, hsl, if_pos h1]
end
end Go.Proofs.YteefhiniamajkaaGreat
namespace Go.Proofs.YteefhiniamajkaaGreat
set_option linter.unusedVariables false
set_option linter.unusedSimpArgs false
open Go.RowKit Go.ChangeShapes Go.WideShapes Go.ChangeAt

def il (n : Nat) (f : Nat → Int) : List Value := (List.range n).map fun j => .int .i64 (f j)
def ia (n : Nat) (f : Nat → Int) : Array Value := (il n f).toArray
theorem il_len (n : Nat) (f : Nat → Int) : (il n f).length = n := by unfold il; simp
theorem ia_size (n : Nat) (f : Nat → Int) : (ia n f).size = n := by unfold ia; simp [il_len]
theorem il_at (n : Nat) (f : Nat → Int) (j : Nat) (h : j < n) : (il n f)[j]? = some (.int .i64 (f j)) := by unfold il; simp [h]
theorem ia_at (n : Nat) (f : Nat → Int) (j : Nat) (h : j < n) : (ia n f)[j]? = some (.int .i64 (f j)) := by unfold ia; simp [il_at n f j h]
theorem ia_one (n : Nat) (f : Nat → Int) : (ia n f).all (·.oneCell') = true := by
  unfold ia
  refine all_oneCell_toArray fun v hv => ?_
  unfold il at hv
  simp only [List.mem_map] at hv
  obtain ⟨j, _, rfl⟩ := hv
  rfl
theorem il_ext {n : Nat} {f g : Nat → Int} (h : ∀ j, j < n → f j = g j) : il n f = il n g := by
  unfold il
  exact List.map_congr_left fun j hj => by rw [h j (by simpa using hj)]
/-- Block b is n numbers, that may be written. -/
def IA (w : World) (b n : Nat) (f : Nat → Int) : Prop := b < w.heap.size ∧ (∀ j, j < n → w.cell? ⟨b, j, none⟩ = some (.int .i64 (f j))) ∧ ∀ j, w.frozen? ⟨b, j, none⟩ = false
theorem grown_drew (w : World) (row : Option Nat) : w.grownBy w.drew row := ⟨rfl, rfl, rfl, Nat.le_refl _, fun _ _ _ => rfl⟩
theorem grown_drewN (w : World) (k : Nat) (row : Option Nat) : w.grownBy (w.drewN k) row := ⟨rfl, rfl, rfl, Nat.le_refl _, fun _ _ _ => rfl⟩
section
variable {w w' : World} {b n : Nat} {f g : Nat → Int}
theorem IA.below (h : IA w b n f) (hb : Below w.heap.size w w') : IA w' b n f :=
  ⟨Nat.lt_of_lt_of_le h.1 hb.size, fun j hj => (hb.cell (p := ⟨b, j, none⟩) h.1).trans (h.2.1 j hj), fun j => (World.frozen?_of_block (a := ⟨b, j, none⟩) (hb.block b h.1)).trans (h.2.2 j)⟩
theorem IA.alloc (h : IA w b n f) (o : Obj) : IA (w.alloc o) b n f := h.below ((Below.refl _ _).alloc (Nat.le_refl _) o)
theorem IA.drew (h : IA w b n f) : IA w.drew b n f := h
theorem IA.drewN (h : IA w b n f) (k : Nat) : IA (w.drewN k) b n f := h
theorem IA.grown {row : Option Nat} (h : IA w b n f) (hg : w.grownBy w' row) (hne : row ≠ some b) : IA w' b n f :=
  have hb := hg.block b h.1 (fun e => hne e.symm)
  ⟨Nat.lt_of_lt_of_le h.1 hg.size, fun j hj => (World.cell?_of_block (a := ⟨b, j, none⟩) hb).trans (h.2.1 j hj), fun j => (World.frozen?_of_block (a := ⟨b, j, none⟩) hb).trans (h.2.2 j)⟩
theorem IA.as_ (h : IA w b n f) (hf : ∀ j, j < n → f j = g j) : IA w b n g := ⟨h.1, fun j hj => by rw [h.2.1 j hj, hf j hj], h.2.2⟩
theorem IA.made {T : TypeId} {d : Nat} (hd : w.heap.size = d) : IA (w.alloc (.cells (ia n f) T)) d n f := by
  subst hd
  have h : (w.alloc (.cells (ia n f) T)).heap[w.heap.size]? = some (.cells (ia n f) T (0, 0)) := heap_alloc_new w _
  refine ⟨by simp, fun j hj => ?_, fun j => frozen_of_row _ _ _ _ _ h⟩
  rw [cell_of_row _ w.heap.size j _ T (0, 0) h, ia_at n f j hj]
theorem IA.other (h : IA w b n f) {c j : Nat} {v : Value} (hne : c ≠ b) : IA (w.setCell ⟨c, j, none⟩ v) b n f :=
  ⟨by simpa using h.1, fun i hi => by rw [World.cell?_setCell_other _ _ _ _ (fun e => hne (by cases e; rfl))]; exact h.2.1 i hi, fun i => by rw [World.frozen?_setCell]; exact h.2.2 i⟩
theorem IA.others (h : IA w b n f) {c o : Nat} {vs : List Value} (hne : c ≠ b) (hn : 0 < n) : IA (w.setCells c o vs) b n f := by
  refine ⟨?_, fun i hi => ?_, fun i => by rw [World.frozen?_setCells]; exact h.2.2 i⟩
  · have h2 : (w.setCells c o vs).cell? ⟨b, 0, none⟩ = some (.int .i64 (f 0)) := by rw [World.cell?_setCells_out c vs o w _ (fun e _ => absurd e.symm hne)]; exact h.2.1 0 hn
    exact World.block_lt_of_cell? _ _ h2
  · rw [World.cell?_setCells_out c vs o w _ (fun e _ => absurd e.symm hne)]; exact h.2.1 i hi
/-- One number is written. -/
theorem IA.set (h : IA w b n f) (j : Nat) (hj : j < n) (x : Int) : IA (w.setCell ⟨b, j, none⟩ (.int .i64 x)) b n (putW f j x) := by
  refine ⟨by simpa using h.1, fun i hi => ?_, fun i => by rw [World.frozen?_setCell]; exact h.2.2 i⟩
  unfold putW
  by_cases e : i = j
  · subst e
    rw [if_pos rfl]
    exact World.cell?_setCell_same _ _ _ (h.2.1 i hi)
  · rw [if_neg e, World.cell?_setCell_other _ _ _ _ (fun x => e (by injection x with _ x; exact x.symm))]
    exact h.2.1 i hi
theorem IA.whole (h : IA w b n f) (g : Nat → Int) (hn : 0 < n) : IA (w.setCells b 0 (ia n g).toList) b n g := by
  have e : (ia n g).toList = il n g := rfl
  rw [e]
  have hc : ∀ j, j < n → (w.setCells b 0 (il n g)).cell? ⟨b, j, none⟩ = some (.int .i64 (g j)) := by
    intro j hj
    have := World.cell?_setCells_in b (il n g) 0 w (fun i hi => by rw [Nat.zero_add, h.2.1 i (by rwa [il_len] at hi)]; rfl) j (by rw [il_len]; exact hj)
    rw [Nat.zero_add] at this
    rw [this]
    have h2 := il_at n g j hj
    rw [List.getElem?_eq_getElem (by rw [il_len]; exact hj)] at h2
    exact h2
  exact ⟨World.block_lt_of_cell? _ _ (hc 0 hn), hc, fun i => by rw [World.frozen?_setCells]; exact h.2.2 i⟩
theorem IA.load {T : TypeId} {d : TypeDesc} (h : IA w b n f) (hu : Tryz.prog.underlying T = some d) (hd : d.isRow = true) (hi : (Tryz.prog.info? T).map (·.size) = some n) :
    (Instr.loadAt T (.pointer (some ⟨b, 0, none⟩))).run Tryz.prog w = .ok (.agg (ia n f)) w := by
  refine run_loadAt_mid w b 0 T (il n f) d (fun j v hj => ?_) hu hd (by rw [il_len]; exact hi)
  have hl : j < n := by
    have := (List.getElem?_eq_some_iff.1 hj).1
    rwa [il_len] at this
  rw [il_at n f j hl] at hj
  rw [Nat.zero_add, h.2.1 j hl, hj]
theorem IA.store {T : TypeId} (h : IA w b n f) (g : Nat → Int) (hi : (Tryz.prog.info? T).map (·.size) = some n) :
    (Instr.storeAt T (.pointer (some ⟨b, 0, none⟩)) (.agg (ia n g))).run Tryz.prog w = .ok () (w.setCells b 0 (ia n g).toList) := by
  refine run_storeAt_mid w b 0 T (ia n g) (fun j hj => ?_) (by rw [ia_size]; exact hi) (ia_one n g)
  rw [ia_size] at hj
  rw [Nat.zero_add, h.2.1 j hj]
  exact ⟨rfl, h.2.2 j⟩
theorem IA.slice (h : IA w b n f) : Is w (some ⟨b, 0, none⟩) n f := fun h0 => ⟨b, 0, rfl, h.1, fun j hj => by rw [Nat.zero_add]; exact h.2.1 j hj⟩
end
theorem grown_set {w w' : World} {b j : Nat} {v : Value} (h : w.grownBy w' (some b)) : w.grownBy (w'.setCell ⟨b, j, none⟩ v) (some b) := by
  have hb := keeps_setCells b [v] j w' b (Nat.le_refl _)
  have hs : (w'.setCell ⟨b, j, none⟩ v).heap.size = w'.heap.size := by simp
  refine ⟨h.os, h.tape, h.output, by rw [hs]; exact h.size, fun k hk hne => ?_⟩
  have hkb : k ≠ b := fun e => hne (by rw [e])
  rw [← h.block k hk hne]
  exact Below.heap_setCell _ _ _ _ hkb
end Go.Proofs.YteefhiniamajkaaGreat
namespace Go.Proofs.YteefhiniamajkaaGreat
set_option linter.unusedVariables false
set_option linter.unusedSimpArgs false
open Go.RowKit Go.ChangeShapes Go.WideShapes Go.ChangeAt

structure Fl where
  a : Int
  p : Int
  ta : Int
  tp : Int
theorem sumW_U (a b : Int) (f : Nat → Int) (n : Nat) : U (sumW a b f n) := by
  unfold sumW fin4
  exact U_xo _ _
/-- The keyed sum of three numbers, without a key. -/
def S3 (x y z : Int) : Int := sumW 0 0 (fun j => [x, y, z].getD j 0) 3
def S5 (f : Fl) : Int := sumW 0 0 (fun j => [3, f.a, f.p, f.ta, f.tp].getD j 0) 5
def cAt (a p : Int) : Int := S3 1 a p % 127
def cBy (a p : Int) : Int := S3 2 a p % 126 + 1
def pkW (f : Fl) : Int := S5 f % 127
theorem isI3 {x y z : Int} (hx : I64 x) (hy : I64 y) (hz : I64 z) : IsI (fun j => [x, y, z].getD j 0) := by
  intro j
  unfold I64 at hx hy hz
  rcases j with _ | _ | _ | j
  · exact hx
  · exact hy
  · exact hz
  · exact (by show (-9223372036854775808 : Int) ≤ 0 ∧ (0 : Int) ≤ 9223372036854775807; decide)
def Fl.okI (f : Fl) : Prop := I64 f.a ∧ I64 f.p ∧ I64 f.ta ∧ I64 f.tp
theorem isI5 {f : Fl} (hf : Fl.okI f) : IsI (fun j => [3, f.a, f.p, f.ta, f.tp].getD j 0) := by
  intro j
  obtain ⟨h1, h2, h3, h4⟩ := hf
  rcases j with _ | _ | _ | _ | _ | j
  · exact (by show (-9223372036854775808 : Int) ≤ 3 ∧ (3 : Int) ≤ 9223372036854775807; decide)
  · exact h1
  · exact h2
  · exact h3
  · exact h4
  · exact (by show (-9223372036854775808 : Int) ≤ 0 ∧ (0 : Int) ≤ 9223372036854775807; decide)
theorem cAt_bd (a p : Int) : 0 ≤ cAt a p ∧ cAt a p < 127 := by unfold cAt; omega
theorem cBy_bd (a p : Int) : 1 ≤ cBy a p ∧ cBy a p ≤ 126 := by unfold cBy; omega
theorem pkW_bd (f : Fl) : 0 ≤ pkW f ∧ pkW f < 127 := by unfold pkW; omega
set_option maxRecDepth 100000 in
theorem ask_any (m : Int) (hm : m = 127 ∨ m = 126) (A : Option Addr) (n c : Nat) (f : Nat → Int) (w : World) (h : Is w A n f) (hf : IsI f) (hn : n ≤ 1000) :
    Calls Tryz.prog 100 #[.int .u64 m, .slice A n c] w fun e w' => e = .returned (.int .i64 (sumW 0 0 f n % m)) ∧ Below w.heap.size w w' := by
  have WD := hid (fun (w : World) (h : Is w A n f) => words_any 0 0 A n c f w h hf (by omega))
  obtain ⟨s, hs⟩ : ∃ s, s = sumW 0 0 f n := ⟨_, rfl⟩
  have hU := sumW_U 0 0 f n
  rw [← hs] at WD hU ⊢
  clear hs
  obtain ⟨u1, u2⟩ := hU
  rcases hm with rfl | rfl
  all_goals
    go_enter Tryz.func100, Tryz.ntmps100
    go_wp2_with fail
    refine (WD.out _ h).mono ?_
    rintro e w1 ⟨rfl, hb⟩
    go_wp2_with fail
    go_ret
    exact ⟨rfl, hb⟩
set_option maxRecDepth 100000 in
theorem order_any (st a p we si : Int) (ha : I64 a) (hp : I64 p) (w : World) :
    Calls Tryz.prog 80 #[.agg #[.int .i64 st, .int .i64 a, .int .i64 p, .int .i64 we, .int .i64 si]] w fun e w' => e = .returned (.tuple #[.int .i64 (cAt a p), .int .i64 (cBy a p)]) ∧ Below w.heap.size w w' := by
  have W1 := hid (fun (A : Option Addr) (w : World) (h : Is w A 3 (fun j => [1, a, p].getD j 0)) => rwords_any 0 0 A 3 3 _ w h (isI3 (by unfold I64; decide) ha hp) (by omega))
  have W2 := hid (fun (A : Option Addr) (w : World) (h : Is w A 3 (fun j => [2, a, p].getD j 0)) => rwords_any 0 0 A 3 3 _ w h (isI3 (by unfold I64; decide) ha hp) (by omega))
  have hU1 := sumW_U 0 0 (fun j => [1, a, p].getD j 0) 3
  have hU2 := sumW_U 0 0 (fun j => [2, a, p].getD j 0) 3
  unfold cAt cBy S3
  generalize sumW 0 0 (fun j => [1, a, p].getD j 0) 3 = s1 at *
  generalize sumW 0 0 (fun j => [2, a, p].getD j 0) 3 = s2 at *
  obtain ⟨u1, u2⟩ := hU1
  obtain ⟨v1, v2⟩ := hU2
  go_enter Tryz.func80, Tryz.ntmps80
  go_upto_region 1 with (fail)
  have C0 := Ce.made (w := w) (l := [.int .i64 st, .int .i64 a, .int .i64 p, .int .i64 we, .int .i64 si]) (T := 25) (g := w.heap.size) rfl
  have B0 := (Below.refl w.heap.size w).alloc (Nat.le_refl _) (.cells #[.int .i64 st, .int .i64 a, .int .i64 p, .int .i64 we, .int .i64 si] 25)
  generalize w.alloc (.cells #[.int .i64 st, .int .i64 a, .int .i64 p, .int .i64 we, .int .i64 si] 25) = w1 at *
  have HC := hid C0
  have HB := hid B0
  have x1 := C0.2.1 1 _ rfl
  have x2 := C0.2.1 2 _ rfl
  clear C0 B0
  go_wp2_with fail
  refine (W1.out _ _ (row_at .i64 [1, a, p] rfl)).mono ?_
  rintro e w2 ⟨rfl, hb⟩
  clear x1 x2
  have HC2 := hid ((HC.out.alloc _).below hb)
  have HB2 := hid ((HB.out.alloc HB.out.size _).trans (hb.mono (by have := HB.out.size; simp; omega)))
  clear hb HC HB
  have x1 := HC2.out.2.1 1 _ rfl
  have x2 := HC2.out.2.1 2 _ rfl
  go_wp2_with fail
  refine (W2.out _ _ (row_at .i64 [2, a, p] rfl)).mono ?_
  rintro e w3 ⟨rfl, hb⟩
  have HB3 := hid ((HB2.out.alloc HB2.out.size _).trans (hb.mono (by have := HB2.out.size; simp; omega)))
  clear hb x1 x2 HC2 HB2
  go_wp2_with fail
  go_ret2
  exact ⟨rfl, HB3.out⟩
def sameW (f g : Nat → Int) (n : Nat) : Bool := (List.range n).all fun j => f j == g j
end Go.Proofs.YteefhiniamajkaaGreat
namespace Go.Proofs.YteefhiniamajkaaGreat
set_option linter.unusedVariables false
set_option linter.unusedSimpArgs false
open Go.RowKit Go.ChangeShapes Go.WideShapes Go.ChangeAt

set_option maxRecDepth 100000 in
set_option maxHeartbeats 4000000 in
theorem on_any (C o : Nat) (ho : o + 1 < 128) (g : Nat → Int) (a : Int) (h0 : 0 ≤ g o ∧ g o < 127) (h1 : 1 ≤ g (o + 1) ∧ g (o + 1) ≤ 126) (he : (g o + g (o + 1)).tmod 127 = a) (w : World) (h : IA w C 128 g) :
    Calls Tryz.prog 101 #[.pointer (some ⟨C, o, none⟩)] w fun e w' => e = .returned (.tuple #[]) ∧ IA w' C 128 (putW g o a) ∧ w.grownBy w' (some C) := by
  obtain ⟨h01, h02⟩ := h0
  obtain ⟨h11, h12⟩ := h1
  have HI := hid h
  have HE := hid he
  have hw : IntKind.i64.wrap (g o + g (o + 1)) = g o + g (o + 1) := IntWalk.i64_in _ (by omega)
  have c0 := h.2.1 o (by omega)
  have c1 := h.2.1 (o + 1) (by omega)
  have z0 := h.2.2 o
  generalize g o = x at *
  generalize g (o + 1) = y at *
  clear h
  go_enter Tryz.func101, Tryz.ntmps101
  go_upto_region 0 with (fail)
  go_region
  all_goals
    go_wp2_with fail
    go_end0
    refine ⟨rfl, ?_, ?_⟩
    · exact HI.out.drew.set o (by omega) a
    · exact grown_set (grown_drew w _)
theorem pos_succ (a b t : Nat) : ((posW a b t : Nat) : Int) + b = ((posW a b t + b : Nat) : Int) ∧ (((posW a b t : Nat) : Int) + b).tmod 127 = (posW a b (t + 1) : Nat) := by
  refine ⟨by omega, ?_⟩
  have h : (posW a b t + b) % 127 = posW a b (t + 1) := by unfold posW; rw [Nat.mod_add_mod, Nat.add_assoc, ← Nat.succ_mul]
  rw [show ((posW a b t : Nat) : Int) + b = ((posW a b t + b : Nat) : Int) by omega, Int.tmod_eq_emod_of_nonneg (by omega), ← h]
  omega
theorem putW_same (g : Nat → Int) (o : Nat) (x : Int) : putW g o x o = x := by unfold putW; simp
theorem putW_ne (g : Nat → Int) {o j : Nat} (x : Int) (h : j ≠ o) : putW g o x j = g j := by unfold putW; rw [if_neg h]
theorem putW_put (g : Nat → Int) (o : Nat) (x y : Int) : putW (putW g o x) o y = putW g o y := by
  funext j
  unfold putW
  split <;> rfl
set_option maxRecDepth 100000 in
set_option maxHeartbeats 4000000 in
theorem next_any_w (C o B c a b k F : Nat) (ho : o + 1 < 128) (hne : C ≠ B) (hb : 1 ≤ b ∧ b ≤ 126) (g f : Nat → Int) (g0 : g o = (posW a b k : Nat)) (g1 : g (o + 1) = b) (HK : Hid (∀ j, j < k → f (posW a b j) ≠ -1))
    (hF : f (posW a b F) = -1) (hno : ∀ j, j < F → f (posW a b j) ≠ -1) (w : World) (h : IA w C 128 g) (hB : IA w B 127 f) :
    Calls Tryz.prog 98 #[.pointer (some ⟨C, o, none⟩), .slice (some ⟨B, 0, none⟩) 127 c] w fun e w' => e = .returned (.int .i64 (posW a b F : Nat)) ∧ IA w' C 128 (putW g o (posW a b (F + 1) : Nat)) ∧ w.grownBy w' (some C) := by
  have HF := hid hF
  have HN := hid hno
  have HB := hid hB
  clear hno hB
  have b1 : 1 ≤ (b : Int) := by omega
  have b2 : (b : Int) ≤ 126 := by omega
  have hge : k ≤ F := by
    rcases Nat.lt_or_ge F k with h | h
    · exact absurd hF (HK.out F h)
    · exact h
  have ho' : o + 1 < 128 := ho
  have h0 := hid (show IA w C 128 (putW g o (posW a b k : Nat)) from h.as_ (fun j _ => by by_cases e : j = o; (subst e; rw [putW_same, g0]); (rw [putW_ne _ _ e])))
  have G1 := hid g1
  clear h g0 g1 hF
  go_enter Tryz.func98, Tryz.ntmps98
  go_wp2_with fail
  go_loopg [] (F - k) (fun gh wr => ∃ t, k ≤ t ∧ gh = F - t ∧ t ≤ F ∧ IA wr C 128 (putW g o (posW a b t : Nat)) ∧ w.grownBy wr (some C))
  case atStart => exact ⟨k, Nat.le_refl _, rfl, hge, h0.out, World.grownBy.refl w _⟩
  case round =>
    obtain ⟨t, ht, rfl, htF, hC, hg⟩ := hrel
    have HC := hid hC
    have HG := hid hg
    clear hC hg h0
    have hp := pos_lt a b t
    have hBr := HB.out.grown HG.out (fun e => hne (by injection e))
    have c0 := HC.out.2.1 o (by omega)
    rw [putW_same] at c0
    have cb := hBr.2.1 (posW a b t) hp
    clear hBr
    have p0 : (0 : Int) ≤ (posW a b t : Nat) := by omega
    have p1 : ((posW a b t : Nat) : Int) < 127 := by omega
    have p2 : ((posW a b t : Nat) : Int) ≤ 127 := by omega
    by_cases hlt : t < F
    · have hf := HN.out t hlt
      have bf : (f (posW a b t) != -1) = true := by simpa using hf
      clear hf
      have ON := hid (fun (w0 : World) (h : IA w0 C 128 (putW g o (posW a b t : Nat))) => on_any C o ho' (putW g o (posW a b t : Nat)) (posW a b (t + 1) : Nat) (by rw [putW_same]; omega) (by rw [putW_ne _ _ (by omega), G1.out]; omega) (by rw [putW_same, putW_ne _ _ (by omega), G1.out]; exact (pos_succ a b t).2) w0 h)
      generalize hq : posW a b t = q at *
      have HQ := hid hq
      clear hq
      go_wp2_with fail
      refine (ON.out _ HC.out).mono ?_
      rintro e w2 ⟨rfl, h2, hg2⟩
      have H2 := hid h2
      have HG2 := hid (HG.out.trans hg2)
      clear h2 hg2 HG ON c0 cb
      go_wp2_with fail
      go_roundg (F - (t + 1))
      case measure => omega
      case rel => exact ⟨t + 1, by omega, rfl, hlt, by have := H2.out; rw [putW_put] at this; exact this, HG2.out⟩
    · have e : t = F := by omega
      subst e
      have bf : (f (posW a b t) != -1) = false := by rw [HF.out]; rfl
      have ON := hid (fun (w0 : World) (h : IA w0 C 128 (putW g o (posW a b t : Nat))) => on_any C o ho' (putW g o (posW a b t : Nat)) (posW a b (t + 1) : Nat) (by rw [putW_same]; omega) (by rw [putW_ne _ _ (by omega), G1.out]; omega) (by rw [putW_same, putW_ne _ _ (by omega), G1.out]; exact (pos_succ a b t).2) w0 h)
      generalize hq : posW a b t = q at *
      have HQ := hid hq
      clear hq
      go_wp2_with fail
      refine (ON.out _ HC.out).mono ?_
      rintro e w2 ⟨rfl, h2, hg2⟩
      have H2 := hid h2
      have HG2 := hid (HG.out.trans hg2)
      clear h2 hg2 HG ON c0 cb
      go_wp2_with fail
      go_ret
      exact ⟨by rw [HQ.out]; rfl, by have := H2.out; rw [putW_put] at this; exact this, HG2.out⟩
end Go.Proofs.YteefhiniamajkaaGreat
