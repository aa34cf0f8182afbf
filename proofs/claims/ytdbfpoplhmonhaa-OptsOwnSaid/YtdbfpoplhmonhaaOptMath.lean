/- Options as plain lists of numbers. -/
import Derived.Test.YtdbfpoplhmonhaaWithin
namespace Go.Proofs.Ytdbfpoplhmonhaa
set_option linter.unusedVariables false
open Go.RowKit Go.ChangeShapes Go.WideShapes Go.ChangeAt

/-- The option that begins at place a of n bytes: its kind, where it begins, how long it is. -/
def oneO (g : Nat → Int) (n a : Nat) : Option (Int × Int × Int) :=
  if g a < 2 then some (g a, (a : Int), 1) else if n ≤ a + 1 then none else if g (a + 1) < 2 then none else if (n : Int) - a < g (a + 1) then none else some (g a, (a : Int), g (a + 1))
def wk (g : Nat → Int) (n : Nat) : Nat → Nat → Option (List (Int × Int × Int))
  | 0, a => if n ≤ a then some [] else none
  | f + 1, a => if n ≤ a then some [] else match oneO g n a with
    | none => none
    | some o => if o.1 = 0 then some [o] else (wk g n f (a + o.2.2.toNat)).map (o :: ·)
theorem one_is {g : Nat → Int} {n a : Nat} {o : Int × Int × Int} (h : oneO g n a = some o) (ha : a < n) : o.1 = g a ∧ o.2.1 = a ∧ 1 ≤ o.2.2 ∧ a + o.2.2 ≤ n ∧ a + o.2.2.toNat ≤ n ∧ 1 ≤ o.2.2.toNat := by
  unfold oneO at h
  split at h
  · injection h with h; subst h; refine ⟨rfl, rfl, ?_⟩; simp; omega
  · split at h
    · cases h
    · split at h
      · cases h
      · split at h
        · cases h
        · injection h with h; subst h; refine ⟨rfl, rfl, ?_⟩; simp; omega
theorem wk_fuel (g : Nat → Int) (n : Nat) : ∀ (f f' a : Nat), n - a ≤ f → n - a ≤ f' → wk g n f a = wk g n f' a := by
  intro f
  induction f with
  | zero =>
    intro f' a h h'
    have : n ≤ a := by omega
    cases f' <;> simp [wk, this]
  | succ f ih =>
    intro f' a h h'
    cases f' with
    | zero => have : n ≤ a := by omega
              simp [wk, this]
    | succ f' =>
      by_cases hn : n ≤ a
      · simp [wk, hn]
      · simp only [wk, if_neg hn]
        cases ho : oneO g n a with
        | none => rfl
        | some o =>
          have := one_is ho (by omega)
          simp only
          rw [ih f' (a + o.2.2.toNat) (by omega) (by omega)]
def walk (g : Nat → Int) (n a : Nat) : Option (List (Int × Int × Int)) := wk g n (n - a) a
theorem walk_end (g : Nat → Int) {n a : Nat} (h : n ≤ a) : walk g n a = some [] := by
  unfold walk
  rw [show n - a = 0 from by omega]
  simp [wk, h]
theorem walk_step (g : Nat → Int) {n a : Nat} (h : a < n) : walk g n a = match oneO g n a with
    | none => none
    | some o => if o.1 = 0 then some [o] else (walk g n (a + o.2.2.toNat)).map (o :: ·) := by
  unfold walk
  obtain ⟨k, hk⟩ : ∃ k, n - a = k + 1 := ⟨n - a - 1, by omega⟩
  rw [hk]
  simp only [wk, if_neg (show ¬ n ≤ a by omega)]
  cases ho : oneO g n a with
  | none => rfl
  | some o =>
    have := one_is ho h
    simp only
    rw [wk_fuel g n k (n - (a + o.2.2.toNat)) _ (by omega) (by omega)]
theorem walk_bad {g : Nat → Int} {n a : Nat} (h : a < n) (ho : oneO g n a = none) : walk g n a = none := by rw [walk_step g h, ho]
theorem walk_last {g : Nat → Int} {n a : Nat} {o : Int × Int × Int} (h : a < n) (ho : oneO g n a = some o) (hk : o.1 = 0) : walk g n a = some [o] := by rw [walk_step g h, ho]; simp [hk]
theorem walk_more {g : Nat → Int} {n a : Nat} {o : Int × Int × Int} (h : a < n) (ho : oneO g n a = some o) (hk : o.1 ≠ 0) : walk g n a = (walk g n (a + o.2.2.toNat)).map (o :: ·) := by rw [walk_step g h, ho]; simp [hk]
/-- What was walked so far. -/
def Sofar (g : Nat → Int) (n : Nat) (l : List (Int × Int × Int)) (a : Nat) : Prop := walk g n 0 = (walk g n a).map (l ++ ·) ∧ l.length ≤ a ∧ a ≤ n
theorem sofar0 (g : Nat → Int) (n : Nat) : Sofar g n [] 0 := ⟨by cases walk g n 0 <;> simp, by simp, by simp⟩
theorem sofar_more {g : Nat → Int} {n a : Nat} {l : List (Int × Int × Int)} {o : Int × Int × Int} (h : Sofar g n l a) (ha : a < n) (ho : oneO g n a = some o) (hk : o.1 ≠ 0) : Sofar g n (l ++ [o]) (a + o.2.2.toNat) := by
  have := one_is ho ha
  refine ⟨?_, by have := h.2.1; simp; omega, by omega⟩
  rw [h.1, walk_more ha ho hk, Option.map_map]
  congr 1
  funext x
  simp
theorem sofar_last {g : Nat → Int} {n a : Nat} {l : List (Int × Int × Int)} {o : Int × Int × Int} (h : Sofar g n l a) (ha : a < n) (ho : oneO g n a = some o) (hk : o.1 = 0) : walk g n 0 = some (l ++ [o]) := by
  rw [h.1, walk_last ha ho hk]; rfl
theorem sofar_bad {g : Nat → Int} {n a : Nat} {l : List (Int × Int × Int)} (h : Sofar g n l a) (ha : a < n) (ho : oneO g n a = none) : walk g n 0 = none := by
  rw [h.1, walk_bad ha ho]; rfl
theorem sofar_end {g : Nat → Int} {n a : Nat} {l : List (Int × Int × Int)} (h : Sofar g n l a) (ha : n ≤ a) : walk g n 0 = some l := by
  rw [h.1, walk_end g ha]; simp

/-- An option's three numbers, a list's. -/
def oc (o : Int × Int × Int) (j : Nat) : Int := if j = 0 then o.1 else if j = 1 then o.2.1 else o.2.2
def lc (l : List (Int × Int × Int)) (j : Nat) : Int := oc (l.getD (j / 3) (0, 0, 0)) (j % 3)
theorem lc_snoc (l : List (Int × Int × Int)) (o : Int × Int × Int) (j : Nat) (hj : j < (l.length + 1) * 3) : two (l.length * 3) (fun j => Value.int .i64 (lc l j)) (fun j => Value.int .i64 (oc o j)) j = .int .i64 (lc (l ++ [o]) j) := by
  unfold two lc
  by_cases h : j < l.length * 3
  · rw [if_pos h]
    have h1 : j / 3 < l.length := by omega
    simp only [List.getD_eq_getElem?_getD, List.getElem?_append_left h1]
  · rw [if_neg h]
    have h1 : j / 3 = l.length := by omega
    have h2 : j - l.length * 3 = j % 3 := by omega
    rw [h2]
    simp only [List.getD_eq_getElem?_getD]
    rw [h1]
    simp
theorem lc_at (l : List (Int × Int × Int)) (i : Nat) (hi : i < l.length) : lc l (i * 3) = l[i].1 ∧ lc l (i * 3 + 1) = l[i].2.1 ∧ lc l (i * 3 + 2) = l[i].2.2 := by
  unfold lc oc
  have e0 : i * 3 / 3 = i := by omega
  have e1 : (i * 3 + 1) / 3 = i := by omega
  have e2 : (i * 3 + 2) / 3 = i := by omega
  have f0 : i * 3 % 3 = 0 := by omega
  have f1 : (i * 3 + 1) % 3 = 1 := by omega
  have f2 : (i * 3 + 2) % 3 = 2 := by omega
  simp [e0, e1, e2, f0, f1, f2, hi]

/-- Where each option lies. -/
def Tiled (g : Nat → Int) (n : Nat) : Nat → List (Int × Int × Int) → Prop
  | a, [] => n ≤ a
  | a, o :: l => oneO g n a = some o ∧ a < n ∧ (o.1 = 0 ∧ l = [] ∨ o.1 ≠ 0 ∧ Tiled g n (a + o.2.2.toNat) l)
theorem tiled_of (g : Nat → Int) (n : Nat) : ∀ (f a : Nat) (l : List (Int × Int × Int)), n - a ≤ f → walk g n a = some l → Tiled g n a l := by
  intro f
  induction f with
  | zero =>
    intro a l h hw
    rw [walk_end g (show n ≤ a by omega)] at hw
    injection hw with hw
    subst hw
    show n ≤ a
    omega
  | succ f ih =>
    intro a l h hw
    by_cases hn : n ≤ a
    · rw [walk_end g hn] at hw
      injection hw with hw
      subst hw
      exact hn
    · have ha : a < n := by omega
      cases ho : oneO g n a with
      | none => rw [walk_bad ha ho] at hw; cases hw
      | some o =>
        have hi := one_is ho ha
        by_cases hk : o.1 = 0
        · rw [walk_last ha ho hk] at hw
          injection hw with hw
          subst hw
          exact ⟨ho, ha, .inl ⟨hk, rfl⟩⟩
        · rw [walk_more ha ho hk] at hw
          cases hr : walk g n (a + o.2.2.toNat) with
          | none => rw [hr] at hw; cases hw
          | some r =>
            rw [hr] at hw
            injection hw with hw
            subst hw
            exact ⟨ho, ha, .inr ⟨hk, ih _ _ (by omega) hr⟩⟩
theorem of_tiled (g : Nat → Int) (n : Nat) : ∀ (l : List (Int × Int × Int)) (a : Nat), Tiled g n a l → walk g n a = some l := by
  intro l
  induction l with
  | nil => intro a h; exact walk_end g h
  | cons o l ih =>
    intro a ⟨ho, ha, h⟩
    rcases h with ⟨hk, rfl⟩ | ⟨hk, h⟩
    · exact walk_last ha ho hk
    · rw [walk_more ha ho hk, ih _ h]; rfl

/-- The stamp: the first option of kind 8 and length 10. -/
def isS (o : Int × Int × Int) : Bool := o.1 == 8 && o.2.2 == 10
def fst (l : List (Int × Int × Int)) : Option (Int × Int × Int) := l.find? isS
def num (g : Nat → Int) (a : Nat) : Int := g a * 16777216 + g (a + 1) * 65536 + g (a + 2) * 256 + g (a + 3)
/-- The stamp's place and numbers; none: noughts. -/
def stS (g : Nat → Int) (l : Option (List (Int × Int × Int))) : Int × Int × Int × Bool := match l with
  | none => (0, 0, 0, false)
  | some l => match fst l with
    | none => (0, 0, 0, false)
    | some o => (o.2.1 + 2, num g (o.2.1.toNat + 2), num g (o.2.1.toNat + 6), true)
def stamp (g : Nat → Int) (n : Nat) : Int × Int × Int × Bool := stS g (walk g n 0)
theorem num_bd {g : Nat → Int} (hg : IsB g) (a : Nat) : 0 ≤ num g a ∧ num g a < 4294967296 := by
  unfold num
  have := hg a; have := hg (a + 1); have := hg (a + 2); have := hg (a + 3)
  omega
theorem tiled_mem {g : Nat → Int} {n : Nat} : ∀ (l : List (Int × Int × Int)) (a : Nat), Tiled g n a l → ∀ o ∈ l, oneO g n o.2.1.toNat = some o ∧ o.2.1.toNat < n ∧ 0 ≤ o.2.1 ∧ o.2.1 + o.2.2 ≤ n := by
  intro l
  induction l with
  | nil => intro a h o ho; cases ho
  | cons o l ih =>
    intro a ⟨h1, ha, h⟩ x hx
    have hi := one_is h1 ha
    rcases List.mem_cons.1 hx with rfl | hx
    · rw [hi.2.1, Int.toNat_natCast]
      exact ⟨h1, ha, by omega, by omega⟩
    · rcases h with ⟨_, rfl⟩ | ⟨_, h⟩
      · cases hx
      · exact ih _ h x hx
theorem fst_is {g : Nat → Int} {n : Nat} {l : List (Int × Int × Int)} {o : Int × Int × Int} (h : walk g n 0 = some l) (hf : fst l = some o) : 0 ≤ o.2.1 ∧ o.2.1.toNat + 10 ≤ n ∧ o.2.1 = o.2.1.toNat := by
  have hm := List.mem_of_find?_eq_some hf
  have hs := List.find?_some hf
  simp [isS] at hs
  have := tiled_mem l 0 (tiled_of g n n 0 l (by omega) h) o hm
  omega
end Go.Proofs.Ytdbfpoplhmonhaa
