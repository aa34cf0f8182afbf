/- What a wish does. -/
import Derived.Test.YthgffpfigmibhaaGreatGa
import Derived.Test.YthgffpfigmibhaaGreatOrdAp
import Derived.Test.YthgffpfigmibhaaGreatOrdRem
import Derived.BigQuiet
import Derived.Deep.RegionHeld3
import Derived.Deep.Cut
namespace Go.Proofs.YthgffpfigmibhaaGreat
set_option linter.unusedVariables false
set_option linter.unusedSimpArgs false
open Go.RowKit Go.ChangeShapes Go.WideShapes Go.ChangeAt

theorem run_two {p : Pl} {e f : En} (h1 : (apR p e).2 = 0) (h2 : (apR (apR p e).1 f).2 = 0) : runP p (gl [e, f]) 2 = some (apR (apR p e).1 f).1 := run_more (run_one (g := gl [e, f]) h1) h2
theorem add_run {p : Pl} {x y m : Int} {l : List En} (h : addR p x y m = (l, 0)) : ∃ (c : Nat) (q : Pl), c < 64 ∧ l = [⟨1, (c : Int), x, y, m, zKy⟩, ⟨2, (c : Int), 0, 0, 0, zKy⟩] ∧ chk (adE x y m) = 0 ∧ heldB p x y = false ∧ runP p (gl l) 2 = some q ∧ q.a = p.a ∧ q.p = p.p ∧ ∀ j, q.s j = if j = c then ⟨2, x, y, m, 0⟩ else p.s j := by
  unfold addR at h
  by_cases hc : chk (adE x y m) = 0
  · rw [if_neg (by rw [hc]; decide)] at h
    cases hh : heldB p x y with
    | true => rw [hh] at h; simp at h
    | false =>
      rw [hh] at h
      simp only [cond_false] at h
      cases hf : freeO p with
      | none => rw [hf] at h; simp at h
      | some c =>
        rw [hf] at h
        simp only at h
        have hl := (Prod.mk.inj h).1
        obtain ⟨c64, h0, _⟩ := free_some hf
        have h0' : (p.s c).st = 0 := by simpa using h0
        have a1 := bind_ap c64 h0' hc hh
        have s1 : ((nxP p ⟨1, (c : Int), x, y, m, zKy⟩).s c).st = 1 := by rw [nx_bind]; show (setS _ c _ c).st = 1; rw [setS_at]
        have a2 := open_ap (p := nxP p ⟨1, (c : Int), x, y, m, zKy⟩) c64 (.inl s1)
        refine ⟨c, nxP (nxP p ⟨1, (c : Int), x, y, m, zKy⟩) ⟨2, (c : Int), 0, 0, 0, zKy⟩, c64, hl.symm, hc, (by first | exact hh | rfl), ?_, ?_, ?_, fun j => ?_⟩
        · rw [← hl, run_two (by rw [a1]) (by rw [a1, a2]), a1, a2]
        · rw [nx_open, nx_bind]
        · rw [nx_open, nx_bind]
        · rw [nx_open, nx_bind]
          show setS _ c _ j = _
          by_cases e : j = c
          · subst e; rw [setS_at, if_pos rfl]; simp only [setS_at]
          · rw [setS_other _ _ _ _ e, if_neg e]; show setS p.s c _ j = _; rw [setS_other _ _ _ _ e]
  · rw [if_pos hc] at h; simp at h
theorem held_no {p : Pl} {x y : Int} (h : heldB p x y = false) : (p.a == x && p.p == y) = false ∧ ∀ j, j < 64 → atS p x y j = false := by
  unfold heldB at h
  rw [Bool.or_eq_false_iff] at h
  refine ⟨h.1, fun j hj => ?_⟩
  cases ha : atS p x y j
  · rfl
  · rw [any_yes j hj ha] at h; exact absurd h.2 (by decide)
theorem held_yes {p : Pl} {x y : Int} {c : Nat} (hc : c < 64) (h0 : (p.s c).st ≠ 0) (ha : (p.s c).ad = x) (hp : (p.s c).po = y) : heldB p x y = true := by
  unfold heldB
  rw [any_yes c hc (by unfold atS; simp [h0, ha, hp]), Bool.or_true]
theorem tk_no {p : Pl} {x y : Int} {j : Nat} (h : atS p x y j = false) : tkS p x y j = false := by
  unfold atS at h
  unfold tkS
  cases ht : takesB (p.s j).st
  · rfl
  · have hn : ((p.s j).st != 0) = true := by
      unfold takesB at ht
      simp at ht ⊢
      omega
    rw [hn] at h
    exact h
theorem add_held {p : Pl} {x y m : Int} (hc : chk (adE x y m) = 0) (h : heldB p x y = true) : addR p x y m = ([], 12) := by
  unfold addR
  rw [if_neg (by rw [hc]; decide), h]
  rfl
theorem takes_cases {s : Int} (h : takesB s = true) : s = 1 ∨ s = 2 ∨ s = 3 := by
  unfold takesB at h
  simp at h
  omega
theorem rem_run {p : Pl} {x y : Int} {l : List En} (h : remR p x y = (l, 0)) : ∃ (c : Nat) (r : Pl), c < 64 ∧ findO p x y = some c ∧ 1 ≤ l.length ∧ l.length ≤ 2 ∧ ((p.s c).st = 2 → l.length = 2) ∧ runP p (gl l) l.length = some r ∧ r.a = p.a ∧ r.p = p.p ∧ ∀ j, r.s j = if j = c then { p.s c with st := 4, si := p.r.e } else p.s j := by
  unfold remR at h
  cases hf : findO p x y with
  | none => rw [hf] at h; simp at h
  | some c =>
    rw [hf] at h
    simp only at h
    have hl := (Prod.mk.inj h).1
    obtain ⟨c64, ht, _⟩ := find_min hf
    unfold tkS at ht
    simp only [Bool.and_eq_true] at ht
    have hs := takes_cases ht.1.1
    by_cases h2 : (p.s c).st = 2
    · rw [if_pos h2] at hl
      have a1 := drain_ap c64 h2
      have a2 := shut_ap (p := nxP p ⟨3, (c : Int), 0, 0, 0, zKy⟩) c64 (.inr drain_st)
      refine ⟨c, nxP (nxP p ⟨3, (c : Int), 0, 0, 0, zKy⟩) ⟨4, (c : Int), 0, 0, 0, zKy⟩, c64, rfl, by rw [← hl]; simp, by rw [← hl]; simp, fun _ => by rw [← hl]; rfl, ?_, ?_, ?_, fun j => ?_⟩
      · rw [← hl]
        show runP p _ 2 = _
        rw [run_two (by rw [a1]) (by rw [a1, a2]), a1, a2]
      · rw [nx_shut, nx_drain]
      · rw [nx_shut, nx_drain]
      · rw [nx_shut, nx_drain]
        show setS _ c _ j = _
        by_cases e : j = c
        · subst e; rw [setS_at, if_pos rfl]; simp only [setS_at]
        · rw [setS_other _ _ _ _ e, if_neg e]; show setS p.s c _ j = _; rw [setS_other _ _ _ _ e]
    · rw [if_neg h2] at hl
      have a1 := shut_ap (p := p) c64 (by rcases hs with h | h | h; exact .inl h; exact absurd h h2; exact .inr h)
      refine ⟨c, nxP p ⟨4, (c : Int), 0, 0, 0, zKy⟩, c64, rfl, by rw [← hl]; simp, by rw [← hl]; simp, fun h => absurd h h2, ?_, ?_, ?_, fun j => ?_⟩
      · rw [← hl]
        show runP p _ 1 = _
        rw [run_one (by show (apR p ⟨4, (c : Int), 0, 0, 0, zKy⟩).2 = 0; rw [a1])]
        show some (apR p ⟨4, (c : Int), 0, 0, 0, zKy⟩).1 = _
        rw [a1]
      · rw [nx_shut]
      · rw [nx_shut]
      · rw [nx_shut]
        show setS _ c _ j = _
        by_cases e : j = c
        · subst e; rw [setS_at, if_pos rfl]
        · rw [setS_other _ _ _ _ e, if_neg e]
def cntN (f : Nat → Sp) : Nat → Nat
  | 0 => 0
  | n + 1 => cntN f n + (if (f n).st = 0 then 0 else 1)
theorem cnt_set (f : Nat → Sp) (c : Nat) (s : Sp) : ∀ n, cntN (setS f c s) n ≤ cntN f n + (if c < n then 1 else 0)
  | 0 => Nat.le_refl _
  | n + 1 => by
    have ih := cnt_set f c s n
    show cntN (setS f c s) n + (if (setS f c s n).st = 0 then 0 else 1) ≤ cntN f n + (if (f n).st = 0 then 0 else 1) + _
    by_cases e : n = c
    · subst e
      rw [if_neg (by omega)] at ih
      rw [if_pos (show n < n + 1 by omega)]
      split <;> split <;> omega
    · rw [setS_other _ _ _ _ e]
      have : (if c < n + 1 then 1 else 0) = (if c < n then 1 else 0) := by
        by_cases h : c < n
        · rw [if_pos h, if_pos (by omega)]
        · rw [if_neg h, if_neg (by omega)]
      rw [this]
      omega
theorem cnt_mk (g : Nat → Int) : ∀ k, cntN (mkP g k).s 64 ≤ k
  | 0 => by
    have : ∀ n, cntN mkB.s n = 0 := fun n => by
      induction n with
      | zero => rfl
      | succ n ih => show cntN mkB.s n + 0 = 0; rw [ih]
    show cntN mkB.s 64 ≤ 0
    rw [this]
    exact Nat.le_refl _
  | k + 1 => by
    have ih := cnt_mk g k
    unfold mkP
    by_cases h : (apR (mkP g k) (enN (g k))).2 = 0
    · rw [if_pos h]
      obtain ⟨_, _, h2⟩ := apR_ok h
      rw [h2]
      unfold nxP
      cases ((enN (g k)).k == 6)
      · have := cnt_set (mkP g k).s (enN (g k)).s.toNat (chS (mkP g k) (enN (g k)) (enN (g k)).s.toNat) 64
        show cntN (setS (mkP g k).s _ _) 64 ≤ k + 1
        split at this <;> omega
      · show cntN (mkP g k).s 64 ≤ k + 1
        omega
    · rw [if_neg h]
      omega
theorem cnt_full {f : Nat → Sp} : ∀ {n : Nat}, (∀ i, i < n → (f i).st ≠ 0) → cntN f n = n
  | 0, _ => rfl
  | n + 1, h => by
    show cntN f n + (if (f n).st = 0 then 0 else 1) = n + 1
    rw [cnt_full (fun i hi => h i (by omega)), if_neg (h n (by omega))]
theorem free_mk (g : Nat → Int) {k : Nat} (hk : k < 64) : freeO (mkP g k) ≠ none := fun h => by
  have h1 := cnt_full (f := (mkP g k).s) (n := 64) (fun i hi e => by have := free_none h i hi; rw [e] at this; exact absurd this (by decide))
  have h2 := cnt_mk g k
  omega
theorem chk_sm {x y m : Int} (hx : 0 ≤ x ∧ x ≤ 1000) (hy : 0 ≤ y ∧ y ≤ 1000) (hm : 1 ≤ m ∧ m ≤ 8) : chk (adE x y m) = 0 := by
  unfold chk adE mayBP inRP
  simp only []
  rw [if_neg (by simp), if_neg (by simp), if_neg (by simp; omega), if_pos (by unfold its eqE eqK; simp)]
theorem run_inv {p : Pl} {g : Nat → En} {K : Int} (hp : Pinv p K) : ∀ {k : Nat} {q : Pl}, runP p g k = some q → Pinv q (K + k)
  | 0, q, h => by
    unfold runP at h
    injection h with h
    subst h
    exact hp.mono (by omega)
  | k + 1, q, h => by
    unfold runP at h
    cases h1 : runP p g k with
    | none => rw [h1] at h; cases h
    | some q1 =>
      rw [h1] at h
      simp only at h
      have ih := run_inv hp h1
      by_cases h0 : (apR q1 (g k)).2 = 0
      · rw [if_pos h0] at h
        injection h with h
        rw [← h]
        exact (apR_inv ih h0).mono (by omega)
      · rw [if_neg h0] at h; cases h
theorem add_then {p q : Pl} {x y m : Int} {c : Nat} (hc : c < 64) (hh : heldB p x y = false) (hs : ∀ j, q.s j = if j = c then ⟨2, x, y, m, 0⟩ else p.s j) : heldB q x y = true ∧ findO q x y = some c ∧ (q.s c).st = 2 ∧ (q.s c).we = m ∧ ∀ j, j < 64 → j ≠ c → tkS q x y j = false := by
  have hn := (held_no hh).2
  have ec : q.s c = ⟨2, x, y, m, 0⟩ := by rw [hs c, if_pos rfl]
  have ho : ∀ j, j < 64 → j ≠ c → tkS q x y j = false := fun j hj hne => by
    have e : q.s j = p.s j := by rw [hs j, if_neg hne]
    have := tk_no (hn j hj)
    unfold tkS at this ⊢
    rw [e]
    exact this
  refine ⟨held_yes hc (by rw [ec]; show (2 : Int) ≠ 0; decide) (by rw [ec]) (by rw [ec]), find_yes c hc (fun j hj => ho j (by omega) (by omega)) (by unfold tkS; rw [ec]; simp [takesB]), by rw [ec], by rw [ec], ho⟩
theorem rem_then {q r : Pl} {x y : Int} {c : Nat} (hc : c < 64) (ha : (q.s c).ad = x) (hp : (q.s c).po = y) (ho : ∀ j, j < 64 → j ≠ c → tkS q x y j = false) (hs : ∀ j, r.s j = if j = c then { q.s c with st := 4, si := q.r.e } else q.s j) : findO r x y = none ∧ heldB r x y = true := by
  have ec : r.s c = { q.s c with st := 4, si := q.r.e } := by rw [hs c, if_pos rfl]
  refine ⟨find_no (fun j hj => ?_), held_yes hc (by rw [ec]; show (4 : Int) ≠ 0; decide) (by rw [ec]; exact ha) (by rw [ec]; exact hp)⟩
  by_cases e : j = c
  · subst e; unfold tkS; rw [ec]; simp [takesB]
  · have e2 : r.s j = q.s j := by rw [hs j, if_neg e]
    have := ho j hj e
    unfold tkS at this ⊢
    rw [e2]
    exact this
/-- Of a pool of few entries: it is added, or it is there. -/
theorem add_or {g : Nat → Int} {k : Nat} (hk : k < 64) {x y m : Int} (hc : chk (adE x y m) = 0) : addR (mkP g k) x y m = ([], 12) ∨ ∃ l, addR (mkP g k) x y m = (l, 0) := by
  cases hh : heldB (mkP g k) x y
  · cases hf : freeO (mkP g k) with
    | none => exact absurd hf (free_mk g hk)
    | some c => exact .inr ⟨_, by unfold addR; rw [if_neg (by rw [hc]; decide), hh, hf]; rfl⟩
  · exact .inl (add_held hc hh)
/-- Added, then again, removed, and again. -/
theorem twice {p : Pl} {x y : Int} {l : List En} (hc : chk (adE x y 1) = 0) (h : addR p x y 1 = (l, 0)) : l.length = 2 ∧ ∃ (q r : Pl) (m : List En), runP p (gl l) 2 = some q ∧ addR q x y 1 = ([], 12) ∧ remR q x y = (m, 0) ∧ m.length = 2 ∧ runP q (gl m) 2 = some r ∧ remR r x y = ([], 9) ∧ addR r x y 1 = ([], 12) := by
  obtain ⟨c, q, c64, hl, _, hh, hr, _, _, hs⟩ := add_run h
  obtain ⟨h1, h2, h3, _, h5⟩ := add_then c64 hh hs
  have hm : remR q x y = ([⟨3, (c : Int), 0, 0, 0, zKy⟩, ⟨4, (c : Int), 0, 0, 0, zKy⟩], 0) := by unfold remR; rw [h2]; simp only; rw [if_pos h3]
  obtain ⟨c', r, _, hf', _, _, hn, hr2, _, _, hs2⟩ := rem_run hm
  rw [h2] at hf'
  injection hf' with hf'
  subst hf'
  have hsc : q.s c = ⟨2, x, y, 1, 0⟩ := by rw [hs c, if_pos rfl]
  obtain ⟨g1, g2⟩ := rem_then c64 (by rw [hsc]) (by rw [hsc]) h5 hs2
  exact ⟨by rw [hl]; rfl, q, r, _, hr, add_held hc h1, hm, rfl, hr2, by unfold remR; rw [g1], add_held hc g2⟩
end Go.Proofs.YthgffpfigmibhaaGreat
