/- New keys are done. -/
import Derived.Test.YthgffpfigmibhaaGreatGa
import Derived.Test.YthgffpfigmibhaaGreatOrdTw
import Derived.Test.YthgffpfigmibhaaGreatOrdRot
import Derived.BigQuiet
import Derived.Deep.RegionHeld3
import Derived.Deep.Cut
namespace Go.Proofs.YthgffpfigmibhaaGreat
set_option linter.unusedVariables false
set_option linter.unusedSimpArgs false
open Go.RowKit Go.ChangeShapes Go.WideShapes Go.ChangeAt

theorem run_congr {p : Pl} {g g' : Nat → En} : ∀ {k : Nat}, (∀ j, j < k → g j = g' j) → runP p g k = runP p g' k
  | 0, _ => rfl
  | k + 1, h => by
    unfold runP
    rw [run_congr (k := k) (fun j hj => h j (by omega)), h k (by omega)]
def rotQ (p : Pl) (y : Ky) : Nat → Pl
  | 0 => nxP p ⟨6, 0, 0, 0, 0, y⟩
  | n + 1 => if goneS p n = true then nxP (rotQ p y n) ⟨5, (n : Int), 0, 0, 0, zKy⟩ else rotQ p y n
theorem nx_free (p : Pl) (c : Nat) : nxP p ⟨5, (c : Int), 0, 0, 0, zKy⟩ = ⟨p.v + 1, p.a, p.p, setS p.s c zSp, p.r⟩ := by
  unfold nxP chS
  simp only [Int.toNat_natCast]
  rfl
theorem free_ap {p : Pl} {c : Nat} (hc : c < 64) (h : (p.s c).st = 4) (he : (p.s c).si + 3 ≤ p.r.e) : apR p ⟨5, (c : Int), 0, 0, 0, zKy⟩ = (nxP p ⟨5, (c : Int), 0, 0, 0, zKy⟩, 0) := by
  have hk : chk ⟨5, (c : Int), 0, 0, 0, zKy⟩ = 0 := by rw [chk_r]; simp only [inR_c hc]; rfl
  have hf : fitB p ⟨5, (c : Int), 0, 0, 0, zKy⟩ c = true := by
    unfold fitB
    simp only [h]
    rfl
  have hd : decide (p.r.e < (p.s c).si + 3) = false := by simp; omega
  unfold apR
  rw [if_pos hk]
  simp only [Int.toNat_natCast]
  unfold refE
  rw [hf]
  simp only [hd]
  rfl
theorem rotQ_r (p : Pl) (y : Ky) : ∀ n, (rotQ p y n).r = ⟨p.r.e + 1, p.r.c, p.r.n, y⟩
  | 0 => rfl
  | n + 1 => by
    unfold rotQ
    split
    · rw [nx_free]; exact rotQ_r p y n
    · exact rotQ_r p y n
theorem rotQ_s (p : Pl) (y : Ky) : ∀ n j, (rotQ p y n).s j = if j < n ∧ goneS p j = true then zSp else p.s j
  | 0, j => by rw [if_neg (by omega)]; rfl
  | n + 1, j => by
    have ih := rotQ_s p y n
    unfold rotQ
    by_cases hg : goneS p n = true
    · rw [if_pos hg, nx_free]
      show setS (rotQ p y n).s n zSp j = _
      by_cases e : j = n
      · subst e; rw [setS_at, if_pos ⟨by omega, hg⟩]
      · rw [setS_other _ _ _ _ e, ih j]
        by_cases h : j < n ∧ goneS p j = true
        · rw [if_pos h, if_pos ⟨by omega, h.2⟩]
        · rw [if_neg h, if_neg (fun h2 => h ⟨by omega, h2.2⟩)]
    · rw [if_neg hg, ih j]
      by_cases h : j < n ∧ goneS p j = true
      · rw [if_pos h, if_pos ⟨by omega, h.2⟩]
      · rw [if_neg h, if_neg (fun h2 => by
          by_cases e : j = n
          · subst e; exact hg h2.2
          · exact h ⟨by omega, h2.2⟩)]
theorem gone_is {p : Pl} {n : Nat} (h : goneS p n = true) : (p.s n).st = 4 ∧ (p.s n).si + 3 ≤ p.r.e + 1 := by
  unfold goneS at h
  simpa using h
theorem rot_run (p : Pl) (y : Ky) : ∀ n, n ≤ 64 → runP p (gl (rotL p y n)) (rotL p y n).length = some (rotQ p y n)
  | 0, _ => by
    have ha := q_rot p y
    show runP p (gl [⟨6, 0, 0, 0, 0, y⟩]) 1 = _
    rw [run_one (by show (apR p ⟨6, 0, 0, 0, 0, y⟩).2 = 0; rw [ha])]
    show some (apR p ⟨6, 0, 0, 0, 0, y⟩).1 = _
    rw [ha]
    rfl
  | n + 1, hn => by
    have ih := rot_run p y n (by omega)
    by_cases hg : goneS p n = true
    · obtain ⟨g1, g2⟩ := gone_is hg
      have e1 : rotL p y (n + 1) = rotL p y n ++ [⟨5, (n : Int), 0, 0, 0, zKy⟩] := by
        show (if goneS p n = true then rotL p y n ++ [⟨5, (n : Int), 0, 0, 0, zKy⟩] else rotL p y n) = _
        rw [if_pos hg]
      have e2 : rotQ p y (n + 1) = nxP (rotQ p y n) ⟨5, (n : Int), 0, 0, 0, zKy⟩ := by
        show (if goneS p n = true then nxP (rotQ p y n) ⟨5, (n : Int), 0, 0, 0, zKy⟩ else rotQ p y n) = _
        rw [if_pos hg]
      have hs : (rotQ p y n).s n = p.s n := by rw [rotQ_s, if_neg (by omega)]
      have ha := free_ap (p := rotQ p y n) (c := n) (by omega) (by rw [hs]; exact g1) (by rw [hs, rotQ_r]; exact g2)
      have hl : gl (rotL p y n ++ [⟨5, (n : Int), 0, 0, 0, zKy⟩]) (rotL p y n).length = ⟨5, (n : Int), 0, 0, 0, zKy⟩ := by rw [gl_app, if_pos rfl]
      have h3 : runP p (gl (rotL p y n ++ [⟨5, (n : Int), 0, 0, 0, zKy⟩])) (rotL p y n).length = some (rotQ p y n) := by
        rw [run_congr (g' := gl (rotL p y n)) (fun j hj => by rw [gl_app, if_neg (by omega)])]
        exact ih
      rw [e1, List.length_append]
      show runP p _ ((rotL p y n).length + 1) = _
      rw [run_more h3 (by rw [hl, ha]), hl, ha, e2]
    · have e1 : rotL p y (n + 1) = rotL p y n := by
        show (if goneS p n = true then rotL p y n ++ [⟨5, (n : Int), 0, 0, 0, zKy⟩] else rotL p y n) = _
        rw [if_neg hg]
      have e2 : rotQ p y (n + 1) = rotQ p y n := by
        show (if goneS p n = true then nxP (rotQ p y n) ⟨5, (n : Int), 0, 0, 0, zKy⟩ else rotQ p y n) = _
        rw [if_neg hg]
      rw [e1, e2]
      exact ih
theorem rot_done (p : Pl) (y : Ky) (j : Nat) (hj : j < 64) : ((rotQ p y 64).s j).st ≠ 4 ∨ (rotQ p y 64).r.e < ((rotQ p y 64).s j).si + 3 := by
  rw [rotQ_s, rotQ_r]
  by_cases h : j < 64 ∧ goneS p j = true
  · rw [if_pos h]
    exact .inl (by show (0 : Int) ≠ 4; decide)
  · rw [if_neg h]
    by_cases h4 : (p.s j).st = 4
    · refine .inr ?_
      show p.r.e + 1 < _
      have hg : ¬ goneS p j = true := fun hg => h ⟨hj, hg⟩
      unfold goneS at hg
      rw [h4] at hg
      simp at hg
      omega
    · exact .inl h4
section
variable {w : World} {b : Nat} {p : Pl}
theorem PoolAt.loadN (h : PoolAt w b p) : (Instr.loadAt 29 (.pointer (some ⟨b, 328, none⟩))).run Tryz.prog w = .ok (.agg #[.int .u64 p.r.n.a, .int .u64 p.r.n.b]) w := by
  refine run_loadAt_mid w b 328 29 [.int .u64 p.r.n.a, .int .u64 p.r.n.b] _ (fun j v hj => ?_) Tryz.underlying29 rfl (by kernel_rfl)
  have hl : j < 2 := (List.getElem?_eq_some_iff.1 hj).1
  rcases j with _ | _ | j
  · rw [← hj]; exact h.cr 5 (by omega)
  · rw [← hj]; exact h.cr 6 (by omega)
  · omega
end
end Go.Proofs.YthgffpfigmibhaaGreat
