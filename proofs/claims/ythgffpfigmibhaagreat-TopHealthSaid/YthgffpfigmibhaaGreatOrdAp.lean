/- What entries do, one by one. -/
import Derived.Test.YthgffpfigmibhaaGreatGa
import Derived.Test.YthgffpfigmibhaaGreatOrdAdd
import Derived.BigQuiet
import Derived.Deep.RegionHeld3
import Derived.Deep.Cut
namespace Go.Proofs.YthgffpfigmibhaaGreat
set_option linter.unusedVariables false
set_option linter.unusedSimpArgs false
open Go.RowKit Go.ChangeShapes Go.WideShapes Go.ChangeAt

theorem mrk_no {p : Pl} {s v : Int} (h1 : v ≠ 1) (h2 : v ≠ 2) : mrkL p s v = [] := by
  unfold mrkL
  split
  · rfl
  · rw [if_neg (fun h => h1 h.1), if_neg (fun h => h2 h.1)]
theorem mrk_len (p : Pl) (s v : Int) : (mrkL p s v).length ≤ 1 := by
  unfold mrkL
  split
  · simp
  · split
    · simp
    · split <;> simp
theorem all_nil {p q : Pl} {g : Nat → En} {m : Nat} {er : Int} (h : AllOut p g 0 q m er) : q = p ∧ m = 0 ∧ er = 0 := h.uniq (show AllOut p g 0 p 0 0 from ⟨rfl, .inl ⟨rfl, rfl⟩⟩)
theorem run_one {p : Pl} {g : Nat → En} (h0 : (apR p (g 0)).2 = 0) : runP p g 1 = some (apR p (g 0)).1 := by
  show (if (apR p (g 0)).2 = 0 then some (apR p (g 0)).1 else none) = _
  rw [if_pos h0]
theorem run_more {p q : Pl} {g : Nat → En} {k : Nat} (h : runP p g k = some q) (h0 : (apR q (g k)).2 = 0) : runP p g (k + 1) = some (apR q (g k)).1 := by
  unfold runP
  rw [h]
  simp only
  rw [if_pos h0]
theorem all_run {p q q' : Pl} {g : Nat → En} {n m : Nat} {er : Int} (hr : runP p g n = some q') (h : AllOut p g n q m er) : q = q' ∧ m = n ∧ er = 0 := h.uniq (show AllOut p g n q' n 0 from ⟨hr, .inl ⟨rfl, rfl⟩⟩)
theorem all_one {p q : Pl} {g : Nat → En} {m : Nat} {er : Int} (h0 : (apR p (g 0)).2 = 0) (h : AllOut p g 1 q m er) : q = (apR p (g 0)).1 ∧ m = 1 ∧ er = 0 := all_run (run_one h0) h
theorem inR_c {c : Nat} (h : c < 64) : inRP (c : Int) 0 63 = true := by unfold inRP; simp; omega
theorem open_ap {p : Pl} {c : Nat} (hc : c < 64) (h : (p.s c).st = 1 ∨ (p.s c).st = 3) : apR p ⟨2, (c : Int), 0, 0, 0, zKy⟩ = (nxP p ⟨2, (c : Int), 0, 0, 0, zKy⟩, 0) := by
  have hk : chk ⟨2, (c : Int), 0, 0, 0, zKy⟩ = 0 := by rw [chk_r]; simp only [inR_c hc]; rfl
  have hf : fitB p ⟨2, (c : Int), 0, 0, 0, zKy⟩ c = true := by
    unfold fitB
    rcases h with h | h <;> simp only [h] <;> rfl
  unfold apR
  rw [if_pos hk]
  simp only [Int.toNat_natCast]
  unfold refE
  rw [hf]
  rfl
theorem shut_ap {p : Pl} {c : Nat} (hc : c < 64) (h : (p.s c).st = 1 ∨ (p.s c).st = 3) : apR p ⟨4, (c : Int), 0, 0, 0, zKy⟩ = (nxP p ⟨4, (c : Int), 0, 0, 0, zKy⟩, 0) := by
  have hk : chk ⟨4, (c : Int), 0, 0, 0, zKy⟩ = 0 := by rw [chk_r]; simp only [inR_c hc]; rfl
  have hf : fitB p ⟨4, (c : Int), 0, 0, 0, zKy⟩ c = true := by
    unfold fitB
    rcases h with h | h <;> simp only [h] <;> rfl
  unfold apR
  rw [if_pos hk]
  simp only [Int.toNat_natCast]
  unfold refE
  rw [hf]
  rfl
theorem drain_ap {p : Pl} {c : Nat} (hc : c < 64) (h : (p.s c).st = 2) : apR p ⟨3, (c : Int), 0, 0, 0, zKy⟩ = (nxP p ⟨3, (c : Int), 0, 0, 0, zKy⟩, 0) := by
  have hk : chk ⟨3, (c : Int), 0, 0, 0, zKy⟩ = 0 := by rw [chk_r]; simp only [inR_c hc]; rfl
  have hf : fitB p ⟨3, (c : Int), 0, 0, 0, zKy⟩ c = true := by
    unfold fitB
    simp only [h]
    rfl
  unfold apR
  rw [if_pos hk]
  simp only [Int.toNat_natCast]
  unfold refE
  rw [hf]
  rfl
theorem chk_bind {a q m : Int} {c : Nat} (hc : c < 64) (h : chk (adE a q m) = 0) : chk ⟨1, (c : Int), a, q, m, zKy⟩ = 0 := by
  rw [chk_r] at h ⊢
  unfold adE at h
  simp only [inR_c hc]
  have h0 : inRP (0 : Int) 0 63 = true := by decide
  simp only [h0] at h
  exact h
theorem bind_ap {p : Pl} {c : Nat} {a q m : Int} (hc : c < 64) (h0 : (p.s c).st = 0) (hk : chk (adE a q m) = 0) (hh : heldB p a q = false) : apR p ⟨1, (c : Int), a, q, m, zKy⟩ = (nxP p ⟨1, (c : Int), a, q, m, zKy⟩, 0) := by
  have hf : fitB p ⟨1, (c : Int), a, q, m, zKy⟩ c = true := by
    unfold fitB
    simp only [h0, hh]
    rfl
  unfold apR
  rw [if_pos (chk_bind hc hk)]
  simp only [Int.toNat_natCast]
  unfold refE
  rw [hf]
  rfl
theorem nx_bind (p : Pl) (c : Nat) (x y w : Int) : nxP p ⟨1, (c : Int), x, y, w, zKy⟩ = ⟨p.v + 1, p.a, p.p, setS p.s c ⟨1, x, y, w, 0⟩, p.r⟩ := by
  unfold nxP chS
  simp only [Int.toNat_natCast]
  rfl
theorem nx_open (p : Pl) (c : Nat) : nxP p ⟨2, (c : Int), 0, 0, 0, zKy⟩ = ⟨p.v + 1, p.a, p.p, setS p.s c { p.s c with st := 2 }, p.r⟩ := by
  unfold nxP chS
  simp only [Int.toNat_natCast]
  rfl
theorem nx_drain (p : Pl) (c : Nat) : nxP p ⟨3, (c : Int), 0, 0, 0, zKy⟩ = ⟨p.v + 1, p.a, p.p, setS p.s c { p.s c with st := 3 }, p.r⟩ := by
  unfold nxP chS
  simp only [Int.toNat_natCast]
  rfl
theorem nx_shut (p : Pl) (c : Nat) : nxP p ⟨4, (c : Int), 0, 0, 0, zKy⟩ = ⟨p.v + 1, p.a, p.p, setS p.s c { p.s c with st := 4, si := p.r.e }, p.r⟩ := by
  unfold nxP chS
  simp only [Int.toNat_natCast]
  rfl
theorem setS_at (f : Nat → Sp) (c : Nat) (s : Sp) : setS f c s c = s := by unfold setS; rw [if_pos rfl]
theorem setS_other (f : Nat → Sp) (c j : Nat) (s : Sp) (h : j ≠ c) : setS f c s j = f j := by unfold setS; rw [if_neg h]
theorem open_st {p : Pl} {c : Nat} : ((nxP p ⟨2, (c : Int), 0, 0, 0, zKy⟩).s c).st = 2 := by rw [nx_open]; show (setS _ c _ c).st = 2; rw [setS_at]
theorem drain_st {p : Pl} {c : Nat} : ((nxP p ⟨3, (c : Int), 0, 0, 0, zKy⟩).s c).st = 3 := by rw [nx_drain]; show (setS _ c _ c).st = 3; rw [setS_at]
theorem mark_up {p q : Pl} {c m : Nat} {er : Int} (hc : c < 64) (h : AllOut p (gl (mrkL p (c : Int) 1)) (mrkL p (c : Int) 1).length q m er) : er = 0 ∧ (m : Int) < 2 ∧ (q.s c).st = (if (p.s c).st = 1 ∨ (p.s c).st = 3 then 2 else (p.s c).st) := by
  by_cases h1 : (p.s c).st = 1 ∨ (p.s c).st = 3
  · have e : mrkL p (c : Int) 1 = [⟨2, (c : Int), 0, 0, 0, zKy⟩] := by unfold mrkL; rw [if_neg (by omega), if_pos ⟨rfl, by rw [Int.toNat_natCast]; exact h1⟩]
    rw [e] at h
    have ha := open_ap hc h1
    obtain ⟨rfl, rfl, rfl⟩ := all_one (g := gl [⟨2, (c : Int), 0, 0, 0, zKy⟩]) (by show (apR p ⟨2, (c : Int), 0, 0, 0, zKy⟩).2 = 0; rw [ha]) h
    refine ⟨rfl, by decide, ?_⟩
    show ((apR p ⟨2, (c : Int), 0, 0, 0, zKy⟩).1.s c).st = _
    rw [ha, if_pos h1]
    exact open_st
  · have e : mrkL p (c : Int) 1 = [] := by unfold mrkL; rw [if_neg (by omega), if_neg (fun h => h1 (by rw [Int.toNat_natCast] at h; exact h.2)), if_neg (fun h => absurd h.1 (by decide))]
    rw [e] at h
    obtain ⟨rfl, rfl, rfl⟩ := all_nil h
    exact ⟨rfl, by decide, by rw [if_neg h1]⟩
theorem mark_down {p q : Pl} {c m : Nat} {er : Int} (hc : c < 64) (h : AllOut p (gl (mrkL p (c : Int) 2)) (mrkL p (c : Int) 2).length q m er) : er = 0 ∧ (m : Int) < 2 ∧ (q.s c).st = (if (p.s c).st = 2 then 3 else (p.s c).st) := by
  by_cases h1 : (p.s c).st = 2
  · have e : mrkL p (c : Int) 2 = [⟨3, (c : Int), 0, 0, 0, zKy⟩] := by unfold mrkL; rw [if_neg (by omega), if_neg (fun h => absurd h.1 (by decide)), if_pos ⟨rfl, by rw [Int.toNat_natCast]; exact h1⟩]
    rw [e] at h
    have ha := drain_ap hc h1
    obtain ⟨rfl, rfl, rfl⟩ := all_one (g := gl [⟨3, (c : Int), 0, 0, 0, zKy⟩]) (by show (apR p ⟨3, (c : Int), 0, 0, 0, zKy⟩).2 = 0; rw [ha]) h
    refine ⟨rfl, by decide, ?_⟩
    show ((apR p ⟨3, (c : Int), 0, 0, 0, zKy⟩).1.s c).st = _
    rw [ha, if_pos h1]
    exact drain_st
  · have e : mrkL p (c : Int) 2 = [] := by unfold mrkL; rw [if_neg (by omega), if_neg (fun h => absurd h.1 (by decide)), if_neg (fun h => h1 (by rw [Int.toNat_natCast] at h; exact h.2))]
    rw [e] at h
    obtain ⟨rfl, rfl, rfl⟩ := all_nil h
    exact ⟨rfl, by decide, by rw [if_neg h1]⟩
end Go.Proofs.YthgffpfigmibhaaGreat
