/- A pool of two slots. -/
import Derived.Test.YtejlfbiehcfbgaaWhlLaw3
import Derived.Test.YtejlfbiehcfbgaaWhlRmake
import Derived.BigQuiet
import Derived.Deep.RegionHeld3
import Derived.Deep.Cut
namespace Go.Proofs.Ytejlfbiehcfbgaa
set_option linter.unusedVariables false
set_option linter.unusedSimpArgs false
open Go.RowKit Go.ChangeShapes Go.WideShapes Go.ChangeAt

theorem inR_c' {c : Nat} (h : c < 64) : inR (c : Int) 0 63 = true := by unfold inR; simp; omega
theorem bind_ok {p : Pl} {c : Nat} (hc : c < 64) (hst : (p.s c).st = 0) {x y w : Int} (hx : 0 ≤ x ∧ x ≤ 4294967295) (hy : 0 ≤ y ∧ y ≤ 65535) (hw : 1 ≤ w ∧ w ≤ 8) (hh : heldB p x y = false) : apR p ⟨1, (c : Int), x, y, w, zKy⟩ = (nxP p ⟨1, (c : Int), x, y, w, zKy⟩, 0) := by
  have h1 := inR_c' hc
  have h2 : inR x 0 4294967295 = true := by unfold inR; simp; omega
  have h3 : inR y 0 65535 = true := by unfold inR; simp; omega
  have h4 : inR w 1 8 = true := by unfold inR; simp; omega
  have hk : chk ⟨1, (c : Int), x, y, w, zKy⟩ = 0 := by
    rw [chk_r]
    simp only [h1, h2, h3, h4]
    rfl
  have hf : fitB p ⟨1, (c : Int), x, y, w, zKy⟩ c = true := by
    unfold fitB
    simp only [hst, hh]
    rfl
  unfold apR
  rw [if_pos hk]
  simp only [Int.toNat_natCast]
  unfold refE
  rw [hf]
  rfl
theorem open_ok {p : Pl} {c : Nat} (hc : c < 64) (h : (p.s c).st = 1) : apR p ⟨2, (c : Int), 0, 0, 0, zKy⟩ = (nxP p ⟨2, (c : Int), 0, 0, 0, zKy⟩, 0) := by
  have hk : chk ⟨2, (c : Int), 0, 0, 0, zKy⟩ = 0 := by rw [chk_r]; simp only [inR_c' hc]; rfl
  have hf : fitB p ⟨2, (c : Int), 0, 0, 0, zKy⟩ c = true := by
    unfold fitB
    simp only [h]
    rfl
  unfold apR
  rw [if_pos hk]
  simp only [Int.toNat_natCast]
  unfold refE
  rw [hf]
  rfl
theorem nx_bind (p : Pl) (c : Nat) (x y w : Int) : (nxP p ⟨1, (c : Int), x, y, w, zKy⟩).s = setS p.s c ⟨1, x, y, w, 0⟩ ∧ (nxP p ⟨1, (c : Int), x, y, w, zKy⟩).a = p.a ∧ (nxP p ⟨1, (c : Int), x, y, w, zKy⟩).p = p.p := by
  unfold nxP chS
  simp only [Int.toNat_natCast]
  exact ⟨rfl, rfl, rfl⟩
theorem nx_open (p : Pl) (c : Nat) : (nxP p ⟨2, (c : Int), 0, 0, 0, zKy⟩).s = setS p.s c { p.s c with st := 2 } ∧ (nxP p ⟨2, (c : Int), 0, 0, 0, zKy⟩).a = p.a ∧ (nxP p ⟨2, (c : Int), 0, 0, 0, zKy⟩).p = p.p := by
  unfold nxP chS
  simp only [Int.toNat_natCast]
  exact ⟨rfl, rfl, rfl⟩
theorem two_slots {x y u v : Int} (hx : 0 ≤ x ∧ x < 1000) (hy : 0 ≤ y ∧ y < 1000) (hu : 1 ≤ u ∧ u ≤ 8) (hv : 1 ≤ v ∧ v ≤ 8) :
    ∃ q : Pl, AllOut mkB (gl [⟨1, 4, x, 1, u, zKy⟩, ⟨2, 4, 0, 0, 0, zKy⟩, ⟨1, 9, y, 2, v, zKy⟩, ⟨2, 9, 0, 0, 0, zKy⟩]) 4 q 4 0 ∧ ∀ i, q.s i = if i = 9 then ⟨2, y, 2, v, 0⟩ else if i = 4 then ⟨2, x, 1, u, 0⟩ else zSp := by
  obtain ⟨p1, hp1⟩ : ∃ p1, p1 = nxP mkB ⟨1, ((4 : Nat) : Int), x, 1, u, zKy⟩ := ⟨_, rfl⟩
  obtain ⟨p2, hp2⟩ : ∃ p2, p2 = nxP p1 ⟨2, ((4 : Nat) : Int), 0, 0, 0, zKy⟩ := ⟨_, rfl⟩
  obtain ⟨p3, hp3⟩ : ∃ p3, p3 = nxP p2 ⟨1, ((9 : Nat) : Int), y, 2, v, zKy⟩ := ⟨_, rfl⟩
  obtain ⟨p4, hp4⟩ : ∃ p4, p4 = nxP p3 ⟨2, ((9 : Nat) : Int), 0, 0, 0, zKy⟩ := ⟨_, rfl⟩
  have s0 : ∀ i, mkB.s i = zSp := fun _ => rfl
  obtain ⟨n1, a1, b1⟩ := nx_bind mkB 4 x 1 u
  rw [← hp1] at n1 a1 b1
  have s1 : ∀ i, p1.s i = if i = 4 then ⟨1, x, 1, u, 0⟩ else zSp := fun i => by rw [n1]; rfl
  obtain ⟨n2, a2, b2⟩ := nx_open p1 4
  rw [← hp2] at n2 a2 b2
  have s2 : ∀ i, p2.s i = if i = 4 then ⟨2, x, 1, u, 0⟩ else zSp := fun i => by
    rw [n2]
    unfold setS
    by_cases e : i = 4
    · simp only [e, if_true]; rw [s1]; rfl
    · simp only [e, if_false]; rw [s1, if_neg e]
  obtain ⟨n3, a3, b3⟩ := nx_bind p2 9 y 2 v
  rw [← hp3] at n3 a3 b3
  have s3 : ∀ i, p3.s i = if i = 9 then ⟨1, y, 2, v, 0⟩ else if i = 4 then ⟨2, x, 1, u, 0⟩ else zSp := fun i => by
    rw [n3]
    unfold setS
    by_cases e : i = 9
    · simp only [e, if_true]
    · simp only [e, if_false]; rw [s2]
  obtain ⟨n4, _, _⟩ := nx_open p3 9
  rw [← hp4] at n4
  have s4 : ∀ i, p4.s i = if i = 9 then ⟨2, y, 2, v, 0⟩ else if i = 4 then ⟨2, x, 1, u, 0⟩ else zSp := fun i => by
    rw [n4]
    unfold setS
    by_cases e : i = 9
    · simp only [e, if_true]; rw [s3]; rfl
    · simp only [e, if_false]; rw [s3, if_neg e]
  have h1 : apR mkB ⟨1, 4, x, 1, u, zKy⟩ = (p1, 0) := by
    rw [hp1]
    refine bind_ok (c := 4) (by omega) rfl (by omega) (by omega) hu ?_
    unfold heldB
    rw [any_no (fun j _ => by unfold atS; rw [s0]; rfl)]
    have : (mkB.p == (1 : Int)) = false := rfl
    rw [this]; simp
  have h2 : apR p1 ⟨2, 4, 0, 0, 0, zKy⟩ = (p2, 0) := by
    rw [hp2]
    exact open_ok (c := 4) (by omega) (by rw [s1]; rfl)
  have h3 : apR p2 ⟨1, 9, y, 2, v, zKy⟩ = (p3, 0) := by
    rw [hp3]
    refine bind_ok (c := 9) (by omega) (by rw [s2]; rfl) (by omega) (by omega) hv ?_
    unfold heldB
    rw [any_no (fun j _ => by
      unfold atS
      rw [s2]
      by_cases e : j = 4
      · rw [if_pos e]; simp
      · rw [if_neg e]; rfl)]
    rw [b2, b1]
    have : (mkB.p == (2 : Int)) = false := rfl
    rw [this]; simp
  have h4 : apR p3 ⟨2, 9, 0, 0, 0, zKy⟩ = (p4, 0) := by
    rw [hp4]
    exact open_ok (c := 9) (by omega) (by rw [s3]; rfl)
  obtain ⟨G, hG⟩ : ∃ G, G = gl [⟨1, 4, x, 1, u, zKy⟩, ⟨2, 4, 0, 0, 0, zKy⟩, ⟨1, 9, y, 2, v, zKy⟩, ⟨2, 9, 0, 0, 0, zKy⟩] := ⟨_, rfl⟩
  have g0 : G 0 = ⟨1, 4, x, 1, u, zKy⟩ := by rw [hG]; rfl
  have g1 : G 1 = ⟨2, 4, 0, 0, 0, zKy⟩ := by rw [hG]; rfl
  have g2 : G 2 = ⟨1, 9, y, 2, v, zKy⟩ := by rw [hG]; rfl
  have g3 : G 3 = ⟨2, 9, 0, 0, 0, zKy⟩ := by rw [hG]; rfl
  rw [← hG]
  refine ⟨p4, ⟨?_, .inl ⟨rfl, rfl⟩⟩, s4⟩
  have st : ∀ {k : Nat} {a b : Pl}, runP mkB G k = some a → apR a (G k) = (b, 0) → runP mkB G (k + 1) = some b := by
    intro k a b ha hb
    unfold runP
    rw [ha]
    simp only [hb, if_true]
  exact st (st (st (st (k := 0) (a := mkB) rfl (by rw [g0]; exact h1)) (by rw [g1]; exact h2)) (by rw [g2]; exact h3)) (by rw [g3]; exact h4)
theorem two_num : ∀ u v : Nat, u < 9 → v < 9 → 1 ≤ u → 1 ≤ v → (127 / (u + v) * u + min (127 % (u + v)) u) + (127 / (u + v) * v + min (127 % (u + v) - u) v) = 127 ∧ 0 < 127 / (u + v) * u + min (127 % (u + v)) u ∧ 0 < 127 / (u + v) * v + min (127 % (u + v) - u) v ∧
    (127 / (u + v) * u + min (127 % (u + v)) u) * v ≤ (127 / (u + v) * v + min (127 % (u + v) - u) v + v) * u ∧ (127 / (u + v) * v + min (127 % (u + v) - u) v) * u ≤ (127 / (u + v) * u + min (127 % (u + v)) u) * v := by
  intro u v hu hv h1 h2
  rcases (show u = 1 ∨ u = 2 ∨ u = 3 ∨ u = 4 ∨ u = 5 ∨ u = 6 ∨ u = 7 ∨ u = 8 by omega) with rfl | rfl | rfl | rfl | rfl | rfl | rfl | rfl <;>
  rcases (show v = 1 ∨ v = 2 ∨ v = 3 ∨ v = 4 ∨ v = 5 ∨ v = 6 ∨ v = 7 ∨ v = 8 by omega) with rfl | rfl | rfl | rfl | rfl | rfl | rfl | rfl <;> decide
theorem two_shares {q : Pl} {x y : Int} {u v : Nat} (hu : 1 ≤ u ∧ u ≤ 8) (hv : 1 ≤ v ∧ v ≤ 8) (hs : ∀ i, q.s i = if i = 9 then ⟨2, y, 2, (v : Int), 0⟩ else if i = 4 then ⟨2, x, 1, (u : Int), 0⟩ else zSp) :
    ∃ m n : Nat, cnW (whlW q) ((4 : Nat) : Int) 127 = m ∧ cnW (whlW q) ((9 : Nat) : Int) 127 = n ∧ m + n = 127 ∧ 0 < m ∧ 0 < n ∧ m * v ≤ (n + v) * u ∧ n * u ≤ m * v := by
  have w9 : wtP q 9 = v := by unfold wtP; rw [hs]; rfl
  have w4 : wtP q 4 = u := by unfold wtP; rw [hs]; rfl
  have w0 : ∀ i, i ≠ 9 → i ≠ 4 → wtP q i = 0 := fun i h9 h4 => by unfold wtP; rw [hs, if_neg h9, if_neg h4]; rfl
  have st : ∀ i, offW (wtP q) (i + 1) = offW (wtP q) i + wtP q i := fun _ => rfl
  have o4 : offW (wtP q) 4 = 0 := zero_off (fun i hi => w0 i (by omega) (by omega))
  have o5 : offW (wtP q) 5 = u := by rw [st 4, o4, w4]; omega
  have o9 : offW (wtP q) 9 = u := by rw [st 8, st 7, st 6, st 5, o5, w0 5 (by omega) (by omega), w0 6 (by omega) (by omega), w0 7 (by omega) (by omega), w0 8 (by omega) (by omega)]; omega
  have o10 : offW (wtP q) 10 = u + v := by rw [st 9, o9, w9]
  have hi : ∀ d, offW (wtP q) (10 + d) = u + v := by
    intro d
    induction d with
    | zero => exact o10
    | succ d ih => rw [show 10 + (d + 1) = (10 + d) + 1 from rfl, st, ih, w0 _ (by omega) (by omega)]; omega
  have oT : offW (wtP q) 64 = u + v := hi 54
  have hT : 0 < offW (wtP q) 64 := by omega
  have t4 := tn_127 (wt := wtP q) (i := 4) (by omega) hT
  have t9 := tn_127 (wt := wtP q) (i := 9) (by omega) hT
  rw [oT, o4, w4, Nat.sub_zero] at t4
  rw [oT, o9, w9] at t9
  obtain ⟨h1, h2, h3, h4, h5⟩ := two_num u v (by omega) (by omega) hu.1 hv.1
  refine ⟨_, _, rfl, rfl, ?_⟩
  rw [whl_cn hT, whl_cn hT, t4, t9]
  exact ⟨h1, h2, h3, h4, h5⟩
end Go.Proofs.Ytejlfbiehcfbgaa
