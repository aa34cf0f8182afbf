/- What goes through two units, out and in. -/
import Derived.Test.YtjfopkbpaekejaaGreatGa
import Derived.Test.YtjfopkbpaekejaaGreatTopRtS
import Derived.Test.YtjfopkbpaekejaaGreatTopAll
import Derived.Test.YtjfopkbpaekejaaGreatWirMkp
import Derived.BigQuiet
import Derived.Deep.RegionHeld3
import Derived.Deep.Cut
import Derived.IntWalk
namespace Go.Proofs.YtjfopkbpaekejaaGreat
set_option linter.unusedVariables false
set_option linter.unusedSimpArgs false
open Go.RowKit Go.ChangeShapes Go.WideShapes Go.ChangeAt
/-- A packet of any kind, as a backend sends it. -/
def xK (x : Pk) : Pk := { x with kind := if x.kind = 3 then 2 else x.kind, code := if x.kind = 3 then 0 else x.code }
def xC (A P : Int) (x : Pk) : Pk := { x with src := A, fp := P, dst := 7000, life := 9, piece := 0 }
def xY (x : Pk) (go' : Nat → Int) (lb : Int) : Pk := { x with life := 8, src := 10, fp := 80, go := go', label := lb }
def xZ (x : Pk) (go' : Nat → Int) (lb : Int) : Pk := { x with life := 8, src := 7000, fp := x.tp, dst := 10, tp := 80, go := go', label := lb }
structure Mkd (x : Pk) : Prop where
  kd : x.kind = 1 ∨ x.kind = 2
  tp : 0 ≤ x.tp ∧ x.tp ≤ 65535
  fl : 0 ≤ x.flags ∧ x.flags ≤ 15
  lb : 0 ≤ x.label ∧ x.label ≤ 65535
  cl : (x.kind ≠ 1 → x.flags = 0 ∧ x.no = 0) ∧ (x.kind ≠ 2 → x.label = 0 ∧ x.bare = false) ∧ x.code = 0
  go : IsB x.go
  gd : IsB x.gd
  no : x.no ≤ 40
  nd : x.nd ≤ 200
theorem kd_E {x : Pk} (h : Mkd x) (hl : 0 ≤ x.life ∧ x.life ≤ 255) (hp : x.piece = 0) (hs : 0 ≤ x.src ∧ x.src ≤ 4294967295) (hd : 0 ≤ x.dst ∧ x.dst ≤ 4294967295) (hf : 0 ≤ x.fp ∧ x.fp ≤ 65535) : buildE x = 0 ∧ Clean x ∧ 24 ≤ lenP x ∧ lenP x ≤ 1500 ∧ lenP x = 24 + (if x.kind = 2 then 0 else x.no) + x.nd := by
  have hn := h.no
  have hm := h.nd
  have ht := h.tp
  have hfl := h.fl
  have hlb := h.lb
  have hL : lenP x = 24 + (if x.kind = 2 then 0 else x.no) + x.nd := by
    unfold lenP
    rcases h.kd with k | k
    · rw [k, if_neg (by decide), if_neg (by decide), if_neg (by decide)]
    · rw [k, if_neg (by decide), if_pos rfl, if_pos rfl]
  have hL2 : lenP x ≤ 1500 := by rw [hL]; split <;> omega
  have hr : rangeB x = true := by
    unfold rangeB inR
    rcases h.kd with k | k
    · rw [k, hp, if_neg (by decide), if_neg (by decide)]; simp; omega
    · rw [k, hp, if_neg (by decide), if_pos rfl]; simp; omega
  refine ⟨?_, ⟨fun k => ?_, h.cl.1, h.cl.2.1, fun _ => h.cl.2.2⟩, by omega, hL2, hL⟩
  · unfold buildE
    rw [hr, if_neg (by rcases h.kd with k | k <;> (rw [k]; decide)), if_neg (by simp), if_neg (by omega), if_neg (by rcases h.kd with k | k <;> omega)]
  · rcases h.kd with j | j <;> (rw [j] at k; exact absurd k (by decide))
theorem xK_mk {x : Pk} (hE : buildE x = 0) (hC : Clean x) (hgo : IsB x.go) (hgd : IsB x.gd) (hn : x.no ≤ 40) (hm : x.nd ≤ 200) : Mkd (xK x) := by
  obtain ⟨_, hr, _, _, _, _⟩ := buildE_0 hE
  have hk := kind_of hE
  unfold rangeB inR at hr
  by_cases h3 : x.kind = 3
  · have e : xK x = { x with kind := 2, code := 0 } := by unfold xK; rw [if_pos h3, if_pos h3]
    have c1 := hC.k1 (by omega)
    have c2 := hC.k2 (by omega)
    have c3 := hC.k3 h3
    rw [e]
    exact ⟨.inr rfl, by show 0 ≤ x.tp ∧ x.tp ≤ 65535; rw [c3.2]; decide, by show 0 ≤ x.flags ∧ x.flags ≤ 15; rw [c1.1]; decide, by show 0 ≤ x.label ∧ x.label ≤ 65535; rw [c2.1]; decide, ⟨fun _ => c1, fun h => absurd rfl h, rfl⟩, hgo, hgd, hn, hm⟩
  · have e : xK x = x := by unfold xK; rw [if_neg h3, if_neg h3]
    rw [e]
    have hkd : x.kind = 1 ∨ x.kind = 2 := by omega
    rw [if_neg h3] at hr
    rcases hkd with k | k
    · have c2 := hC.k2 (by omega)
      rw [k, if_neg (by decide)] at hr
      simp at hr
      exact ⟨.inl k, by omega, by omega, by rw [c2.1]; decide, ⟨hC.k1, hC.k2, hC.kc h3⟩, hgo, hgd, hn, hm⟩
    · have c1 := hC.k1 (by omega)
      rw [k, if_pos rfl] at hr
      simp at hr
      exact ⟨.inr k, by omega, by rw [c1.1]; decide, by omega, ⟨hC.k1, hC.k2, hC.kc h3⟩, hgo, hgd, hn, hm⟩
/-- Through two units. -/
theorem chain_all {p : Pl} (hp : Pt p) (ha : p.a = 10) (hpp : p.p = 80) {s : Nat} (hs : s < 64) (ht : takesB (p.s s).st = true) {x : Pk} (h : Mkd x) {n : Nat} (hn : n = lenP (xC (p.s s).ad (p.s s).po x)) :
    buildE (xC (p.s s).ad (p.s s).po x) = 0 ∧ n ≤ 1500 ∧ ∃ (F : Nat → Int) (nr' : Nat → Option Int) (go' : Nat → Int) (lb : Int), takeT p true (fun _ => none) (builtF (xC (p.s s).ad (p.s s).po x)) n = ⟨0, -1, false, n, F, nr'⟩ ∧ IsB F ∧ parseE F n = 0 ∧ wholeB F n = true ∧ IsB go' ∧ Pe (parseR F n) (xY (xC (p.s s).ad (p.s s).po x) go' lb) ∧
      n = lenP (xZ (xC (p.s s).ad (p.s s).po x) go' lb) ∧ buildE (xZ (xC (p.s s).ad (p.s s).po x) go' lb) = 0 ∧
      ∀ t, t = takeT p true (fun _ => none) (builtF (xZ (xC (p.s s).ad (p.s s).po x) go' lb)) n → t = dropT 9 (fun _ => none) ∨ ∃ (k : Nat) (c : Bool) (F2 : Nat → Int), t = ⟨0, k, c, n, F2, fun _ => none⟩ ∧ IsB F2 ∧ parseE F2 n = 0 ∧ wholeB F2 n = true := by
  obtain ⟨y, hy⟩ : ∃ y, y = xC (p.s s).ad (p.s s).po x := ⟨_, rfl⟩
  rw [← hy] at hn ⊢
  have hM : Mkd y := by rw [hy]; exact ⟨h.kd, h.tp, h.fl, h.lb, h.cl, h.go, h.gd, h.no, h.nd⟩
  have hsp := hp.1 s hs
  have e1 : y.src = (p.s s).ad := by rw [hy]; rfl
  have e2 : y.fp = (p.s s).po := by rw [hy]; rfl
  have e3 : y.dst = 7000 := by rw [hy]; rfl
  have e4 : y.life = 9 := by rw [hy]; rfl
  have e5 : y.piece = 0 := by rw [hy]; rfl
  clear hy
  obtain ⟨hE, hC, hl1, hl2, hl3⟩ := kd_E hM (by rw [e4]; decide) e5 (by rw [e1]; exact hsp.1) (by rw [e3]; decide) (by rw [e2]; exact hsp.2.1)
  rw [← hn] at hl1 hl2 hl3
  have hg := builtF_B hM.gd hM.go hE
  have hq := built_parseE hM.gd hM.go hE
  have pe := built_parse hM.gd hM.go hE hC
  have hw := built_whole hM.gd hM.go hE
  rw [← hn] at hq pe hw
  obtain ⟨k, hf, hk, htk, f1, f2⟩ := find_some hs ht
  have hk3 : y.kind ≠ 3 := by rcases hM.kd with j | j <;> omega
  have h0 : Nt32 (fun _ => none) := fun j v h => by cases h
  obtain ⟨F, nr', go', lb, a1, a2, a3, a4, a5, a6, a7, a8, a9⟩ := out_all (nr := fun _ => none) (s := k) hp h0 hg hq pe hM.kd (by rw [e4]; decide) hM.go hM.lb hk
  have hlb : (y.kind ≠ 2 → lb = 0) := fun j => by
    have := a7 (by rcases hM.kd with i | i; exact i; exact absurd i j)
    rw [this, (hM.cl.2.1 j).1]
  have hT : takeT p true (fun _ => none) (builtF y) n = ⟨0, -1, false, n, F, nr'⟩ := by
    rw [take_out hq pe e5 (by rw [e4]; decide) hk3 (by rw [e3, ha]; intro h; exact absurd h.1 (by decide)) (by rw [e1, e2]; exact hf), a1]
  have hMZ : Mkd (xZ y go' lb) := ⟨hM.kd, by show (0 : Int) ≤ 80 ∧ (80 : Int) ≤ 65535; decide, hM.fl, a6, ⟨hM.cl.1, fun j => ⟨hlb j, (hM.cl.2.1 j).2⟩, hM.cl.2.2⟩, a5, hM.gd, hM.no, hM.nd⟩
  obtain ⟨zE, zC, _, _, zl⟩ := kd_E hMZ (by show (0 : Int) ≤ 8 ∧ (8 : Int) ≤ 255; decide) e5 (by show (0 : Int) ≤ 7000 ∧ (7000 : Int) ≤ 4294967295; decide) (by show (0 : Int) ≤ 10 ∧ (10 : Int) ≤ 4294967295; decide) hM.tp
  have hnZ : n = lenP (xZ y go' lb) := by rw [zl, hl3]; rfl
  have gZ := builtF_B hMZ.gd hMZ.go zE
  have qZ := built_parseE hMZ.gd hMZ.go zE
  have pZ := built_parse hMZ.gd hMZ.go zE zC
  have wZ := built_whole hMZ.gd hMZ.go zE
  rw [← hnZ] at qZ pZ wZ
  refine ⟨hE, hl2, F, nr', go', lb, hT, a2, a3, by rw [a4, hw], a5, ?_, hnZ, zE, fun t h => ?_⟩
  · refine pe_trans a9 ⟨rfl, ?_, rfl, ha, rfl, hpp, rfl, rfl, rfl, rfl, rfl, rfl, fun _ _ => rfl, rfl, fun _ _ => rfl⟩
    show y.life - 1 = 8
    rw [e4]; rfl
  · have hI := in_all (nr := fun _ => none) hp gZ qZ pZ hMZ.kd (by show (1 : Int) < 8; decide) hMZ.go
    rw [take_in qZ pZ e5 (by show (1 : Int) < 8; decide) hk3 ⟨ha.symm, hpp.symm⟩] at h
    rcases hI with hI | ⟨j, c, F2, g2, b1, b2, b3, b4, b5, b6, b7, b8, b9⟩
    · left; rw [h, hI]
    · right; exact ⟨j, c, F2, by rw [h, b3], b5, b6, by rw [b7, wZ]⟩
end Go.Proofs.YtjfopkbpaekejaaGreat

