/- A slot that is shut, by two units. -/
import Derived.Test.YtjfopkbpaekejaaGreatGa
import Derived.Test.YtjfopkbpaekejaaGreatTkBy
import Derived.Test.YtjfopkbpaekejaaGreatTopChM
import Derived.Test.YtjfopkbpaekejaaGreatTopRtS
import Derived.Test.YtjfopkbpaekejaaGreatGr
import Derived.Test.YtjfopkbpaekejaaGreatGx
import Derived.BigQuiet
import Derived.Deep.RegionHeld3
import Derived.Deep.Cut
import Derived.IntWalk
namespace Go.Proofs.YtjfopkbpaekejaaGreat
set_option linter.unusedVariables false
set_option linter.unusedSimpArgs false
open Go.RowKit Go.ChangeShapes Go.WideShapes Go.ChangeAt
set_option maxRecDepth 100000
theorem inRP_c {c : Nat} (h : c < 64) : inRP (c : Int) 0 63 = true := by unfold inRP; simp; omega
theorem shut_ap {p : Pl} {c : Nat} (hc : c < 64) (h : (p.s c).st = 1 ∨ (p.s c).st = 3) : apR p ⟨4, (c : Int), 0, 0, 0, zKy⟩ = (nxP p ⟨4, (c : Int), 0, 0, 0, zKy⟩, 0) := by
  have hk : chk ⟨4, (c : Int), 0, 0, 0, zKy⟩ = 0 := by rw [chk_r]; simp only [inRP_c hc]; rfl
  have hf : fitB p ⟨4, (c : Int), 0, 0, 0, zKy⟩ c = true := by
    unfold fitB
    rcases h with h | h <;> simp only [h] <;> rfl
  unfold apR
  rw [if_pos hk]
  simp only [Int.toNat_natCast]
  unfold refE
  rw [hf]
  rfl
theorem drain_ap {p : Pl} {c : Nat} (hc : c < 64) (h : (p.s c).st = 2) : apR p ⟨3, (c : Int), 0, 0, 0, zKy⟩ = (nxP p ⟨3, (c : Int), 0, 0, 0, zKy⟩, 0) := by
  have hk : chk ⟨3, (c : Int), 0, 0, 0, zKy⟩ = 0 := by rw [chk_r]; simp only [inRP_c hc]; rfl
  have hf : fitB p ⟨3, (c : Int), 0, 0, 0, zKy⟩ c = true := by
    unfold fitB
    simp only [h]
    rfl
  unfold apR
  rw [if_pos hk]
  simp only [Int.toNat_natCast]
  unfold refE
  rw [hf]
  rfl
theorem nx_drain (p : Pl) (c : Nat) : nxP p ⟨3, (c : Int), 0, 0, 0, zKy⟩ = ⟨p.v + 1, p.a, p.p, setS p.s c { p.s c with st := 3 }, p.r⟩ := by
  unfold nxP chS
  simp only [Int.toNat_natCast]
  rfl
theorem nx_shut (p : Pl) (c : Nat) : nxP p ⟨4, (c : Int), 0, 0, 0, zKy⟩ = ⟨p.v + 1, p.a, p.p, setS p.s c { p.s c with st := 4, si := p.r.e }, p.r⟩ := by
  unfold nxP chS
  simp only [Int.toNat_natCast]
  rfl
theorem drain_st {p : Pl} {c : Nat} : ((nxP p ⟨3, (c : Int), 0, 0, 0, zKy⟩).s c).st = 3 := by rw [nx_drain]; show (setS _ c _ c).st = 3; unfold setS; simp
theorem takes_cases {s : Int} (h : takesB s = true) : s = 1 ∨ s = 2 ∨ s = 3 := by
  unfold takesB at h
  simp at h
  omega
theorem rapply_fa (p : Pl) (e : En) (hp : PB p) (w : World) : Calls Tryz.prog 22 #[.agg (FA 330 (pc p)), .agg #[.int .i64 e.k, .int .i64 e.s, .int .i64 e.a, .int .i64 e.p, .int .i64 e.w, .int .u64 e.y.a, .int .u64 e.y.b]] w fun x w' => x = .returned (.tuple #[.agg (FA 330 (pc (apR p e).1)), .int .i64 (apR p e).2]) ∧ Below w.heap.size w w' := rapply_any p e hp w
/-- A gram with a label, as a client sends it. -/
def xG (a q po ck : Int) : Pk := { kind := 2, life := 5, src := 4000, dst := a, fp := po, tp := q, label := ck }
theorem xG_E {a q po ck : Int} (ha : 0 ≤ a ∧ a ≤ 4294967295) (hq : 0 ≤ q ∧ q ≤ 65535) (hpo : 0 ≤ po ∧ po ≤ 65535) (hc : 0 ≤ ck ∧ ck < 65536) : buildE (xG a q po ck) = 0 ∧ Clean (xG a q po ck) ∧ lenP (xG a q po ck) = 24 := by
  have hM : Mkd (xG a q po ck) := ⟨.inr rfl, hq, by show (0 : Int) ≤ 0 ∧ (0 : Int) ≤ 15; decide, by show 0 ≤ ck ∧ ck ≤ 65535; omega, ⟨fun _ => ⟨rfl, rfl⟩, fun h => absurd rfl h, rfl⟩, c0B_, c0B_, by show 0 ≤ 40; decide, by show 0 ≤ 200; decide⟩
  have h := kd_E hM (by show (0 : Int) ≤ 5 ∧ (5 : Int) ≤ 255; decide) rfl (by show (0 : Int) ≤ 4000 ∧ (4000 : Int) ≤ 4294967295; decide) ha hpo
  exact ⟨h.1, h.2.1, rfl⟩
theorem whl_k2 (p : Pl) (f : Fl) : whlW p (pkW f).toNat = -1 ∨ ∃ k : Nat, k < 64 ∧ (p.s k).st = 2 ∧ whlW p (pkW f).toNat = k := by
  have b := pkW_bd f
  generalize pkW f = z at b
  obtain ⟨j, hj⟩ : ∃ j : Nat, z = j := ⟨z.toNat, by omega⟩
  subst hj
  rcases whl_bd (p := p) (j := j) (by omega) with h | ⟨i, h1, h3, h2⟩
  · exact .inl h
  · exact .inr ⟨i, h1, h3, h2⟩
theorem shut_all {p : Pl} (hp : Pt p) (hi : Pinv p 60) {po ck : Int} {s : Nat} (hs : s < 64) (hpo : 0 ≤ po ∧ po ≤ 65535) (hc : ck = cok 256 p.r.c 2 ⟨4000, po, p.a, p.p⟩ s (p.r.e % 4)) (hcb : 0 ≤ ck ∧ ck < 65536) (ht : takesB (p.s s).st = true) (nr : Nat → Option Int) :
    ∃ d u : Pl, ((p.s s).st = 2 → apR p ⟨3, (s : Int), 0, 0, 0, zKy⟩ = (d, 0)) ∧ ((p.s s).st ≠ 2 → d = p) ∧ apR d ⟨4, (s : Int), 0, 0, 0, zKy⟩ = (u, 0) ∧ Pt d ∧ Pt u ∧ PB p ∧ PB d ∧ IsB (builtF (xG p.a p.p po ck)) ∧ builtF (xG p.a p.p po ck) 0 = 2 ∧
      (∃ t, takeT d true nr (builtF (xG p.a p.p po ck)) 24 = t ∧ (ck ≠ 0 → t.d = 0 ∧ t.s = s ∧ t.c = true)) ∧
      (takeT u true nr (builtF (xG p.a p.p po ck)) 24 = dropT 9 nr ∨ ∃ (k : Nat) (F : Nat → Int), k ≠ s ∧ takeT u true nr (builtF (xG p.a p.p po ck)) 24 = ⟨0, k, false, 24, F, nr⟩) := by
  obtain ⟨d, hd⟩ : ∃ d, d = if (p.s s).st = 2 then nxP p ⟨3, (s : Int), 0, 0, 0, zKy⟩ else p := ⟨_, rfl⟩
  have hd1 : (p.s s).st = 2 → apR p ⟨3, (s : Int), 0, 0, 0, zKy⟩ = (d, 0) := fun h => by rw [hd, if_pos h]; exact drain_ap hs h
  have hd2 : (p.s s).st ≠ 2 → d = p := fun h => by rw [hd, if_neg h]
  have hdf : d.a = p.a ∧ d.p = p.p ∧ d.r = p.r ∧ ((d.s s).st = 1 ∨ (d.s s).st = 3) ∧ Pt d ∧ Pinv d 61 := by
    by_cases h : (p.s s).st = 2
    · have e := hd1 h
      have e1 : d = (apR p ⟨3, (s : Int), 0, 0, 0, zKy⟩).1 := by rw [e]
      have hn : d = nxP p ⟨3, (s : Int), 0, 0, 0, zKy⟩ := by rw [hd, if_pos h]
      have hr : d.a = p.a ∧ d.p = p.p ∧ d.r = p.r := by rw [hn, nx_drain]; exact ⟨rfl, rfl, rfl⟩
      have h0 : (apR p ⟨3, (s : Int), 0, 0, 0, zKy⟩).2 = 0 := by rw [e]
      have hI := apR_inv hi h0
      rw [← e1] at hI
      have hw := hp.1.step h0
      rw [← e1] at hw
      refine ⟨hr.1, hr.2.1, hr.2.2, .inr (by rw [hn]; exact drain_st), ⟨hw, by rw [hr.2.2]; exact hp.2.1, hI.st, by rw [hr.1]; exact hp.2.2.2.1, by rw [hr.2.1]; exact hp.2.2.2.2⟩, hI.mono (by omega)⟩
    · rw [hd2 h]
      refine ⟨rfl, rfl, rfl, ?_, hp, hi.mono (by omega)⟩
      rcases takes_cases ht with j | j | j
      · exact .inl j
      · exact absurd j h
      · exact .inr j
  obtain ⟨da, dp, dr, dst, dPt, dI⟩ := hdf
  obtain ⟨u, hu⟩ : ∃ u, u = nxP d ⟨4, (s : Int), 0, 0, 0, zKy⟩ := ⟨_, rfl⟩
  have hu1 : apR d ⟨4, (s : Int), 0, 0, 0, zKy⟩ = (u, 0) := by rw [hu]; exact shut_ap hs dst
  have uu : u.a = d.a ∧ u.p = d.p ∧ u.r = d.r ∧ (u.s s).st = 4 := by
    rw [hu, nx_shut]
    exact ⟨rfl, rfl, rfl, by show (setS _ s _ s).st = 4; unfold setS; simp⟩
  have h0 : (apR d ⟨4, (s : Int), 0, 0, 0, zKy⟩).2 = 0 := by rw [hu1]
  have e1 : u = (apR d ⟨4, (s : Int), 0, 0, 0, zKy⟩).1 := by rw [hu1]
  have uI := apR_inv dI h0
  rw [← e1] at uI
  have uw := dPt.1.step h0
  rw [← e1] at uw
  have uPt : Pt u := ⟨uw, by rw [uu.2.2.1]; exact dPt.2.1, uI.st, by rw [uu.1]; exact dPt.2.2.2.1, by rw [uu.2.1]; exact dPt.2.2.2.2⟩
  obtain ⟨hE, hC, hL⟩ := xG_E (po := po) (ck := ck) hp.2.2.2.1 hp.2.2.2.2 hpo hcb
  have hg := builtF_B (p := xG p.a p.p po ck) c0B_ c0B_ hE
  have hq := built_parseE (p := xG p.a p.p po ck) c0B_ c0B_ hE
  have pe := built_parse (p := xG p.a p.p po ck) c0B_ c0B_ hE hC
  rw [hL] at hq pe
  have tD : takeT d true nr (builtF (xG p.a p.p po ck)) 24 = inT d nr (builtF (xG p.a p.p po ck)) 24 (xG p.a p.p po ck) := take_in hq pe rfl (by show (1 : Int) < 5; decide) (by show (2 : Int) ≠ 3; decide) ⟨da.symm, dp.symm⟩
  have tU : takeT u true nr (builtF (xG p.a p.p po ck)) 24 = inT u nr (builtF (xG p.a p.p po ck)) 24 (xG p.a p.p po ck) := take_in hq pe rfl (by show (1 : Int) < 5; decide) (by show (2 : Int) ≠ 3; decide) ⟨by rw [uu.1]; exact da.symm, by rw [uu.2.1]; exact dp.symm⟩
  have hcar : ck ≠ 0 → carT (xG p.a p.p po ck) = some ck := fun h => by
    unfold carT
    rw [if_pos (by rfl), if_neg (by show ¬ ck = 0; exact h)]
    rfl
  have hrd : ∀ q : Pl, q.a = p.a → q.p = p.p → q.r = p.r → readC (tkT (xG p.a p.p po ck).kind) q.r (xG p.a p.p po ck).kind (flP q (xG p.a p.p po ck).src (xG p.a p.p po ck).fp) ck = some (s : Int) := fun q h1 h2 h3 => by
    show readC 256 q.r 2 ⟨4000, po, q.a, q.p⟩ ck = _
    rw [h1, h2, h3, hc]
    exact read_cok 256 p.r p.r.c 2 ⟨4000, po, p.a, p.p⟩ s (p.r.e % 4) (.inr rfl) (by omega) (by omega) (keyOf_now p.r)
  refine ⟨d, u, hd1, hd2, hu1, dPt, uPt, hi.pb (by omega), dI.pb (by omega), hg, ?_, ⟨_, rfl, fun h => ?_⟩, ?_⟩
  · rw [built_hd (by omega), raw_0]; rfl
  · have hb := by_some (hcar h) (hrd d da dp dr) (by show takesB (d.s s).st = true; rcases dst with j | j <;> (rw [j]; decide))
    rw [tD, in_some hb]
    exact ⟨rfl, rfl, rfl⟩
  · have hb : byT u (xG p.a p.p po ck) = none := by
      by_cases h : ck = 0
      · exact by_no1 (by unfold carT; rw [if_pos (by rfl), if_pos (by show ck = 0; exact h)])
      · exact by_no3 (hcar h) (hrd u (uu.1.trans da) (uu.2.1.trans dp) (uu.2.2.1.trans dr)) (by show takesB (u.s s).st = false; rw [uu.2.2.2]; decide)
    rcases whl_k2 u (flP u (xG p.a p.p po ck).src (xG p.a p.p po ck).fp) with h | ⟨k, hk, h2, h⟩
    · left; rw [tU, in_no hb h]
    · right
      refine ⟨k, _, fun e => ?_, by rw [tU]; exact in_whl hb h⟩
      subst e
      rw [uu.2.2.2] at h2
      exact absurd h2 (by decide)
end Go.Proofs.YtjfopkbpaekejaaGreat
