/- What opens a stream, and what does not. -/
import Derived.Test.YtjfopkbpaekejaaGreatGa
import Derived.Test.YtjfopkbpaekejaaGreatTkBy
import Derived.Test.YtjfopkbpaekejaaGreatTopChM
import Derived.Test.YtjfopkbpaekejaaGreatTopRtS
import Derived.BigQuiet
import Derived.Deep.RegionHeld3
import Derived.Deep.Cut
import Derived.IntWalk
namespace Go.Proofs.YtjfopkbpaekejaaGreat
set_option linter.unusedVariables false
set_option linter.unusedSimpArgs false
open Go.RowKit Go.ChangeShapes Go.WideShapes Go.ChangeAt
set_option maxRecDepth 100000
/-- A stream with a stamp, as a client sends it. -/
def xS (p : Pl) (po fg mu z : Int) : Pk := { kind := 1, life := 5, src := 4000, dst := p.a, fp := po, tp := p.p, flags := fg, no := 12, go := mkBO mu z }
theorem xS_E {p : Pl} (hp : Pt p) {po fg mu z : Int} (hpo : 0 ≤ po ∧ po ≤ 65535) (hf : 0 ≤ fg ∧ fg ≤ 15) (hm : U32 mu) (hz : U32 z) : buildE (xS p po fg mu z) = 0 ∧ Clean (xS p po fg mu z) := by
  have hM : Mkd (xS p po fg mu z) := ⟨.inl rfl, hp.2.2.2.2, hf, by show (0 : Int) ≤ 0 ∧ (0 : Int) ≤ 65535; decide, ⟨fun h => absurd rfl h, fun _ => ⟨rfl, rfl⟩, rfl⟩, mkB_B hm hz, c0B_, by show 12 ≤ 40; decide, by show 0 ≤ 200; decide⟩
  have h := kd_E hM (by show (0 : Int) ≤ 5 ∧ (5 : Int) ≤ 255; decide) rfl (by show (0 : Int) ≤ 4000 ∧ (4000 : Int) ≤ 4294967295; decide) hp.2.2.2.1 hpo
  exact ⟨h.1, h.2.1⟩
theorem open_all {p : Pl} (hp : Pt p) {po fg mu ck : Int} {s : Nat} (hs : s < 64) (hpo : 0 ≤ po ∧ po ≤ 65535) (hf : 0 ≤ fg ∧ fg ≤ 15) (hm : U32 mu) (hc : ck = cok 4096 p.r.c 1 ⟨4000, po, p.a, p.p⟩ s (p.r.e % 4)) (hcb : 0 ≤ ck ∧ ck < 1048576) (ht : takesB (p.s s).st = true) (nr : Nat → Option Int) :
    U32 (putV mu ck) ∧ IsB (builtF (xS p po fg mu (putV mu ck))) ∧ builtF (xS p po fg mu (putV mu ck)) 0 = 1 ∧ lenP (xS p po fg mu (putV mu ck)) = 36 ∧
    (fg ≠ 1 → ∃ F, takeT p true nr (builtF (xS p po fg mu (putV mu ck))) 36 = ⟨0, s, true, 36, F, nr⟩) ∧
    (fg = 1 → (whlW p (pkW (flP p 4000 po)).toNat = -1 → takeT p true nr (builtF (xS p po fg mu (putV mu ck))) 36 = dropT 9 nr) ∧ ∀ k : Nat, whlW p (pkW (flP p 4000 po)).toNat = k → ∃ F, takeT p true nr (builtF (xS p po fg mu (putV mu ck))) 36 = ⟨0, k, false, 36, F, nr⟩) := by
  have hz : U32 (putV mu ck) := by unfold U32 at hm ⊢; unfold putV; omega
  obtain ⟨hE, hC⟩ := xS_E hp hpo hf hm hz
  have hgo : IsB (xS p po fg mu (putV mu ck)).go := mkB_B hm hz
  have hgd : IsB (xS p po fg mu (putV mu ck)).gd := c0B_
  have hg := builtF_B hgd hgo hE
  have hq := built_parseE hgd hgo hE
  have pe := built_parse hgd hgo hE hC
  have hL : lenP (xS p po fg mu (putV mu ck)) = 36 := rfl
  rw [hL] at hq pe
  have hst : stO (xS p po fg mu (putV mu ck)) = (4, mu, putV mu ck, true) := stamp_mk0 hm hz
  have hT : takeT p true nr (builtF (xS p po fg mu (putV mu ck))) 36 = inT p nr (builtF (xS p po fg mu (putV mu ck))) 36 (xS p po fg mu (putV mu ck)) := take_in hq pe rfl (by show (1 : Int) < 5; decide) (by show (1 : Int) ≠ 3; decide) ⟨rfl, rfl⟩
  refine ⟨hz, hg, x_0 rfl, hL, fun h1 => ?_, fun h1 => ?_⟩
  · have hca : carT (xS p po fg mu (putV mu ck)) = some ck := by
      unfold carT
      rw [if_neg (by show ¬ (1 : Int) = 2; decide), if_neg (by show ¬ fg = 1; exact h1), hst, if_pos rfl]
      show some (putV mu ck % 1048576) = some ck
      rw [show putV mu ck % 1048576 = ck from by unfold putV; omega]
    have hrd : readC (tkT (xS p po fg mu (putV mu ck)).kind) p.r (xS p po fg mu (putV mu ck)).kind (flP p (xS p po fg mu (putV mu ck)).src (xS p po fg mu (putV mu ck)).fp) ck = some (s : Int) := by
      show readC 4096 p.r 1 ⟨4000, po, p.a, p.p⟩ ck = _
      rw [hc]
      exact read_cok 4096 p.r p.r.c 1 ⟨4000, po, p.a, p.p⟩ s (p.r.e % 4) (.inl rfl) (by omega) (by omega) (keyOf_now p.r)
    have hb := by_some hca hrd ht
    exact ⟨_, by rw [hT]; exact in_some hb⟩
  · have hca : carT (xS p po fg mu (putV mu ck)) = none := by
      unfold carT
      rw [if_neg (by show ¬ (1 : Int) = 2; decide), if_pos (by show fg = 1; exact h1)]
    have hb := by_no1 (p := p) hca
    exact ⟨fun hw => by rw [hT]; exact in_no hb hw, fun k hw => ⟨_, by rw [hT]; exact in_whl hb hw⟩⟩
end Go.Proofs.YtjfopkbpaekejaaGreat
