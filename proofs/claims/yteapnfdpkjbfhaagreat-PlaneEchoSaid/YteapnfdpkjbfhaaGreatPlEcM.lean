/- What an echo becomes, pure. -/
import Derived.Test.YteapnfdpkjbfhaaGreatGa
import Derived.Test.YteapnfdpkjbfhaaGreatTopAll
import Derived.Test.YteapnfdpkjbfhaaGreatTopChM
import Derived.Test.YteapnfdpkjbfhaaGreatTopRtS
import Derived.Test.YteapnfdpkjbfhaaGreatTopIn
import Derived.BigQuiet
import Derived.Deep.RegionHeld3
import Derived.Deep.Cut
import Derived.IntWalk
namespace Go.Proofs.YteapnfdpkjbfhaaGreat
set_option linter.unusedVariables false
set_option linter.unusedSimpArgs false
open Go.RowKit Go.ChangeShapes Go.WideShapes Go.ChangeAt
set_option maxRecDepth 100000
def xE (x : Pk) (e : Int) : Pk := { x with kind := 1, life := 9, flags := 2, label := 0, bare := false, no := 12, go := mkBO 7 e }
theorem u32_7 : U32 7 := ⟨by decide, by decide⟩
theorem u32_0 : U32 0 := ⟨by decide, by decide⟩
theorem xE_M {p : Pl} {x : Pk} (hI : Inn p x) {e : Int} (he : U32 e) : Mkd (xE x e) :=
 ⟨.inl rfl, hI.md.tp, by show (0 : Int) ≤ 2 ∧ (2 : Int) ≤ 15; decide, by show (0 : Int) ≤ 0 ∧ (0 : Int) ≤ 65535; decide, ⟨fun h => absurd rfl h, fun _ => ⟨rfl, rfl⟩, hI.md.cl.2.2⟩, mkB_B u32_7 he, hI.md.gd, by show 12 ≤ 40; decide, hI.md.nd⟩
theorem pe_gox {x y : Pk} (h : Pe x y) {f : Nat → Int} (hf : ∀ j, j < y.no → y.go j = f j) : Pe x { y with go := f } :=
 ⟨h.kind, h.life, h.piece, h.src, h.dst, h.fp, h.tp, h.flags, h.label, h.bare, h.code, h.no, fun j hj => (h.go j hj).trans (hf j (by rw [← h.no]; exact hj)), h.nd, h.gd⟩
/-- What an echo becomes where no stamp was heard. -/
theorem echo_in {p : Pl} {g : Nat → Int} {n : Nat} {x : Pk} {e : Int} (hp : Pt p) (hg : IsB g) (hq : parseE g n = 0) (pe : Pe (parseR g n) x) (hk : x.kind = 1) (hl : 1 < x.life) (hno : x.no = 12) (hgo : x.go = mkBO 7 e) (he : U32 e) :
 inT p (fun _ => none) g n x = dropT 9 (fun _ => none) ∨ ∃ (k : Nat) (c : Bool) (F : Nat → Int), k < 64 ∧ inT p (fun _ => none) g n x = ⟨0, k, c, n, F, fun _ => none⟩ ∧ IsB F ∧ parseE F n = 0 ∧ wholeB F n = wholeB g n ∧ Pe (parseR F n) { moved { x with life := x.life - 1 } false (p.s k).ad (p.s k).po with go := mkBO 7 0 } := by
 have hk3 : x.kind ≠ 3 := by omega
 have e0 : g 0 = x.kind := pe_kind hq pe
 have hst : stO x = (4, 7, e, true) := by unfold stO; rw [hno, hgo]; exact stamp_mk0 u32_7 he
 rcases sl_bd p x with h | ⟨k, hk64, h⟩
 ·left
  unfold inT
  rw [if_pos h]
 ·right
  have hsp := hp.1 k hk64
  obtain ⟨q1, q2, q3, q4, q5⟩ := an_read (s := false) (ad := (p.s k).ad) (po := (p.s k).po) hg hq pe hl hk3 hsp.1 hsp.2.1
  have hI : inT p (fun _ => none) g n x = ⟨0, k, (byT p x).isSome, n, inG p (fun _ => none) g n x k, fun _ => none⟩ := by
   unfold inT
   rw [h, if_neg (by omega)]
   rfl
  by_cases hz : e = 0
  ·refine ⟨k, (byT p x).isSome, natF (ageF g) n false (p.s k).ad (p.s k).po, hk64, ?_, q2, q1, q4, pe_gox q3 (fun j _ => by show x.go j = _; rw [hgo, hz])⟩
   rw [hI]
   unfold inG
   dsimp only
   rw [hst, if_neg (fun h => h.2 hz)]
  ·have hl24 : 24 + x.no ≤ n := by have := (rd_len hg hq).2.2.2.2.2.2.1 (by rw [e0, hk]); rw [pe.no] at this; exact this
   have hw := wr_opt (i := 8) (v := 0) q1 (by rw [q5, e0, hk]) (by rw [q3.no]; show _ ≤ x.no; omega)
   refine ⟨k, (byT p x).isSome, wrF (natF (ageF g) n false (p.s k).ad (p.s k).po) n (24 + 8) 4 0, hk64, ?_, wr_B q2 _ _ _ _, wr_parse (by omega) q1, ?_, ?_⟩
   ·rw [hI]
    unfold inG
    dsimp only
    rw [hst, if_pos ⟨rfl, hz⟩]
    rfl
   ·rw [wr_whole q2 (by omega) (by omega) (by omega) q1, q4]
   ·exact pe_gox (pe_trans hw (pe_go q3)) (fun j hj => by
     show putF x.go 8 4 0 j = _
     rw [hgo]
     exact put_mk8 u32_0 j (by have : j < x.no := hj; omega))
theorem echo_all {p : Pl} {x : Pk} {e : Int} (hp : Pt p) (hI : Inn p x) (he : U32 e) : buildE (xE x e) = 0 ∧ IsB (builtF (xE x e)) ∧ builtF (xE x e) 0 = 1 ∧ lenP (xE x e) ≤ 1500 ∧
 (takeT p true (fun _ => none) (builtF (xE x e)) (lenP (xE x e)) = dropT 9 (fun _ => none) ∨ ∃ (k : Nat) (c : Bool) (F : Nat → Int) (y : Pk), k < 64 ∧ takeT p true (fun _ => none) (builtF (xE x e)) (lenP (xE x e)) = ⟨0, k, c, lenP (xE x e), F, fun _ => none⟩ ∧ IsB F ∧ parseE F (lenP (xE x e)) = 0 ∧ wholeB F (lenP (xE x e)) = true ∧ Pe (parseR F (lenP (xE x e))) y ∧ y.no = 12 ∧ y.go = mkBO 7 0) := by
 have hM := xE_M hI he
 obtain ⟨hE, hC, _, hl⟩ := kd_E hM (by show (0 : Int) ≤ 9 ∧ (9 : Int) ≤ 255; decide) hI.pc hI.src (by show 0 ≤ x.dst ∧ x.dst ≤ _; rw [hI.dst]; exact hp.2.2.2.1) hI.fp
 have hg := builtF_B hM.gd hM.go hE
 have hq := built_parseE hM.gd hM.go hE
 have pe := built_parse hM.gd hM.go hE hC
 have hw := built_whole hM.gd hM.go hE
 refine ⟨hE, hg, x_0 rfl, hl.1, ?_⟩
 rw [take_in hq pe hI.pc (by show (1 : Int) < 9; decide) (by show (1 : Int) ≠ 3; decide) ⟨hI.dst, hI.tp⟩]
 rcases echo_in hp hg hq pe rfl (by show (1 : Int) < 9; decide) rfl rfl he with h | ⟨k, c, F, h1, h2, h3, h4, h5, h6⟩
 ·exact .inl h
 ·exact .inr ⟨k, c, F, _, h1, h2, h3, h4, h5.trans hw, h6, rfl, rfl⟩
end Go.Proofs.YteapnfdpkjbfhaaGreat
