/- roundhouselaw9.PlaneFaults answers true for every row, any three numbers, any bytes, any spoiling; no condition. -/
import Derived.Test.YteapnfdpkjbfhaaGreatGa
import Derived.Test.YteapnfdpkjbfhaaGreatPlFx
import Derived.Test.YteapnfdpkjbfhaaGreatTopAll
import Derived.Test.YteapnfdpkjbfhaaGreatTopChM
import Derived.Test.YteapnfdpkjbfhaaGreatTopRtS
import Derived.BigQuiet
import Derived.Deep.RegionHeld3
import Derived.Deep.Cut
import Derived.IntWalk
import Derived.Test.YteapnfdpkjbfhaaGreatPlTf
import Derived.Test.YteapnfdpkjbfhaaGreatTopTh
import Derived.Test.YteapnfdpkjbfhaaGreatWirRp3
import Derived.Test.YteapnfdpkjbfhaaGreatTopPk
import Derived.Test.YteapnfdpkjbfhaaGreatGz
import Derived.Test.YteapnfdpkjbfhaaGreatWhlRmake
import Derived.Test.YteapnfdpkjbfhaaGreatPlKf
import Derived.Test.YteapnfdpkjbfhaaGreatWirWh3
import Derived.Test.YteapnfdpkjbfhaaGreatTopAddF
import Derived.Deep.LoopGhost
import Derived.Deep.CutRange
import Derived.Deep.CutBlock
/- What becomes of what tells of a packet that was not delivered, pure. -/
namespace Go.Proofs.YteapnfdpkjbfhaaGreat
set_option linter.unusedVariables false
set_option linter.unusedSimpArgs false
open Go.RowKit Go.ChangeShapes Go.WideShapes Go.ChangeAt
set_option maxRecDepth 100000
theorem rd_3 {g : Nat → Int} {n : Nat} (hp : parseE g n = 0) (h3 : g 0 = 3) : parseR g n = { kind := g 0, life := g 1, piece := g 12, src := num g 4 4, dst := num g 8 4, code := g 16, nd := n - 20, gd := fun j => g (20 + j) } := by
 unfold parseR parseP
 rw [if_pos hp, if_pos h3]
theorem bare_3 {g : Nat → Int} (h : g 0 = 3) : bareF g = false := by unfold bareF; rw [h]; rfl
theorem rea_whole {g : Nat → Int} {n : Nat} (hg : IsB g) (hp : parseE g n = 0) (h3 : g 0 = 3) (hn : 24 ≤ n) {a : Int} (ha : 0 ≤ a ∧ a ≤ 4294967295) : wholeB (reaF g n a) n = wholeB g n := by
 obtain ⟨r1, r2, r3⟩ := rea_parse hg hp h3 ha
 refine wholeB_of hg r3 (r2.trans h3.symm) (by omega) hn r1 hp (by rw [bare_3 r2, bare_3 h3]) (fun _ => ?_)
 have e : sumF (reaF g n a) n = sumF g n := by
  unfold sumF
  rw [if_pos r2, if_pos h3]
  funext j
  try dsimp only
  split
  ·unfold endF; rw [r2, h3]
  ·unfold reaF; rw [if_neg (by omega)]
 have e2 : sumN (reaF g n a) n = sumN g n := by unfold sumN; rw [if_pos r2, if_pos h3]
 rw [e, e2]
theorem num_w {g : Nat → Int} {L a m : Nat} {v : Int} (ha : 24 ≤ a) (hm : m = 2 ∧ v ≤ 65535 ∨ m = 4 ∧ v ≤ 4294967295) (hv : 0 ≤ v) : num (wrF g L a m v) a m = v := by
 rw [num_ext (g' := putF g a m v) (fun j h1 h2 => wr_in h1 ha)]
 rcases hm with ⟨rfl, h⟩ | ⟨rfl, h⟩
 ·exact num_put2 hv h
 ·exact num_put4 hv h
theorem sum_3 {g : Nat → Int} (h : g 0 = 3) : sumA (g 0) = 18 := by unfold sumA; rw [if_pos h]
/-- What goes on of a fault, byte for byte. -/
theorem fa_out {g : Nat → Int} {n : Nat} (hg : IsB g) (hq : parseE g n = 0) (h3 : g 0 = 3) (hl : 1 < g 1) (hw : wholeB g n = true) {sl : Sp} (ha : 0 ≤ sl.ad ∧ sl.ad ≤ 4294967295) (hb : 0 ≤ sl.po ∧ sl.po ≤ 65535) (hn : 44 ≤ n) :
 IsB (fauG g n sl) ∧ parseE (fauG g n sl) n = 0 ∧ wholeB (fauG g n sl) n = true ∧ fauG g n sl 0 = 3 ∧ fauG g n sl 1 = g 1 - 1 ∧ num (fauG g n sl) 4 4 = num g 4 4 ∧ num (fauG g n sl) 8 4 = sl.ad ∧ num (fauG g n sl) 24 4 = sl.ad ∧ num (fauG g n sl) 36 2 = sl.po ∧ num (fauG g n sl) 28 4 = num g 28 4 := by
 obtain ⟨⟨A1, A2, A3⟩, ⟨B1, B2⟩, ⟨C1, C2⟩⟩ := fau_steps hg hq hl h3 (q := sl.po) ha hb
 have hA := tk_age (n := n) hq hl
 have aw := age_whole hg hA
 obtain ⟨x, hx⟩ : ∃ x : Pk, x = { parseR (ageF g) n with dst := sl.ad } := ⟨_, rfl⟩
 obtain ⟨A, hAe⟩ : ∃ A, A = ageF g := ⟨_, rfl⟩
 have a1 : A 1 = g 1 - 1 := by rw [hAe]; unfold ageF; rw [putF_out (by omega)]; unfold set1; rw [if_pos rfl]
 have asr : num A 4 4 = num g 4 4 := by rw [hAe]; exact num_ext (fun j h1 h2 => age_out (by omega) (by omega))
 have a28 : num A 28 4 = num g 28 4 := by rw [hAe]; exact num_ext (fun j h1 h2 => age_out (by omega) (by omega))
 rw [← hAe] at A1 A2 A3 B1 B2 C1 C2 hx
 have rw_ := rea_whole A3 A1 A2 (by omega) ha
 obtain ⟨R1, R2, R3⟩ := rea_parse A3 A1 A2 ha
 have hR : ∀ j, reaF A n sl.ad j = if j < 16 then builtF x j else A j := fun j => by rw [hx]; rfl
 have hr3 := rd_3 A1 A2
 have b4 := num_bd A3 4 4
 rw [show (256 : Int) ^ 4 = 4294967296 by decide] at b4
 have hdst : num (builtF x) 8 4 = sl.ad := by
  rw [num_ext (g' := rawF x) (fun j h1 h2 => built_hd (by omega)), raw_dst (by rw [hx]; exact ha.1) (by rw [hx]; exact ha.2), hx]
 have hsrc : num (builtF x) 4 4 = num A 4 4 := by
  have e : x.src = num A 4 4 := by rw [hx, hr3]
  rw [num_ext (g' := rawF x) (fun j h1 h2 => built_hd (by omega)), raw_src (by rw [e]; exact b4.1) (by rw [e]; omega), e]
 have hlf : builtF x 1 = A 1 := by rw [built_hd (by omega), raw_1, hx, hr3]
 have hF : fauG g n sl = wrF (wrF (reaF A n sl.ad) n 24 4 sl.ad) n 36 2 sl.po := by unfold fauG; rw [hAe]
 obtain ⟨R, hRe⟩ : ∃ R, R = reaF A n sl.ad := ⟨_, rfl⟩
 rw [← hRe] at B1 B2 C1 C2 R1 R2 R3 rw_ hF
 have hR' : ∀ j, R j = if j < 16 then builtF x j else A j := fun j => by rw [hRe]; exact hR j
 obtain ⟨V, hV⟩ : ∃ V, V = wrF R n 24 4 sl.ad := ⟨_, rfl⟩
 have V1 : parseE V n = 0 := by rw [hV]; exact wr_parse (by omega) R1
 have V2 : ∀ j, (j < 24 ∨ 28 ≤ j) → (j < 18 ∨ 20 ≤ j) → V j = R j := fun j h h' => by rw [hV]; exact wr_out h (by rw [sum_3 R2]; exact h') (by omega)
 have V0 : V 0 = 3 := by rw [V2 0 (by omega) (by omega), R2]
 have V3 : IsB V := by rw [hV]; exact wr_B R3 _ _ _ _
 have V4 : wholeB V n = wholeB R n := by rw [hV]; exact wr_whole R3 (by omega) (by omega) (by omega) R1
 have V5 : num V 24 4 = sl.ad := by rw [hV]; exact num_w (by omega) (.inr ⟨rfl, ha.2⟩) ha.1
 rw [← hV] at hF
 have F2 : ∀ j, (j < 36 ∨ 38 ≤ j) → (j < 18 ∨ 20 ≤ j) → fauG g n sl j = V j := fun j h h' => by rw [hF]; exact wr_out h (by rw [sum_3 V0]; exact h') (by omega)
 have q : ∀ a m : Nat, (a + m ≤ 18 ∨ 20 ≤ a) → (a + m ≤ 36 ∨ 38 ≤ a) → num (fauG g n sl) a m = num V a m := fun a m h h' => num_ext (fun j h1 h2 => F2 j (by omega) (by omega))
 have q2 : ∀ a m : Nat, (a + m ≤ 18 ∨ 20 ≤ a) → (a + m ≤ 24 ∨ 28 ≤ a) → num V a m = num R a m := fun a m h h' => num_ext (fun j h1 h2 => V2 j (by omega) (by omega))
 refine ⟨by rw [hF]; exact wr_B V3 _ _ _ _, by rw [hF]; exact wr_parse (by omega) V1, by rw [hF, wr_whole V3 (by omega) (by omega) (by omega) V1, V4, rw_, ← hw, ← aw, hAe], by rw [F2 0 (by omega) (by omega), V0], ?_, ?_, ?_, ?_, ?_, ?_⟩
 ·rw [F2 1 (by omega) (by omega), V2 1 (by omega) (by omega), hR', if_pos (by omega), hlf, a1]
 ·rw [q 4 4 (by omega) (by omega), q2 4 4 (by omega) (by omega), num_ext (g' := builtF x) (fun j h1 h2 => by rw [hR', if_pos (by omega)]), hsrc, asr]
 ·rw [q 8 4 (by omega) (by omega), q2 8 4 (by omega) (by omega), num_ext (g' := builtF x) (fun j h1 h2 => by rw [hR', if_pos (by omega)]), hdst]
 ·rw [q 24 4 (by omega) (by omega), V5]
 ·rw [hF]; exact num_w (by omega) (.inl ⟨rfl, hb.2⟩) hb.1
 ·rw [q 28 4 (by omega) (by omega), q2 28 4 (by omega) (by omega), num_ext (g' := A) (fun j h1 h2 => by rw [hR', if_neg (by omega)]), a28]
/-- The packet that did not come; spoilt so or so; what tells of it. -/
def xF (p : Pl) (a q : Int) (m : Nat) (gd : Nat → Int) : Pk := { kind := 2, life := 3, src := p.a, dst := a, fp := p.p, tp := q, nd := m, gd := gd }
def spF (k v : Int) (G : Nat → Int) : Nat → Int := if k = 0 then set1 G 0 v else if k = 1 then set1 G 5 ((G 5 + 1) % 256) else if k = 2 then set1 G 17 ((G 17 + 1) % 256) else G
def yF (p : Pl) (c : Int) (n : Nat) (I : Nat → Int) : Pk := { kind := 3, life := 7, src := 55, dst := p.a, code := c, nd := n, gd := I }
def badF (k v : Int) : Prop := k = 0 ∧ v ≠ 1 ∧ v ≠ 2 ∨ k = 1 ∨ k = 2
theorem spF_B {k v : Int} (hv : 0 ≤ v ∧ v ≤ 255) {G : Nat → Int} (hG : IsB G) : IsB (spF k v G) := by
 intro j
 unfold spF
 repeat' split
 all_goals first | exact hG j | (unfold set1; split <;> first | omega | exact hG j)
theorem fa_all {p : Pl} (hp : Pt p) (h10 : p.a = 10) (h80 : p.p = 80) {a q c k v : Int} {m : Nat} {gd : Nat → Int} (ha : 0 ≤ a ∧ a ≤ 4294967295) (hq : 0 ≤ q ∧ q ≤ 65535) (hc : 0 ≤ c ∧ c ≤ 255) (hk : 0 ≤ k ∧ k ≤ 5) (hv : 0 ≤ v ∧ v ≤ 255) (hm : m ≤ 100) (hgd : IsB gd) {I G : Nat → Int} (hI : I = spF k v (builtF (xF p a q m gd))) (hG : G = builtF (yF p c (24 + m) I)) :
 buildE (xF p a q m gd) = 0 ∧ lenP (xF p a q m gd) = 24 + m ∧ IsB (builtF (xF p a q m gd)) ∧ builtF (xF p a q m gd) 0 = 2 ∧ IsB I ∧ I 0 = (if k = 0 then v else 2) ∧ buildE (yF p c (24 + m) I) = 0 ∧ lenP (yF p c (24 + m) I) = 44 + m ∧ IsB G ∧
 (badF k v → takeT p true (fun _ => none) G (44 + m) = dropT 8 (fun _ => none)) ∧
 (¬ badF k v → ∀ s, s = whlW p (pkW (flP p a q)).toNat → (s = -1 → takeT p true (fun _ => none) G (44 + m) = dropT 9 (fun _ => none)) ∧ (s ≠ -1 → ∃ F, takeT p true (fun _ => none) G (44 + m) = ⟨0, s, false, 44 + m, F, fun _ => none⟩ ∧ F = fauG G (44 + m) (p.s s.toNat))) ∧ parseE G (44 + m) = 0 ∧ G 0 = 3 ∧ G 1 = 7 ∧ wholeB G (44 + m) = true ∧ num G 4 4 = 55 ∧ (¬ badF k v → num G 28 4 = a) := by
 have hE : buildE (xF p a q m gd) = 0 := by
  unfold buildE lenP rangeB inR xF
  simp [isK, h10, h80]
  omega
 have hL : lenP (xF p a q m gd) = 24 + m := by unfold lenP xF; simp
 have h0B : IsB (fun _ => (0 : Int)) := fun _ => ⟨by show (0 : Int) ≤ 0; decide, by show (0 : Int) ≤ 255; decide⟩
 have hB : IsB (builtF (xF p a q m gd)) := builtF_B hgd h0B hE
 obtain ⟨B, hBe⟩ : ∃ B, B = builtF (xF p a q m gd) := ⟨_, rfl⟩
 have b0 : B 0 = 2 := by rw [hBe, built_hd (by omega), raw_0]; rfl
 have bsrc : num B 4 4 = 10 := by rw [hBe, num_ext (g' := rawF (xF p a q m gd)) (fun j h1 h2 => built_hd (by omega)), raw_src (by show 0 ≤ p.a; omega) (by show p.a ≤ _; omega)]; exact h10
 have bdst : num B 8 4 = a := by rw [hBe, num_ext (g' := rawF (xF p a q m gd)) (fun j h1 h2 => built_hd (by omega)), raw_dst ha.1 ha.2]; rfl
 have raw16 : ∀ j, 16 ≤ j → j < 20 → B j = bodyF (xF p a q m gd) (j - 16) := fun j h1 h2 => by
  rw [hBe, built_at (.inr h1) (.inl (by show j < sumA 2; unfold sumA; simp; omega))]
  have := raw_body (xF p a q m gd) (j - 16)
  rw [show 16 + (j - 16) = j by omega] at this
  exact this
 have bfp : num B 16 2 = 80 := by
  rw [num_2, raw16 16 (by omega) (by omega), raw16 17 (by omega) (by omega)]
  unfold bodyF xF
  simp [by8_0, by8_1, h80]
 have btp : num B 18 2 = q := by
  rw [num_2, raw16 18 (by omega) (by omega), raw16 19 (by omega) (by omega)]
  unfold bodyF xF
  simp [by8_0, by8_1]
  omega
 rw [← hBe] at hI hB ⊢
 have hIB : IsB I := by rw [hI]; exact spF_B hv hB
 have hI0 : I 0 = if k = 0 then v else 2 := by
  rw [hI]
  unfold spF set1
  by_cases k0 : k = 0
  ·rw [if_pos k0, if_pos k0, if_pos rfl]
  ·rw [if_neg k0, if_neg k0]
   split
   ·show (if (0 : Nat) = 5 then _ else B 0) = 2; rw [if_neg (by decide)]; exact b0
   ·split
    ·show (if (0 : Nat) = 17 then _ else B 0) = 2; rw [if_neg (by decide)]; exact b0
    ·exact b0
 have hE2 : buildE (yF p c (24 + m) I) = 0 := by
  unfold buildE lenP rangeB inR yF
  simp [isK, h10]
  omega
 have hL2 : lenP (yF p c (24 + m) I) = 44 + m := by unfold lenP yF; simp; omega
 have hGB : IsB G := by rw [hG]; exact builtF_B hIB h0B hE2
 have hcl : Clean (yF p c (24 + m) I) := ⟨fun _ => ⟨rfl, rfl⟩, fun _ => ⟨rfl, rfl⟩, fun _ => ⟨rfl, rfl⟩, fun h => absurd rfl h⟩
 have hQ := built_parseE (p := yF p c (24 + m) I) hIB h0B hE2
 have hP := built_parse (p := yF p c (24 + m) I) hIB h0B hE2 hcl
 have hW := built_whole (p := yF p c (24 + m) I) hIB h0B hE2
 rw [hL2, ← hG] at hQ hP hW
 have G0 : G 0 = 3 := by rw [hG, built_hd (by omega), raw_0]; rfl
 have G1 : G 1 = 7 := by rw [hG, built_hd (by omega), raw_1]; rfl
 have hr := rd_3 hQ G0
 have gD : ∀ j, j < 24 + m → (parseR G (44 + m)).gd j = I j := fun j hj => by have := hP.gd j (by rw [hP.nd]; exact hj); exact this
 have gd3 : ∀ j, (parseR G (44 + m)).gd j = G (20 + j) := fun j => by rw [hr]
 obtain ⟨x, hx⟩ : ∃ x, x = parseR G (44 + m) := ⟨_, rfl⟩
 have xd : x.dst = p.a := by rw [hx]; exact hP.dst
 have xk : x.kind = 3 := by rw [hx]; exact hP.kind
 have xl : x.life = 7 := by rw [hx]; exact hP.life
 have xp : x.piece = 0 := by rw [hx]; exact hP.piece
 have nI : ∀ a b : Nat, a + b ≤ 24 → num x.gd a b = num I a b := fun a b h => num_ext (fun j h1 h2 => by rw [hx]; exact gD j (by omega))
 have hT : takeT p true (fun _ => none) G (44 + m) = fauT p (fun _ => none) G (44 + m) x := by
  unfold takeT
  dsimp only
  rw [if_neg (by simp), hQ, if_neg (by simp), ← hx, if_neg (by rw [xp]; simp), if_neg (by rw [xl]; decide), if_pos ⟨xd, xk⟩]
 have g0 : x.gd 0 = I 0 := by rw [hx]; exact gD 0 (by omega)
 have hbad : badF k v ↔ fauB p x = true := by
  unfold fauB badF
  rw [g0, nI 4 4 (by omega), nI 16 2 (by omega), hI0]
  have c0 : k = 0 ∨ k = 1 ∨ k = 2 ∨ (k ≠ 0 ∧ k ≠ 1 ∧ k ≠ 2) := by omega
  rcases c0 with rfl | rfl | rfl | ⟨k0, k1, k2⟩
  ·have e4 : num I 4 4 = 10 := by rw [← bsrc, hI]; exact num_ext (fun j h1 h2 => by unfold spF set1; rw [if_pos rfl, if_neg (by omega)])
   have e16 : num I 16 2 = 80 := by rw [← bfp, hI]; exact num_ext (fun j h1 h2 => by unfold spF set1; rw [if_pos rfl, if_neg (by omega)])
   rw [e4, e16, h10, h80]
   simp
  ·have e4 : num I 4 4 ≠ 10 := by
    rw [num_4] at bsrc ⊢
    simp only [Nat.reduceAdd] at bsrc ⊢
    have h5 := hB 5
    have h4 := hB 4
    have h6 := hB 6
    have h7 := hB 7
    have i : ∀ j, I j = if j = 5 then (B 5 + 1) % 256 else B j := fun j => by rw [hI]; unfold spF set1; rw [if_neg (by decide), if_pos rfl]
    rw [i, i, i, i, if_neg (by decide), if_pos rfl, if_neg (by decide), if_neg (by decide)]
    omega
   simp [h10, e4]
  ·have e16 : num I 16 2 ≠ 80 := by
    rw [num_2] at bfp ⊢
    simp only [Nat.reduceAdd] at bfp ⊢
    have h16 := hB 16
    have h17 := hB 17
    have i : ∀ j, I j = if j = 17 then (B 17 + 1) % 256 else B j := fun j => by rw [hI]; unfold spF set1; rw [if_neg (by decide), if_neg (by decide), if_pos rfl]
    rw [i, i, if_neg (by decide), if_pos rfl]
    omega
   simp [h80, e16]
  ·have e : I = B := by rw [hI]; unfold spF; rw [if_neg k0, if_neg k1, if_neg k2]
   rw [e, bsrc, bfp, h10, h80]
   simp [k0, k1, k2]
 have hnb : ¬ badF k v → num I 8 4 = a ∧ num I 18 2 = q := fun h => by
  have c0 : k = 0 ∨ (k ≠ 0 ∧ k ≠ 1 ∧ k ≠ 2) := by unfold badF at h; omega
  have i : ∀ j, 1 ≤ j → I j = B j := fun j hj => by
   rw [hI]; unfold spF set1
   rcases c0 with rfl | ⟨k0, k1, k2⟩
   ·rw [if_pos rfl, if_neg (by omega)]
   ·rw [if_neg k0, if_neg k1, if_neg k2]
  exact ⟨by rw [← bdst]; exact num_ext (fun j h1 h2 => i j (by omega)), by rw [← btp]; exact num_ext (fun j h1 h2 => i j (by omega))⟩
 refine ⟨hE, hL, hB, b0, hIB, hI0, hE2, hL2, hGB, fun h => ?_, fun h s hs => ?_, hQ, G0, G1, hW, ?_, fun h => ?_⟩
 ·rw [hT]; unfold fauT; rw [if_pos (hbad.1 h)]
 ·have hfb : fauB p x = false := by cases hq : fauB p x with | false => rfl | true => exact absurd (hbad.2 hq) h
  obtain ⟨n8, n18⟩ := hnb h
  have hfs : fauS p x = s := by unfold fauS; rw [nI 8 4 (by omega), nI 18 2 (by omega), n8, n18, hs]
  refine ⟨fun h1 => ?_, fun h1 => ⟨_, ?_, rfl⟩⟩
  ·rw [hT]; unfold fauT; rw [if_neg (by rw [hfb]; decide), hfs, if_pos h1]
  ·rw [hT]; unfold fauT; rw [if_neg (by rw [hfb]; decide), hfs, if_neg h1]
 ·have := hP.src; rw [hr] at this; exact this
 ·have e : num G 28 4 = num (fun j => G (20 + j)) 8 4 := (num_shift G 20 8 4).symm
  rw [e, num_ext (g' := I) (fun j h1 h2 => by rw [← gd3 j]; exact gD j (by omega))]
  exact (hnb h).1
end Go.Proofs.YteapnfdpkjbfhaaGreat

/- Take of any bytes, by things. -/
namespace Go.Proofs.YteapnfdpkjbfhaaGreat
set_option linter.unusedVariables false
set_option linter.unusedSimpArgs false
open Go.RowKit Go.ChangeShapes Go.WideShapes Go.ChangeAt
set_option maxRecDepth 100000
attribute [local irreducible] FA FL
theorem c_takeA {S : List Nat} {W w : World} {A B : List Th} {pb sb wb : Nat} {nr : Nat → Option Int} {p : Pl} (hS : HS S W w (A ++ thB pb 130 (plf sb nr) :: B)) (hSt : StAt w sb wb p) (hne : pb ≠ sb ∧ pb ≠ wb) (hp : Pt p) (hnr : Nt32 nr) (g : Nat → Int) (n c : Nat) (X : Option Addr) (hg : IsB g) (hn : n ≤ 1000000) (hX : By w X n g) (hc : n ≤ c) (t : To) (ht : takeT p true nr g n = t) :
 Calls Tryz.prog 15 #[.pointer (some ⟨pb, 0, none⟩), .slice X n c] w fun e w' => ∃ X' c', e = .returned (.agg #[.int .i64 t.d, .int .i64 t.s, .bool t.c, .slice X' t.n c']) ∧ HS S W w' (thY (.slice X' t.n c') t.n t.f :: (A ++ thB pb 130 (plf sb t.nr) :: B)) ∧ t.n ≤ c' := by
 have hF : Fb w pb 130 (plf sb nr) := hS.1 (thB pb 130 (plf sb nr)) (by simp)
 subst ht
 refine (take_all p pb sb wb nr g n c X w hg hn hp hnr hF hne hSt hX hc).mono ?_
 rintro e w' ⟨X', c', rfl, hO, hc', hF2, hch⟩
 exact ⟨X', c', rfl, hS.updN (thB pb 130 (plf sb (takeT p true nr g n).nr)) (thY _ _ _) rfl hch hF2 (OB.base hO (Nat.zero_le _)) (thY_nd _ _ _) (thY_ge hO), hc'⟩
end Go.Proofs.YteapnfdpkjbfhaaGreat

/- The reference's Parse by things. -/
namespace Go.Proofs.YteapnfdpkjbfhaaGreat
set_option linter.unusedVariables false
set_option linter.unusedSimpArgs false
open Go.RowKit Go.ChangeShapes Go.WideShapes Go.ChangeAt
theorem c_rparse3 {S : List Nat} {W w : World} {L : List Th} (hS : HS S W w L) (p : Pk) (g : Nat → Int) (n : Nat) (hg : IsB g) (hn : n ≤ 1000000) (hP : parseE g n = 0) (h3 : g 0 = 3) (pe : Pe (parseR g n) p) (A : Option Addr) (c : Nat) (hc : n ≤ c) (h : By w A n g) :
 Calls Tryz.prog 16 #[.slice A n c] w fun e w' => ∃ AO cO AD cD, e = .returned (.tuple #[.agg #[.int .i64 p.kind, .int .i64 p.life, .int .i64 p.piece, .int .i64 p.src, .int .i64 p.dst, .int .i64 p.fp, .int .i64 p.tp, .int .i64 p.flags, .int .i64 p.label, .bool p.bare, .int .i64 p.code, .slice AO p.no cO, .slice AD p.nd cD], .int .i64 0]) ∧ HS S W w' (thOD 0 (.slice AO p.no cO) (.slice AD p.nd cD) p.no p.nd p.go p.gd :: L) ∧ p.no ≤ cO ∧ p.nd ≤ cD := by
 refine (rparse3 A n c g w h hg hc hn (hid h3) (hid hP) (.inl (parseE_0 hP).1)).mono ?_
 rintro e w' ⟨O, D, rfl, hO, hD, hb⟩
 rw [hP]
 have hv : pkV (parseR g n) O D = pkV p O D := by
  unfold pkV pkL
  rw [pe.kind, pe.life, pe.piece, pe.src, pe.dst, pe.fp, pe.tp, pe.flags, pe.label, pe.bare, pe.code]
 rw [hv]
 rw [pe.no] at hO
 rw [pe.nd] at hD
 obtain ⟨AO, cO, rfl, _, _, _⟩ := hO.form_
 obtain ⟨AD, cD, rfl, _, _, _⟩ := hD.form_
 have hO2 := hO.as2 (fun j hj => pe.go j (by rw [pe.no]; exact hj))
 have hD2 := hD.as2 (fun j hj => pe.gd j (by rw [pe.nd]; exact hj))
 exact ⟨AO, cO, AD, cD, rfl, hS.newP hb hO2 hD2, row_le hO2, row_le hD2⟩
end Go.Proofs.YteapnfdpkjbfhaaGreat

/- By which cookie, which wheel. -/
namespace Go.Proofs.YteapnfdpkjbfhaaGreat
set_option linter.unusedVariables false
set_option linter.unusedSimpArgs false
open Go.RowKit Go.ChangeShapes Go.WideShapes Go.ChangeAt
set_option maxRecDepth 100000
theorem whl_k (p : Pl) (f : Fl) : whlW p (pkW f).toNat = -1 ∨ ∃ k : Nat, k < 64 ∧ whlW p (pkW f).toNat = k := by
 have b := pkW_bd f
 generalize pkW f = z at b
 obtain ⟨j, hj⟩ : ∃ j : Nat, z = j := ⟨z.toNat, by omega⟩
 subst hj
 rcases whl_bd (p := p) (j := j) (by omega) with h | ⟨i, h1, _, h2⟩
 ·exact .inl h
 ·exact .inr ⟨i, h1, h2⟩
theorem rmake_fa (p : Pl) (hp : Pw p) (w : World) : Calls Tryz.prog 33 #[.agg (FA 330 (_root_.Go.Proofs.YteapnfdpkjbfhaaGreat.pc p))] w fun x w' => ∃ B : Nat, x = .returned (.slice (some ⟨B, 0, none⟩) 127 127) ∧ w.heap.size ≤ B ∧ IA w' B 127 (whlW p) ∧ Below w.heap.size w w' := rmake7_any p hp w
end Go.Proofs.YteapnfdpkjbfhaaGreat

namespace Go.Proofs.YteapnfdpkjbfhaaGreat.planeFaults
set_option linter.unusedVariables false
set_option linter.unusedSimpArgs false
open Go.RowKit Go.ChangeShapes Go.WideShapes Go.ChangeAt
attribute [local irreducible] FA FL
theorem row_blk {w : World} {A : Option Addr} {n c : Nat} {f : Nat → Int} (h : (thY (.slice A n c) n f).at_ w) (hn : 24 ≤ n) : ∃ g : Nat, A = some ⟨g, 0, none⟩ ∧ g < w.heap.size ∧ (∀ j, j < n → w.cell? ⟨g, j, none⟩ = some (.int .u8 (f j))) ∧ ∀ j, j < n → w.frozen? ⟨g, j, none⟩ = false := by
 obtain ⟨g, hA, _, hg, hc, hf⟩ := Ow.block_ (show Ow w 0 5 1 (.slice A n c) n (fun j => .int .u8 (f j)) from h) (by omega)
 exact ⟨g, hA, hg, fun j hj => hc j (by omega), fun j _ => hf j⟩
theorem row_put {w : World} {W : World} {g n c : Nat} {f : Nat → Int} {L : List Th} (h : HS [] W w (thY (.slice (some ⟨g, 0, none⟩) n c) n f :: L)) (i : Nat) (v : Int) : HS [] W (w.setCell ⟨g, i, none⟩ (.int .u8 v)) (thY (.slice (some ⟨g, 0, none⟩) n c) n (set1 f i v) :: L) := by
 have h1 : OB w 0 (.slice (some ⟨g, 0, none⟩) n c) n f := h.1 (thY (.slice (some ⟨g, 0, none⟩) n c) n f) (by simp)
 exact HS.upd (A := []) h (thY (.slice (some ⟨g, 0, none⟩) n c) n (set1 f i v)) rfl ((Ch.refl _ _).set1 (.inl (by simp [thY, thW, Value.ownBlock]))) (OB.store h1 i _)
set_option maxRecDepth 100000 in
set_option maxHeartbeats 8000000 in
theorem walk (W : World) (A1 : Option Addr) (n1 c1 : Nat) (g1 : Nat → Int) (hn1 : n1 ≤ c1) (hc1 : c1 ≤ maxLen) (hr1 : Is W A1 n1 g1) (hg1 : IsI g1) (hl1 : ∀ ad, A1 = some ad → 0 < n1 → ad.block < W.heap.size) (re1 : c1 * 8 ≤ 140737488351232) (a0 : Int) (r_a0 : -9223372036854775808 ≤ a0 ∧ a0 ≤ 9223372036854775807) (b0 : Int) (r_b0 : -9223372036854775808 ≤ b0 ∧ b0 ≤ 9223372036854775807) (d0 : Int) (r_d0 : -9223372036854775808 ≤ d0 ∧ d0 ≤ 9223372036854775807) (A2 : Option Addr) (n2 c2 : Nat) (g2 : Nat → Int) (hn2 : n2 ≤ c2) (hc2 : c2 ≤ maxLen) (hr2 : By W A2 n2 g2) (hg2 : IsB g2) (hl2 : ∀ ad, A2 = some ad → 0 < n2 → ad.block < W.heap.size) (re2 : c2 * 1 ≤ 140737488351232) (e0 : Int) (r_e0 : -9223372036854775808 ≤ e0 ∧ e0 ≤ 9223372036854775807) :
 Calls Tryz.prog 8 #[.slice A1 n1 c1, .int .i64 a0, .int .i64 b0, .int .i64 d0, .slice A2 n2 c2, .int .i64 e0] W fun e w' => e = .returned (.bool true) ∧ Below W.heap.size W w' := by
 obtain ⟨m, hm⟩ : ∃ m, m = min n2 100 := ⟨_, rfl⟩
 have hmn : m ≤ n2 := by omega
 have hm1 : m ≤ 100 := by omega
 have HNM := hid hn2
 have HD2 := hid (fun (w : World) (hw : Below W.heap.size W w) => (show By w A2 m g2 from fun h0 => by obtain ⟨b, o, e, hb, hc⟩ := Sl.below hr2 hw (Nat.le_refl _) (by omega); exact ⟨b, o, e, hb, fun j hj => hc j (by omega)⟩))
 clear hr2 hl2 re2
 obtain ⟨p, hp⟩ : ∃ p, p = mkP g1 (min n1 60) := ⟨_, rfl⟩
 have HPI := hid (show Pinv p 60 from by rw [hp]; exact (mkP_inv g1 _).mono (by omega))
 have HPC := hid (show p.a = 10 ∧ p.p = 80 from by rw [hp]; exact mkP_ap g1 _)
 have HPT := hid (show Pt p from by rw [hp]; exact mkP_pt g1 _ (by omega))
 have HPW := hid (show Pw p from by rw [hp]; exact mk_pw g1 _)
 have MK := hid (fun (w : World) (hb : Below W.heap.size W w) => (show Calls Tryz.prog 10 #[.slice A1 n1 c1, .int .i64 60] w fun x w' => x = .returned (.agg (FA 330 (pc p))) ∧ Below w.heap.size w w' from by rw [hp]; exact mk_top W A1 n1 c1 g1 hr1 hl1 hn1 hc1 60 (by decide) w hb))
 clear hp hr1 hl1 hg1 re1 hn1 hc1
 have S0 : Hid (HS [] W W []) := hid HS.start
 obtain ⟨ga, hga⟩ : ∃ x, x = wi b0 4294967296 := ⟨_, rfl⟩
 have bga := wi_bd b0 4294967296 (by omega)
 rw [← hga] at bga
 have Wga := hid (fun w => re_i64 (within_any b0 4294967296 w (by omega) (by omega)) hga.symm)
 clear hga
 obtain ⟨bga1, bga2⟩ := bga
 obtain ⟨gq, hgq⟩ : ∃ x, x = wi a0 65536 := ⟨_, rfl⟩
 have bgq := wi_bd a0 65536 (by omega)
 rw [← hgq] at bgq
 have Wgq := hid (fun w => re_i64 (within_any a0 65536 w (by omega) (by omega)) hgq.symm)
 clear hgq
 obtain ⟨bgq1, bgq2⟩ := bgq
 obtain ⟨gk, hgk⟩ : ∃ x, x = wi e0 6 := ⟨_, rfl⟩
 have bgk := wi_bd e0 6 (by omega)
 rw [← hgk] at bgk
 have Wgk := hid (fun w => re_i64 (within_any e0 6 w (by omega) (by omega)) hgk.symm)
 clear hgk
 obtain ⟨bgk1, bgk2⟩ := bgk
 obtain ⟨gc, hgc⟩ : ∃ x, x = wi d0 256 := ⟨_, rfl⟩
 have bgc := wi_bd d0 256 (by omega)
 rw [← hgc] at bgc
 have Wgc := hid (fun w => re_i64 (within_any d0 256 w (by omega) (by omega)) hgc.symm)
 clear hgc
 obtain ⟨bgc1, bgc2⟩ := bgc
 obtain ⟨v, hv⟩ : ∃ v, v = e0 % 256 := ⟨_, rfl⟩
 have bv : 0 ≤ v ∧ v ≤ 255 := by omega
 obtain ⟨B, hB⟩ : ∃ B, B = builtF (xF p ga gq m g2) := ⟨_, rfl⟩
 obtain ⟨I, hI⟩ : ∃ I, I = spF gk v B := ⟨_, rfl⟩
 obtain ⟨G, hG⟩ : ∃ G, G = builtF (yF p gc (24 + m) I) := ⟨_, rfl⟩
 obtain ⟨xE, xL, xB, x0, iB, i0, yE, yL, gB, tB, tN, gQ, g0, g1, gW, gS, gA⟩ := fa_all HPT.out HPC.out.1 HPC.out.2 (c := gc) (v := v) ⟨bga1, by omega⟩ ⟨bgq1, by omega⟩ ⟨bgc1, by omega⟩ ⟨bgk1, by omega⟩ bv hm1 hg2 (by rw [hI, hB]) hG
 obtain ⟨n, hn⟩ : ∃ n, n = 24 + m := ⟨_, rfl⟩
 obtain ⟨l, hl⟩ : ∃ l, l = 44 + m := ⟨_, rfl⟩
 rw [← hn] at xL yE yL hG
 rw [← hl] at yL tB tN gQ gW
 have hn1 : n ≤ 1000000 := by omega
 have hl1 : l ≤ 1000000 := by omega
 have hl4 : 44 ≤ l := by omega
 have hmi : (if (100 : Int) < (n2 : Int) then (100 : Int) else (n2 : Int)) = m := by split <;> omega
 rw [← hB] at xB x0
 have BLD := hid (fun (w : World) (L : List Th) (h : HS [] W w L) => (show Calls Tryz.prog 14 #[.agg #[.int .i64 2, .int .i64 3, .int .i64 0, .int .i64 p.a, .int .i64 ga, .int .i64 p.p, .int .i64 gq, .int .i64 0, .int .i64 0, .bool false, .int .i64 0, .slice none 0 0, .slice A2 m c2]] w fun e w' => ∃ A c, e = .returned (.tuple #[.slice A n c, .int .i64 0]) ∧ HS [] W w' (thY (.slice A n c) n B :: L) ∧ n ≤ c from c_rbuild h (xF p ga gq m g2) (.inr rfl) n B xL.symm hB xE c0B_ hg2 (by show 0 ≤ 1000000; decide) (by show m ≤ 1000000; omega) none 0 A2 c2 (fun h => absurd h (by show ¬ 0 < 0; decide)) (HD2.out _ h.bl)))
 have BLF := hid (fun (w : World) (L : List Th) (h : HS [] W w L) (AQ : Option Addr) (cQ : Nat) (HD : By w AQ n I) => (show Calls Tryz.prog 14 #[.agg #[.int .i64 3, .int .i64 7, .int .i64 0, .int .i64 55, .int .i64 p.a, .int .i64 0, .int .i64 0, .int .i64 0, .int .i64 0, .bool false, .int .i64 gc, .slice none 0 0, .slice AQ n cQ]] w fun e w' => ∃ A c, e = .returned (.tuple #[.slice A l c, .int .i64 0]) ∧ HS [] W w' (thY (.slice A l c) l G :: L) ∧ l ≤ c from c_rbuild h (yF p gc n I) (.inl rfl) l G yL.symm hG yE c0B_ iB (by show 0 ≤ 1000000; decide) hn1 none 0 AQ cQ (fun h => absurd h (by show ¬ 0 < 0; decide)) HD))
 have RMW := hid (fun (w : World) => (show Calls Tryz.prog 33 #[.agg (FA 330 (pc p))] w fun x w' => ∃ B : Nat, x = .returned (.slice (some ⟨B, 0, none⟩) 127 127) ∧ w.heap.size ≤ B ∧ IA w' B 127 (whlW p) ∧ Below w.heap.size w w' from rmake_fa p HPW.out w))
 have hsp := HPT.out.2.2.2
 have fI : (⟨ga, gq, p.a, p.p⟩ : Fl).I := ⟨⟨by show _ ≤ ga; omega, by show ga ≤ _; omega⟩, ⟨by show _ ≤ gq; omega, by show gq ≤ _; omega⟩, ⟨by show _ ≤ p.a; omega, by show p.a ≤ _; omega⟩, ⟨by show _ ≤ p.p; omega, by show p.p ≤ _; omega⟩⟩
 obtain ⟨wv, hwv⟩ : ∃ v, v = whlW p (pkW (flP p ga gq)).toNat := ⟨_, rfl⟩
 have RPK := hid (fun (w : World) (B : Nat) (h : IA w B 127 (whlW p)) => (show Calls Tryz.prog 32 #[.slice (some ⟨B, 0, none⟩) 127 127, .agg #[.int .i64 ga, .int .i64 gq, .int .i64 p.a, .int .i64 p.p]] w fun e w' => e = .returned (.int .i64 wv) ∧ Below w.heap.size w w' from by rw [hwv]; exact rpick_any (some ⟨B, 0, none⟩) 127 (whlW p) (flP p ga gq) fI w h.slice))
 have hwb : wv = -1 ∨ ∃ k : Nat, k < 64 ∧ wv = k := by rw [hwv]; exact whl_k p _
 have tN2 := fun h => tN h wv hwv
 obtain ⟨tt, htt⟩ : ∃ t, takeT p true (fun _ => none) G l = t := ⟨_, rfl⟩
 rw [htt] at tB tN2
 have HWB := hid hwb
 have TT := hid htt
 have TB := hid tB
 have TN := hid tN2
 have BI := hid iB
 have I0 := hid i0
 have GB := hid gB
 have GQ := hid gQ
 have GW := hid gW
 have G0 := hid g0
 have G1 := hid g1
 have GS := hid gS
 have GA := hid gA
 have HI := hid hI
 have X0 := hid x0
 have N1 := hid hn1
 have L1 := hid hl1
 have L4 := hid hl4
 have MI := hid hmi
 have BV := hid bv
 have HVV := hid hv.symm
 have MN := hid hmn
 have N24 := hid (show 24 ≤ n by omega)
 have HN0 := hid (show Nt32 (fun _ => none) from fun j v h => by cases h)
 clear htt tB tN tN2 iB i0 gB gQ gW g0 g1 gS gA hI x0 hn1 hl1 hl4 hmi bv hv hmn hwv hwb fI hsp xE xL xB yE yL hG hB hn hl hm hm1 hg2
 go_enter Tryz.func8, Tryz.ntmps8
 go_wp2_with fail
 refine (known_9 _).mono ?_
 rintro e w1 ⟨rfl, hb⟩
 have S1 := hid (S0.out.below hb)
 clear hb S0
 go_simp
 go_wp2_with fail
 refine (MK.out _ S1.out.bl).mono ?_
 rintro e w2 ⟨rfl, hb⟩
 have S2 := hid (S1.out.below hb)
 clear hb S1 MK
 go_simp
 go_upto_region 4 with ((first | ((with_reducible refine wl_id ?_); refine wl_ow rfl (ow_alloc rfl (zpl2 _) (by omega) S2.out ?_); intro P w_ hZ _; have SA := hid hZ; clear hZ) | ((with_reducible refine wl_id ?_); refine wl_ow rfl (ow_store (A := []) 0 330 (pc p) (pc p) rfl rfl rfl SA.out (by omega) (fun j hj => patch_all _ _ _ j hj) info_pl2 (pc_one _) ?_); intro w_ hZ; have SX := hid hZ; clear hZ)))
 have S3 := hid (SX.out)
 clear SX SA S2
 go_wp2_with ((with_reducible refine wl_id ?_); refine wl_ow rfl (ow_load 0 rfl 0 330 (pc p) rfl rfl S3.out (by omega) (fun j hj => by rw [Nat.zero_add]) Tryz.underlying33 rfl info_pl2 ?_))
 refine (up_9 S3.out p HPW.out).mono ?_
 rintro e w3 ⟨pb, sb, wb, rfl, hne, hz⟩
 have S4 : Hid (HS [] W w3 [thS sb wb p, thB pb 130 (plf sb (fun _ => none)), thB P 330 (pc p)]) := hid (hz)
 clear hz S3
 have HNE := hid hne
 clear hne
 go_simp
 go_upto_region 7 with (fail)
 go_wp2_with fail
 refine (Wga.out _).mono ?_
 rintro e w' ⟨rfl, rfl⟩
 go_wp2_with fail
 refine (Wgq.out _).mono ?_
 rintro e w' ⟨rfl, rfl⟩
 go_upto_region 8 with (fail)
 refine wp_region_held_drew (S := fun (w' : World) => HS [] W w' [thS sb wb p, thB pb 130 (plf sb (fun _ => none)), thB P 330 (pc p)]) (by kernel_rfl) ?_ (fun hHeld => ?_)
 ·exact S4.out.drew
 refine tkq 0 hHeld ?_
 refine tkq 1 hHeld ?_ (hy := by intro w hSw; (try dsimp only at hSw); have x0 := (pool_fb (hSw.fb 2 rfl)).c1; go_simp; (try with_reducible rfl))
 refine tkq 2 hHeld ?_
 refine tkq 3 hHeld ?_ (hy := by intro w hSw; (try dsimp only at hSw); have x0 := (pool_fb (hSw.fb 2 rfl)).c2; go_simp; (try with_reducible rfl))
 refine tkq 4 hHeld ?_
 refine tkq 5 hHeld ?_
 refine tkq 6 hHeld ?_
 refine tkq 7 hHeld ?_
 refine tkq 8 hHeld ?_
 refine tkq 9 hHeld ?_ (hy := by intro w hSw; (try dsimp only at hSw); have x0 := MI.out; go_simp; (try with_reducible rfl))
 refine tkq 10 hHeld ?_ (hy := by intro w hSw; (try dsimp only at hSw); have x0 := MI.out; have x1 : (0 : Int) ≤ m := (by omega); have x2 : (m : Int) ≤ c2 := (by have := MN.out; have := HNM.out; omega); go_simp; (try with_reducible rfl))
 refine tkq 11 hHeld ?_
 refine only 12 rfl (by kernel_rfl) rfl (fun K hK => ?_)
 go_simp
 refine (BLD.out _ _ hHeld).mono ?_
 rintro e w5 ⟨AQ, cQ, rfl, hz, hcc⟩
 try go_wp2_with fail
 have HCQ := hid hcc
 refine hK.out _ _ hz.tail (fun h2 => ?_)
 clear hK hHeld hcc
 try simp only [Act.put, List.setIfInBounds_toArray, List.set_cons_zero, List.set_cons_succ]
 refine tkq 13 h2 ?_
 refine tkq 14 h2 ?_
 refine tkq 15 h2 ?_
 refine tkq 16 h2 ?_
 refine tkq 17 h2 ?_
 have S5 : Hid (HS [] W w5 [thY (.slice AQ n cQ) n B, thS sb wb p, thB pb 130 (plf sb (fun _ => none)), thB P 330 (pc p)]) := hid (hz)
 clear h2 hz S4 BLD
 refine wpAnyH_done (by kernel_rfl) ?_ _
 refine then_norm ?_
 apply_assumption
 apply wp_seq_k
 intro _ _
 go_cut [17] from 54 to 75 (fun v wx => v = .slice AQ n cQ ∧ HS [] W wx [thY (.slice AQ n cQ) n I, thS sb wb p, thB pb 130 (plf sb (fun _ => none)), thB P 330 (pc p)])
 case first =>
  obtain ⟨gb, rfl, gl, gc_, gf⟩ := row_blk (S5.out.nth 0 rfl) N24.out
  have n24 := N24.out
  have y0 := gc_ 0 (by omega)
  have y5 := gc_ 5 (by omega)
  have y17 := gc_ 17 (by omega)
  have z0 := gf 0 (by omega)
  have z5 := gf 5 (by omega)
  have z17 := gf 17 (by omega)
  have hI := HI.out
  have hv := HVV.out
  have n0 : (0 : Int) < n := by omega
  have n5 : (5 : Int) < n := by omega
  have n17 : (17 : Int) < n := by omega
  unfold spF at hI
  go_wp2_with fail
  refine (Wgk.out _).mono ?_
  rintro e w' ⟨rfl, rfl⟩
  go_upto_region 10 with (fail)
  by_cases h0 : gk = 0
  ·have q0 : (gk == 0) = true := by simp [h0]
   rw [if_pos h0] at hI
   clear h0
   go_wp2_with fail
   go_meet
   exact ⟨rfl, by rw [hI, ← hv]; exact row_put S5.out 0 _⟩
  have q0 : (gk == 0) = false := by simp [h0]
  by_cases h1 : gk = 1
  ·have q1 : (gk == 1) = true := by simp [h1]
   rw [if_neg h0, if_pos h1] at hI
   clear h1
   go_wp2_with fail
   go_meet
   exact ⟨rfl, by rw [hI]; exact row_put S5.out 5 _⟩
  have q1 : (gk == 1) = false := by simp [h1]
  by_cases h2 : gk = 2
  ·have q2 : (gk == 2) = true := by simp [h2]
   rw [if_neg h0, if_neg h1, if_pos h2] at hI
   clear h2
   go_wp2_with fail
   go_meet
   exact ⟨rfl, by rw [hI]; exact row_put S5.out 17 _⟩
  have q2 : (gk == 2) = false := by simp [h2]
  rw [if_neg h0, if_neg h1, if_neg h2] at hI
  clear h0 h1 h2
  go_wp2_with fail
  go_meet
  exact ⟨rfl, by rw [hI]; exact S5.out⟩
 case rest =>
  obtain ⟨rfl, hz⟩ := hcut
  have S6 : Hid (HS [] W _ [thY (.slice AQ n cQ) n I, thS sb wb p, thB pb 130 (plf sb (fun _ => none)), thB P 330 (pc p)]) := hid (hz)
  clear hz S5 HI X0
  go_upto_region 16 with (fail)
  refine wp_region_held_drew (S := fun (w' : World) => HS [] W w' [thY (.slice AQ n cQ) n I, thS sb wb p, thB pb 130 (plf sb (fun _ => none)), thB P 330 (pc p)]) (by kernel_rfl) ?_ (fun hHeld => ?_)
  ·exact S6.out.drew
  refine tkq 0 hHeld ?_
  refine tkq 1 hHeld ?_ (hy := by intro w hSw; (try dsimp only at hSw); have x0 := (pool_fb (hSw.fb 3 rfl)).c1; go_simp; (try with_reducible rfl))
  refine tkq 2 hHeld ?_
  refine tkq 4 hHeld ?_
  refine only 3 rfl (by kernel_rfl) rfl (fun K hK => ?_)
  go_simp
  refine (Wgc.out _).mono ?_
  rintro e w' ⟨rfl, rfl⟩
  try go_wp2_with fail
  refine hK.out _ _ hHeld (fun h3 => ?_)
  clear hK hHeld
  try simp only [Act.put, List.setIfInBounds_toArray, List.set_cons_zero, List.set_cons_succ]
  refine tkq 5 h3 ?_
  refine only 6 rfl (by kernel_rfl) rfl (fun K hK => ?_)
  go_simp
  refine (BLF.out _ _ h3 _ _ (h3.by_ 0 rfl)).mono ?_
  rintro e w6 ⟨AG, cG, rfl, hz, hcc⟩
  try go_wp2_with fail
  have HCG := hid hcc
  refine hK.out _ _ hz.tail (fun h6 => ?_)
  clear hK h3 hcc
  try simp only [Act.put, List.setIfInBounds_toArray, List.set_cons_zero, List.set_cons_succ]
  refine tkq 7 h6 ?_
  refine tkq 8 h6 ?_
  refine tkq 9 h6 ?_
  refine tkq 10 h6 ?_
  refine tkq 11 h6 ?_
  have S7 : Hid (HS [] W w6 [thY (.slice AG l cG) l G, thY (.slice AQ n cQ) n I, thS sb wb p, thB pb 130 (plf sb (fun _ => none)), thB P 330 (pc p)]) := hid (hz)
  clear h6 hz S6 BLF
  refine wpAnyH_done (by kernel_rfl) ?_ _
  go_wp2_with fail
  refine (c_takeA (A := [thY (.slice AG l cG) l G, thY (.slice AQ n cQ) n I, thS sb wb p]) (B := [thB P 330 (pc p)]) S7.out (S7.out.st 2 rfl) HNE.out HPT.out HN0.out G l cG AG GB.out L1.out (S7.out.by_ 0 rfl) HCG.out _ TT.out).mono ?_
  rintro e w8 ⟨AR, cR, rfl, hz, hcc⟩
  dsimp only [List.cons_append, List.nil_append] at hz hcc ⊢
  have S8 : Hid (HS [] W w8 [thY (.slice AR tt.n cR) tt.n tt.f, thY (.slice AG l cG) l G, thY (.slice AQ n cQ) n I, thS sb wb p, thB pb 130 (plf sb tt.nr), thB P 330 (pc p)]) := hid (hz)
  clear hz S7
  have HCR := hid hcc
  clear hcc
  go_simp
  go_upto_region 18 with (first | ((with_reducible refine wl_id ?_); refine wl_ow rfl (ow_allocC rfl (zOc _) (by simp) S8.out ?_); intro V w_ hZ _; have SY := hid hZ; clear hZ) | ((with_reducible refine wl_id ?_); refine wl_ow rfl (ow_storeC (A := []) [.int .i64 tt.d, .int .i64 tt.s, .bool tt.c, .slice AR tt.n cR] rfl rfl (rfl) SY.out rfl iOc rfl ?_); intro w_ hZ; have SX := hid hZ; clear hZ))
  have S9 := hid (SX.out)
  clear SX SY S8
  obtain ⟨bb, hbb⟩ : ∃ b : Bool, (b = true ↔ badF gk v) := by unfold badF; exact ⟨decide _, decide_eq_true_iff⟩
  have HBB := hid hbb
  clear hbb
  try simp only [Act.put, List.setIfInBounds_toArray, List.set_cons_zero, List.set_cons_succ]
  go_cut [22] from 89 to 108 (fun u wx => u = .bool bb ∧ HS [] W wx [thC V [.int .i64 tt.d, .int .i64 tt.s, .bool tt.c, .slice AR tt.n cR], thY (.slice AR tt.n cR) tt.n tt.f, thY (.slice AG l cG) l G, thY (.slice AQ n cQ) n I, thS sb wb p, thB pb 130 (plf sb tt.nr), thB P 330 (pc p)])
  case first =>
   obtain ⟨gb, rfl, gl, gc_, gf⟩ := row_blk (S9.out.nth 3 rfl) N24.out
   have n24 := N24.out
   have y0 := gc_ 0 (by omega)
   have n0 : (0 : Int) < n := by omega
   have hi := I0.out
   have hbb := HBB.out
   clear n24 gc_ gf
   rcases (show gk = 0 ∧ v = 1 ∨ gk = 0 ∧ v = 2 ∨ gk = 0 ∧ v ≠ 1 ∧ v ≠ 2 ∨ gk = 1 ∨ gk = 2 ∨ gk ≠ 0 ∧ gk ≠ 1 ∧ gk ≠ 2 by omega) with h | h | h | h | h | h
   ·have iv : I 0 = 1 := by rw [hi]; split <;> omega
    have e1 : (I 0 != 1) = false := by rw [iv]; decide
    have e2 : (I 0 != 2) = true := by rw [iv]; decide
    have q1 : (gk == 1) = false := by simp; omega
    have q2 : (gk == 2) = false := by simp; omega
    have eb : bb = false := by cases bb with | false => rfl | true => exact absurd (hbb.1 rfl) (by unfold badF; omega)
    clear hbb hi iv h
    go_wp2_with fail
    refine (Wgk.out _).mono ?_
    rintro e w' ⟨rfl, rfl⟩
    go_wp2_with fail
    refine (Wgk.out _).mono ?_
    rintro e w' ⟨rfl, rfl⟩
    go_wp2_with fail
    go_meet
    exact ⟨by rw [eb], S9.out⟩
   ·have iv : I 0 = 2 := by rw [hi]; split <;> omega
    have e1 : (I 0 != 1) = true := by rw [iv]; decide
    have e2 : (I 0 != 2) = false := by rw [iv]; decide
    have q1 : (gk == 1) = false := by simp; omega
    have q2 : (gk == 2) = false := by simp; omega
    have eb : bb = false := by cases bb with | false => rfl | true => exact absurd (hbb.1 rfl) (by unfold badF; omega)
    clear hbb hi iv h
    go_wp2_with fail
    refine (Wgk.out _).mono ?_
    rintro e w' ⟨rfl, rfl⟩
    go_wp2_with fail
    refine (Wgk.out _).mono ?_
    rintro e w' ⟨rfl, rfl⟩
    go_wp2_with fail
    go_meet
    exact ⟨by rw [eb], S9.out⟩
   ·have iv : I 0 = v := by rw [hi, if_pos h.1]
    have e1 : (I 0 != 1) = true := by rw [iv]; simp; omega
    have e2 : (I 0 != 2) = true := by rw [iv]; simp; omega
    have q1 : (gk == 1) = false := by simp; omega
    have q2 : (gk == 2) = false := by simp; omega
    have eb : bb = true := by exact hbb.2 (by unfold badF; omega)
    clear hbb hi iv h
    go_wp2_with fail
    go_meet
    exact ⟨by rw [eb], S9.out⟩
   ·have iv : I 0 = 2 := by rw [hi]; split <;> omega
    have e1 : (I 0 != 1) = true := by rw [iv]; decide
    have e2 : (I 0 != 2) = false := by rw [iv]; decide
    have q1 : (gk == 1) = true := by simp; omega
    have q2 : (gk == 2) = false := by simp; omega
    have eb : bb = true := by exact hbb.2 (by unfold badF; omega)
    clear hbb hi iv h
    go_wp2_with fail
    refine (Wgk.out _).mono ?_
    rintro e w' ⟨rfl, rfl⟩
    go_wp2_with fail
    go_meet
    exact ⟨by rw [eb], S9.out⟩
   ·have iv : I 0 = 2 := by rw [hi]; split <;> omega
    have e1 : (I 0 != 1) = true := by rw [iv]; decide
    have e2 : (I 0 != 2) = false := by rw [iv]; decide
    have q1 : (gk == 1) = false := by simp; omega
    have q2 : (gk == 2) = true := by simp; omega
    have eb : bb = true := by exact hbb.2 (by unfold badF; omega)
    clear hbb hi iv h
    go_wp2_with fail
    refine (Wgk.out _).mono ?_
    rintro e w' ⟨rfl, rfl⟩
    go_wp2_with fail
    refine (Wgk.out _).mono ?_
    rintro e w' ⟨rfl, rfl⟩
    go_wp2_with fail
    go_meet
    exact ⟨by rw [eb], S9.out⟩
   ·have iv : I 0 = 2 := by rw [hi]; split <;> omega
    have e1 : (I 0 != 1) = true := by rw [iv]; decide
    have e2 : (I 0 != 2) = false := by rw [iv]; decide
    have q1 : (gk == 1) = false := by simp; omega
    have q2 : (gk == 2) = false := by simp; omega
    have eb : bb = false := by cases bb with | false => rfl | true => exact absurd (hbb.1 rfl) (by unfold badF; omega)
    clear hbb hi iv h
    go_wp2_with fail
    refine (Wgk.out _).mono ?_
    rintro e w' ⟨rfl, rfl⟩
    go_wp2_with fail
    refine (Wgk.out _).mono ?_
    rintro e w' ⟨rfl, rfl⟩
    go_wp2_with fail
    go_meet
    exact ⟨by rw [eb], S9.out⟩
  case rest =>
   obtain ⟨rfl, hz⟩ := hcut
   have S10 : Hid (HS [] W _ [thC V [.int .i64 tt.d, .int .i64 tt.s, .bool tt.c, .slice AR tt.n cR], thY (.slice AR tt.n cR) tt.n tt.f, thY (.slice AG l cG) l G, thY (.slice AQ n cQ) n I, thS sb wb p, thB pb 130 (plf sb tt.nr), thB P 330 (pc p)]) := hid (hz)
   clear hz S9 I0
   go_upto_region 19 with (fail)
   refine wp_region_held_drew (S := fun (w' : World) => HS [] W w' [thC V [.int .i64 tt.d, .int .i64 tt.s, .bool tt.c, .slice AR tt.n cR], thY (.slice AR tt.n cR) tt.n tt.f, thY (.slice AG l cG) l G, thY (.slice AQ n cQ) n I, thS sb wb p, thB pb 130 (plf sb tt.nr), thB P 330 (pc p)]) (by kernel_rfl) ?_ (fun hHeld => ?_)
   ·exact S10.out.drew
   refine tk 0 (v := .agg (FA 330 (pc p))) rfl (by kernel_rfl) (by kernel_rfl) (by kernel_rfl) (fun _ _ _ h => h) rfl (fun w hSw => ex_load rfl rfl ((hSw.fb 6 rfl).load 0 330 (pc p) (by omega) (fun j hj => by rw [Nat.zero_add]) Tryz.underlying33 rfl info_pl2)) hHeld ?_; (try simp only [Act.put, List.setIfInBounds_toArray, List.set_cons_zero, List.set_cons_succ])
   refine tkq 2 hHeld ?_
   refine tkq 3 hHeld ?_
   refine tkq 4 hHeld ?_
   refine tkq 5 hHeld ?_ (hy := by intro w hSw; (try dsimp only at hSw); have x0 := (pool_fb (hSw.fb 6 rfl)).c1; go_simp; (try with_reducible rfl))
   refine tkq 6 hHeld ?_
   refine tkq 7 hHeld ?_ (hy := by intro w hSw; (try dsimp only at hSw); have x0 := (pool_fb (hSw.fb 6 rfl)).c2; go_simp; (try with_reducible rfl))
   refine tkq 8 hHeld ?_
   refine only 1 rfl (by kernel_rfl) rfl (fun K hK => ?_)
   go_simp
   refine (RMW.out _).mono ?_
   rintro e w14 ⟨BW, rfl, _, hia, hb⟩
   try go_wp2_with fail
   refine hK.out _ _ (hHeld.below hb) (fun h2 => ?_)
   clear hK hHeld hb
   try simp only [Act.put, List.setIfInBounds_toArray, List.set_cons_zero, List.set_cons_succ]
   refine only 9 rfl (by kernel_rfl) rfl (fun K hK => ?_)
   go_simp
   refine (RPK.out _ BW hia).mono ?_
   rintro e w16 ⟨rfl, hb⟩
   try go_wp2_with fail
   refine hK.out _ _ (h2.below hb) (fun h4 => ?_)
   clear hK h2 hb
   try simp only [Act.put, List.setIfInBounds_toArray, List.set_cons_zero, List.set_cons_succ]
   refine tkq 10 h4 ?_
   have S11 := hid (h4)
   clear h4 S10 hia RMW RPK
   refine wpAnyH_done (by kernel_rfl) ?_ _
   cases bb
   ·have hnb : ¬ badF gk v := fun h => by have := HBB.out.2 h; cases this
    obtain ⟨t1, t2⟩ := TN.out hnb
    have ga4 := hid (GA.out hnb)
    clear hnb
    rcases HWB.out with hw | ⟨k, hk, hw⟩
    ·have h := t1 hw
     have hd : tt.d = 9 := by rw [h]; rfl
     clear t1 t2 h
     obtain ⟨f0, f1, f2, f3⟩ := (S11.out.ce 0 rfl).c4
     rw [hd] at f0
     subst hw
     go_wp2_with fail
     go_ret
     exact ⟨by simp, S11.out.bl⟩
    ·have h1 : wv ≠ -1 := by omega
     obtain ⟨F, h, hF⟩ := t2 h1
     rw [hw, Int.toNat_natCast] at hF
     rw [hw] at h
     subst h
     have HW := hid hw
     clear t1 t2 h1
     have S12 : Hid (HS [] W _ [thC V [.int .i64 0, .int .i64 (k : Int), .bool false, .slice AR l cR], thY (.slice AR l cR) l F, thY (.slice AG l cG) l G, thY (.slice AQ n cQ) n I, thS sb wb p, thB pb 130 (plf sb (fun _ => none)), thB P 330 (pc p)]) := hid (S11.out)
     clear S11
     have hcr : l ≤ cR := HCR.out
     have HCL := hid hcr
     clear hcr HCR
     have sp := HPT.out.1 k hk
     obtain ⟨a1, a2⟩ := sp.1
     obtain ⟨a3, a4⟩ := sp.2.1
     have ff := fa_out GB.out GQ.out G0.out (by rw [G1.out]; decide) GW.out (sl := p.s k) ⟨a1, by omega⟩ ⟨a3, by omega⟩ L4.out
     rw [← hF] at ff
     obtain ⟨F1, F2, F3, F4, F5, F6, F7, F8, F9, F10⟩ := ff
     rw [G1.out] at F5
     rw [GS.out] at F6
     rw [ga4.out] at F10
     obtain ⟨gd, hgd⟩ : ∃ g : Nat → Int, g = fun j => F (20 + j) := ⟨_, rfl⟩
     obtain ⟨l2, hl2⟩ : ∃ x, x = l - 20 := ⟨_, rfl⟩
     have pe : Pe (parseR F l) { kind := 3, life := 6, piece := F 12, src := 55, dst := (p.s k).ad, code := F 16, nd := l2, gd := gd } := by rw [rd_3 F2 F4, F4, F5, F6, F7, hl2, hgd]; exact ⟨rfl, rfl, rfl, rfl, rfl, rfl, rfl, rfl, rfl, rfl, rfl, rfl, fun _ _ => rfl, rfl, fun _ _ => rfl⟩
     have gdB : IsB gd := by rw [hgd]; exact fun j => F1 _
     have d4 : num gd 4 4 = (p.s k).ad := by rw [hgd, num_shift F 20 4 4]; exact F8
     have d16 : num gd 16 2 = (p.s k).po := by rw [hgd, num_shift F 20 16 2]; exact F9
     have d8 : num gd 8 4 = ga := by rw [hgd, num_shift F 20 8 4]; exact F10
     have hl24 : 24 ≤ l2 := by have := L4.out; omega
     have hl2m : l2 ≤ 1000000 := by have := L1.out; omega
     have RPS := hid (fun (w : World) (L : List Th) (h : HS [] W w L) (A : Option Addr) (c' : Nat) (hc : l ≤ c') (hA : By w A l F) => (show Calls Tryz.prog 16 #[.slice A l c'] w fun e w' => ∃ AO cO AD cD, e = .returned (.tuple #[.agg #[.int .i64 3, .int .i64 6, .int .i64 (F 12), .int .i64 55, .int .i64 (p.s k).ad, .int .i64 0, .int .i64 0, .int .i64 0, .int .i64 0, .bool false, .int .i64 (F 16), .slice AO 0 cO, .slice AD l2 cD], .int .i64 0]) ∧ HS [] W w' (thOD 0 (.slice AO 0 cO) (.slice AD l2 cD) 0 l2 (fun _ => 0) gd :: L) ∧ 0 ≤ cO ∧ l2 ≤ cD from c_rparse3 h { kind := 3, life := 6, piece := F 12, src := 55, dst := (p.s k).ad, code := F 16, nd := l2, gd := gd } F l F1 L1.out F2 F4 pe A c' hc hA))
     have RWH := hid (fun (w : World) (A : Option Addr) (c' : Nat) (hc : l ≤ c') (hA : By w A l F) => (show Calls Tryz.prog 18 #[.slice A l c'] w fun e w' => e = .returned (.bool true) ∧ Below w.heap.size w w' from by have h := rwhole3 A l c' F w hA F1 hc L1.out (hid F4) (hid F2); rw [F3] at h; exact h))
     have RN1 := hid (fun (w : World) (A : Option Addr) (c' : Nat) (hA : By w A l2 gd) => (show Calls Tryz.prog 34 #[.slice A l2 c', .int .i64 4, .int .i64 4] w fun e w' => e = .returned (.int .i64 ((p.s k).ad)) ∧ w = w' from by have h := rnum_any A l2 c' gd w hA gdB 4 4 (by decide) (by omega) hl2m; rw [d4] at h; exact h))
     have RN2 := hid (fun (w : World) (A : Option Addr) (c' : Nat) (hA : By w A l2 gd) => (show Calls Tryz.prog 34 #[.slice A l2 c', .int .i64 16, .int .i64 2] w fun e w' => e = .returned (.int .i64 ((p.s k).po)) ∧ w = w' from by have h := rnum_any A l2 c' gd w hA gdB 16 2 (by decide) (by omega) hl2m; rw [d16] at h; exact h))
     have RN3 := hid (fun (w : World) (A : Option Addr) (c' : Nat) (hA : By w A l2 gd) => (show Calls Tryz.prog 34 #[.slice A l2 c', .int .i64 8, .int .i64 4] w fun e w' => e = .returned (.int .i64 (ga)) ∧ w = w' from by have h := rnum_any A l2 c' gd w hA gdB 8 4 (by decide) (by omega) hl2m; rw [d8] at h; exact h))
     have HL24 := hid hl24
     have HK := hid hk
     clear pe gdB d4 d16 d8 hl24 hl2m hgd hl2 F1 F2 F3 F4 F5 F6 F7 F8 F9 F10 hF sp a1 a2 a3 a4 hk
     obtain ⟨f0, f1, f2, f3⟩ := (S12.out.ce 0 rfl).c4
     have kk : ¬ (k : Int) < 0 := by omega
     have hw := HW.out
     subst hw
     go_wp2_with fail
     refine (RPS.out _ _ S12.out _ _ HCL.out (S12.out.by_ 1 rfl)).mono ?_
     rintro e w20 ⟨AO, cO, AD, cD, rfl, hz, _, hcd⟩
     have S13 : Hid (HS [] W w20 [thOD 0 (.slice AO 0 cO) (.slice AD l2 cD) 0 l2 (fun _ => 0) gd, thC V [.int .i64 0, .int .i64 (k : Int), .bool false, .slice AR l cR], thY (.slice AR l cR) l F, thY (.slice AG l cG) l G, thY (.slice AQ n cQ) n I, thS sb wb p, thB pb 130 (plf sb (fun _ => none)), thB P 330 (pc p)]) := hid (hz)
     clear hz hcd S12 f0 f1 f2 f3 RPS
     go_simp
     have kk2 : (k : Int) < 64 := by have := HK.out; omega
     have k0 : (0 : Int) ≤ k := by omega
     have e55 : ((55 : Int) == 55) = true := by decide
     have ek : ((k : Int) == (k : Int)) = true := by simp
     have ea : ((p.s k).ad == (p.s k).ad) = true := by simp
     have ep : ((p.s k).po == (p.s k).po) = true := by simp
     have eg : (ga == ga) = true := by simp
     have l24 : (l2 : Int) ≥ 24 := by have := HL24.out; omega
     go_upto_region 25 with (first | ((with_reducible refine wl_id ?_); refine wl_ow rfl (ow_allocC rfl (zPk _) (by simp) S13.out ?_); intro U w_ hZ _; have SY := hid hZ; clear hZ) | ((with_reducible refine wl_id ?_); refine wl_ow rfl (ow_storeC (A := []) [.int .i64 3, .int .i64 6, .int .i64 (F 12), .int .i64 55, .int .i64 (p.s k).ad, .int .i64 0, .int .i64 0, .int .i64 0, .int .i64 0, .bool false, .int .i64 (F 16), .slice AO 0 cO, .slice AD l2 cD] rfl rfl (rfl) SY.out rfl iPk rfl ?_); intro w_ hZ; have SX := hid hZ; clear hZ))
     have S14 := hid (SX.out)
     clear SX SY S13
     refine wp_region_held_drew (S := fun (w' : World) => HS [] W w' [thC U [.int .i64 3, .int .i64 6, .int .i64 (F 12), .int .i64 55, .int .i64 (p.s k).ad, .int .i64 0, .int .i64 0, .int .i64 0, .int .i64 0, .bool false, .int .i64 (F 16), .slice AO 0 cO, .slice AD l2 cD], thOD 0 (.slice AO 0 cO) (.slice AD l2 cD) 0 l2 (fun _ => 0) gd, thC V [.int .i64 0, .int .i64 (k : Int), .bool false, .slice AR l cR], thY (.slice AR l cR) l F, thY (.slice AG l cG) l G, thY (.slice AQ n cQ) n I, thS sb wb p, thB pb 130 (plf sb (fun _ => none)), thB P 330 (pc p)]) (by kernel_rfl) ?_ (fun hHeld => ?_)
     ·exact S14.out.drew
     refine tkq 0 hHeld ?_
     refine tkq 1 hHeld ?_
     refine tkq 2 hHeld ?_
     refine tkq 3 hHeld ?_
     refine tkq 4 hHeld ?_ (hy := by intro w hSw; (try dsimp only at hSw); obtain ⟨f0, f1, f2, f3⟩ := (hSw.ce 2 rfl).c4; go_simp; (try with_reducible rfl))
     refine tkq 5 hHeld ?_
     refine tkq 6 hHeld ?_
     refine tkq 7 hHeld ?_
     refine tkq 8 hHeld ?_
     refine tkq 9 hHeld ?_ (hy := by intro w hSw; (try dsimp only at hSw); obtain ⟨f0, f1, f2, f3⟩ := (hSw.ce 2 rfl).c4; go_simp; (try with_reducible rfl))
     refine tkq 10 hHeld ?_
     refine tkq 11 hHeld ?_
     refine tkq 12 hHeld ?_
     refine tkq 13 hHeld ?_
     refine tkq 14 hHeld ?_
     refine tkq 15 hHeld ?_ (hy := by intro w hSw; (try dsimp only at hSw); obtain ⟨f0, f1, f2, f3⟩ := (hSw.ce 2 rfl).c4; go_simp; (try with_reducible rfl))
     refine tkq 16 hHeld ?_
     refine tkq 17 hHeld ?_
     refine tkq 18 hHeld ?_
     refine tkq 19 hHeld ?_
     refine tkq 20 hHeld ?_ (hy := by intro w hSw; (try dsimp only at hSw); have y0 := (hSw.ce 0 rfl).2.1 4 _ rfl; go_simp; (try with_reducible rfl))
     refine tkq 21 hHeld ?_
     refine tkq 22 hHeld ?_
     refine tkq 23 hHeld ?_
     refine tkq 24 hHeld ?_
     refine tkq 25 hHeld ?_ (hy := by intro w hSw; (try dsimp only at hSw); obtain ⟨q0, q1, q2, q3, q4⟩ := (pool_fb (hSw.fb 8 rfl)).s5 k HK.out; go_simp; (try with_reducible rfl))
     refine tkq 26 hHeld ?_
     refine tkq 27 hHeld ?_
     refine tkq 28 hHeld ?_
     refine tkq 29 hHeld ?_
     refine tkq 30 hHeld ?_ (hy := by intro w hSw; (try dsimp only at hSw); have y0 := (hSw.ce 0 rfl).2.1 3 _ rfl; go_simp; (try with_reducible rfl))
     refine tkq 31 hHeld ?_
     refine tkq 32 hHeld ?_
     refine tkq 33 hHeld ?_
     refine tkq 34 hHeld ?_
     refine tkq 35 hHeld ?_ (hy := by intro w hSw; (try dsimp only at hSw); have y0 := (hSw.ce 0 rfl).2.1 1 _ rfl; go_simp; (try with_reducible rfl))
     refine tkq 36 hHeld ?_
     refine tkq 37 hHeld ?_
     refine tkq 38 hHeld ?_
     refine tkq 39 hHeld ?_
     refine tkq 40 hHeld ?_ (hy := by intro w hSw; (try dsimp only at hSw); obtain ⟨f0, f1, f2, f3⟩ := (hSw.ce 2 rfl).c4; go_simp; (try with_reducible rfl))
     refine only 41 rfl (by kernel_rfl) rfl (fun K hK => ?_)
     go_simp
     refine (RWH.out _ _ _ HCL.out (hHeld.by_ 3 rfl)).mono ?_
     rintro e w21 ⟨rfl, hb⟩
     try go_wp2_with fail
     refine hK.out _ _ (hHeld.below hb) (fun h2 => ?_)
     clear hK hHeld hb
     try simp only [Act.put, List.setIfInBounds_toArray, List.set_cons_zero, List.set_cons_succ]
     refine tkq 42 h2 ?_
     refine tkq 43 h2 ?_
     refine tkq 44 h2 ?_
     refine tkq 45 h2 ?_ (hy := by intro w hSw; (try dsimp only at hSw); have y0 := (hSw.ce 0 rfl).2.1 12 _ rfl; go_simp; (try with_reducible rfl))
     refine tkq 46 h2 ?_
     refine tkq 47 h2 ?_
     refine tkq 48 h2 ?_
     refine tkq 49 h2 ?_
     refine tkq 50 h2 ?_
     refine tkq 51 h2 ?_ (hy := by intro w hSw; (try dsimp only at hSw); have y0 := (hSw.ce 0 rfl).2.1 12 _ rfl; go_simp; (try with_reducible rfl))
     refine tkq 53 h2 ?_
     refine tkq 54 h2 ?_
     refine tkq 55 h2 ?_
     refine tkq 56 h2 ?_
     refine tkq 57 h2 ?_ (hy := by intro w hSw; (try dsimp only at hSw); obtain ⟨q0, q1, q2, q3, q4⟩ := (pool_fb (hSw.fb 8 rfl)).s5 k HK.out; go_simp; (try with_reducible rfl))
     refine only 52 rfl (by kernel_rfl) rfl (fun K hK => ?_)
     go_simp
     refine (RN1.out _ _ _ (h2.byO 1 rfl).2).mono ?_
     rintro e w' ⟨rfl, rfl⟩
     try go_wp2_with fail
     refine hK.out _ _ h2 (fun h3 => ?_)
     clear hK h2
     try simp only [Act.put, List.setIfInBounds_toArray, List.set_cons_zero, List.set_cons_succ]
     refine tkq 58 h3 ?_
     refine tkq 59 h3 ?_
     refine tkq 60 h3 ?_
     refine tkq 61 h3 ?_
     refine tkq 62 h3 ?_ (hy := by intro w hSw; (try dsimp only at hSw); have y0 := (hSw.ce 0 rfl).2.1 12 _ rfl; go_simp; (try with_reducible rfl))
     refine tkq 64 h3 ?_
     refine tkq 65 h3 ?_
     refine tkq 66 h3 ?_
     refine tkq 67 h3 ?_
     refine tkq 68 h3 ?_ (hy := by intro w hSw; (try dsimp only at hSw); obtain ⟨q0, q1, q2, q3, q4⟩ := (pool_fb (hSw.fb 8 rfl)).s5 k HK.out; go_simp; (try with_reducible rfl))
     refine only 63 rfl (by kernel_rfl) rfl (fun K hK => ?_)
     go_simp
     refine (RN2.out _ _ _ (h3.byO 1 rfl).2).mono ?_
     rintro e w' ⟨rfl, rfl⟩
     try go_wp2_with fail
     refine hK.out _ _ h3 (fun h4 => ?_)
     clear hK h3
     try simp only [Act.put, List.setIfInBounds_toArray, List.set_cons_zero, List.set_cons_succ]
     refine tkq 69 h4 ?_
     refine tkq 70 h4 ?_
     refine tkq 71 h4 ?_
     refine tkq 72 h4 ?_
     refine tkq 73 h4 ?_ (hy := by intro w hSw; (try dsimp only at hSw); have y0 := (hSw.ce 0 rfl).2.1 12 _ rfl; go_simp; (try with_reducible rfl))
     refine tkq 75 h4 ?_
     refine only 74 rfl (by kernel_rfl) rfl (fun K hK => ?_)
     go_simp
     refine (RN3.out _ _ _ (h4.byO 1 rfl).2).mono ?_
     rintro e w' ⟨rfl, rfl⟩
     try go_wp2_with fail
     refine hK.out _ _ h4 (fun h5 => ?_)
     clear hK h4
     try simp only [Act.put, List.setIfInBounds_toArray, List.set_cons_zero, List.set_cons_succ]
     refine tkq 76 h5 ?_
     refine tkq 77 h5 ?_
     refine tkq 78 h5 ?_
     have S15 := hid (h5)
     clear h5 S14
     refine wpAnyH_done (by kernel_rfl) ?_ _
     go_wp2_with fail
     go_ret
     exact ⟨by simp, S15.out.bl⟩
   ·have hbd : badF gk v := HBB.out.1 rfl
    have h := TB.out hbd
    have hd : tt.d = 8 := by rw [h]; rfl
    have hs : tt.s = -1 := by rw [h]; rfl
    clear h hbd
    obtain ⟨f0, f1, f2, f3⟩ := (S11.out.ce 0 rfl).c4
    rw [hd] at f0
    rw [hs] at f1
    go_wp2_with fail
    go_ret
    exact ⟨by simp, S11.out.bl⟩
set_option maxRecDepth 100000 in
theorem lifted (os : Os) (started : os.Started) (H : Type) (enc : TypeId × Value → H) :
 ReturnsInHanded {} Tryz.checked os 8 .any (Rows.planeFaultsSpec.pre6 enc Tryz.prog Tryz.f8 [] false) (Rows.planeFaultsSpec.post enc Tryz.prog Tryz.f8 false true false false) :=
 law_step (s := Rows.planeFaultsSpec) started (by kernel_rfl) Tryz.func8
  (ChangeSpec.witness6 (s := Rows.planeFaultsSpec) (enc := enc) (C := Tryz.checked) false ⟨#[], #[.slice none 0 0, .int .i64 0, .int .i64 0, .int .i64 0, .slice none 0 0, .int .i64 0], []⟩ 8 (by kernel_rfl) (by kernel_rfl) (by kernel_rfl) (by kernel_rfl))
  rfl (by rw [Tryz.params8]; decide +kernel) rfl Tryz.underlying4
  (fun ds h => by
   rw [Tryz.params8] at h
   match ds, h with
   | [_, _, _, _, _, _], _ => rfl)
  (fun W base args ds ps hval hA hsz => by
   rw [Tryz.params8] at hA hval hsz
   obtain ⟨v0, vs0, d0, ds0, p0, q0, hargs, rfl, rfl, h0, r0⟩ := trodAll_cons hA
   obtain ⟨v1, vs1, d1, ds1, p1, q1, rfl, rfl, rfl, h1, r1⟩ := trodAll_cons r0
   obtain ⟨v2, vs2, d2, ds2, p2, q2, rfl, rfl, rfl, h2, r2⟩ := trodAll_cons r1
   obtain ⟨v3, vs3, d3, ds3, p3, q3, rfl, rfl, rfl, h3, r3⟩ := trodAll_cons r2
   obtain ⟨v4, vs4, d4, ds4, p4, q4, rfl, rfl, rfl, h4, r4⟩ := trodAll_cons r3
   obtain ⟨v5, vs5, d5, ds5, p5, q5, rfl, rfl, rfl, h5, r5⟩ := trodAll_cons r4
   obtain ⟨rfl, rfl, rfl⟩ := trodAll_nil r5
   obtain rfl : args = #[v0, v1, v2, v3, v4, v5] := by cases args; simp_all
   obtain ⟨A0, n0, c0, g0, rfl, hn0, hc0, hs0, hw0, hl0, hd0⟩ := open_row Tryz.underlying22 Tryz.underlying3 (by kernel_rfl) (hval 0 22 v0 rfl rfl) h0
   have re0 : c0 * 8 ≤ 140737488351232 := by
    rcases hd0 with ⟨_, h0⟩ | ⟨xs, ys, h1, h2⟩
    ·omega
    ·have := sized_slice hsz (j := 0) (t := 22) (e := 3) rfl (by rw [h1]; rfl) Tryz.underlying22
     rw [h2, show Tryz.prog.bytesOf 3 = 8 from by kernel_rfl] at this
     simpa [reachBytes] using this
   obtain ⟨a1, rfl, rfl, rfl, w1⟩ := open_int Tryz.underlying3 (hval 1 3 v1 rfl rfl) h1
   obtain ⟨a2, rfl, rfl, rfl, w2⟩ := open_int Tryz.underlying3 (hval 2 3 v2 rfl rfl) h2
   obtain ⟨a3, rfl, rfl, rfl, w3⟩ := open_int Tryz.underlying3 (hval 3 3 v3 rfl rfl) h3
   obtain ⟨A4, n4, c4, g4, rfl, hn4, hc4, hs4, hw4, hl4, hd4⟩ := open_row Tryz.underlying37 Tryz.underlying5 (by kernel_rfl) (hval 4 37 v4 rfl rfl) h4
   have re4 : c4 * 1 ≤ 140737488351232 := by
    rcases hd4 with ⟨_, h0⟩ | ⟨xs, ys, h1, h2⟩
    ·omega
    ·have := sized_slice hsz (j := 4) (t := 37) (e := 5) rfl (by rw [h1]; rfl) Tryz.underlying37
     rw [h2, show Tryz.prog.bytesOf 5 = 1 from by kernel_rfl] at this
     simpa [reachBytes] using this
   obtain ⟨a5, rfl, rfl, rfl, w5⟩ := open_int Tryz.underlying3 (hval 5 3 v5 rfl rfl) h5
   exact walk W A0 n0 c0 g0 hn0 hc0 hs0 (fun j => bounds_i64 (hw0 j)) hl0 re0 a1 (bounds_i64 w1) a2 (bounds_i64 w2) a3 (bounds_i64 w3) A4 n4 c4 g4 hn4 hc4 hs4 (fun j => bounds_u8 (hw4 j)) hl4 re4 a5 (bounds_i64 w5))
theorem proved : Rows.PlaneFaultsSaid :=
 OpenClaim.holds_of_wide 8 Tryz.f8 rfl rfl rfl rfl rfl rfl rfl ⟨rfl, rfl, rfl, rfl, rfl⟩ rfl rfl rfl rfl rfl (by kernel_rfl) Tryz.func8 (by kernel_rfl)
  (of_decide_eq_true (by kernel_rfl)) (by unfold Func.isWrapper; first | (rw [if_pos (by decide +kernel)]; kernel_rfl) | (rw [if_neg (by decide +kernel)]; exact ⟨rfl, rfl⟩))
  (fun os started H enc _ => lifted os started H enc)
end Go.Proofs.YteapnfdpkjbfhaaGreat.planeFaults
