/- The packet that Make makes. -/
import Derived.Test.YtjfopkbpaekejaaGreatGa
import Derived.Test.YtjfopkbpaekejaaGreatGwb
import Derived.BigQuiet
import Derived.Deep.RegionHeld3
import Derived.Deep.Cut
namespace Go.Proofs.YtjfopkbpaekejaaGreat
set_option linter.unusedVariables false
set_option linter.unusedSimpArgs false
open Go.RowKit Go.ChangeShapes Go.WideShapes Go.ChangeAt

section
variable {P : Program} {Q : Exit → Act → World → Prop} {md : Region.Mode} {S : World → Prop}
theorem threeUp (i j k : Nat) {L r1 r2 r3 : List Oper} {o1 o2 o3 : Oper} {fuel : Nat} {listed : Array Bool} {a : Act} {w : World} (h1 : L.drop i = o1 :: r1) (h2 : L.drop j = o2 :: r2) (h3 : L.drop k = o3 :: r3) (hr : Region.ready md L.toArray listed = [i, j, k])
    (w1 : Region.wanted o1 (yielded L.toArray a.tmps) = true) (w2 : Region.wanted o2 (yielded L.toArray a.tmps) = true) (w3 : Region.wanted o3 (yielded L.toArray a.tmps) = true)
    (k1 : ∀ K' : Act → World → Prop, Shut (∀ a w, S w → (S w → wpAnyH P md L.toArray Q S fuel (listed.setIfInBounds i true) a w) → K' a w) → Oper.wp P o1 a w K' Q)
    (k2 : ∀ K' : Act → World → Prop, Shut (∀ a w, S w → (S w → wpAnyH P md L.toArray Q S fuel (listed.setIfInBounds j true) a w) → K' a w) → Oper.wp P o2 a w K' Q)
    (k3 : ∀ K' : Act → World → Prop, Shut (∀ a w, S w → (S w → wpAnyH P md L.toArray Q S fuel (listed.setIfInBounds k true) a w) → K' a w) → Oper.wp P o3 a w K' Q) : wpAnyH P md L.toArray Q S (fuel + 1) listed a w :=
  wpAnyH_ready hr (by simp) (AllReadyH.cons (at_drop h1) (fun K hK => by rw [if_pos w1]; exact k1 K hK) (AllReadyH.cons (at_drop h2) (fun K hK => by rw [if_pos w2]; exact k2 K hK) (AllReadyH.cons (at_drop h3) (fun K hK => by rw [if_pos w3]; exact k3 K hK) AllReadyH.nil)))
end
/-- The numbers that Make reads. -/
def nv (g : Nat → Int) (n : Nat) (i : Nat) : Int := if i < n then wi (g i) 1099511627776 else 0
theorem nv_bd (g : Nat → Int) (n i : Nat) : 0 ≤ nv g n i ∧ nv g n i < 1099511627776 := by unfold nv; split; exact wi_bd _ _ (by decide); exact ⟨by decide, by decide⟩
theorem buildE_ok' {p : Pk} (hk : isK p.kind = true) (h : rangeB p = true) (h5 : ¬ (p.kind = 1 ∧ 40 < p.no)) (h3 : ¬ (p.kind = 3 ∧ p.nd < 24 ∨ 1500 < lenP p)) : buildE p = 0 := by unfold buildE; rw [if_neg (by rw [hk]; decide), if_neg (by rw [h]; decide), if_neg h5, if_neg h3]
def mkLife (v : Int) : Int := if v % 7 = 0 then v / 7 % 3 else 2 + v % 254
def mkPiece (v : Int) : Int := if v % 11 = 0 then v / 11 % 256 else 0
/-- The packet that Make makes. -/
def mkPk (kind : Int) (v : Nat → Int) (g2 : Nat → Int) (n2 : Nat) : Pk :=
  if 1 + wi kind 3 = 3 then { kind := 3, life := mkLife (v 0), piece := mkPiece (v 0), src := v 1 % 4294967296, dst := v 2 % 4294967296, code := v 3 % 256, nd := max 24 (min n2 200), gd := fun j => if j < min n2 200 then g2 j else v 4 / 2 ^ (j % 8) % 256 }
  else if 1 + wi kind 3 = 2 then { kind := 2, life := mkLife (v 0), piece := mkPiece (v 0), src := v 1 % 4294967296, dst := v 2 % 4294967296, fp := v 3 % 65536, tp := v 4 % 65536, label := v 5 % 65536, bare := v 6 % 4 == 0, nd := min n2 200, gd := g2 }
  else { kind := 1, life := mkLife (v 0), piece := mkPiece (v 0), src := v 1 % 4294967296, dst := v 2 % 4294967296, fp := v 3 % 65536, tp := v 4 % 65536, flags := v 5 % 16, no := (v 6 % 41).toNat, go := fun i => v 7 / 2 ^ (i % 24) % 256, nd := min n2 200, gd := g2 }
theorem mkLife_bd (v : Int) : 0 ≤ mkLife v ∧ mkLife v ≤ 255 := by unfold mkLife; split <;> omega
theorem mkPiece_bd (v : Int) : 0 ≤ mkPiece v ∧ mkPiece v ≤ 255 := by unfold mkPiece; split <;> omega
theorem mk_facts (kind : Int) (v g2 : Nat → Int) (n2 : Nat) (hg : IsB g2) : buildE (mkPk kind v g2 n2) = 0 ∧ Clean (mkPk kind v g2 n2) ∧ IsB (mkPk kind v g2 n2).go ∧ IsB (mkPk kind v g2 n2).gd ∧ (mkPk kind v g2 n2).no ≤ 40 ∧ (mkPk kind v g2 n2).nd ≤ 200 := by
  have l := mkLife_bd (v 0)
  have q := mkPiece_bd (v 0)
  unfold mkPk
  split
  · refine ⟨buildE_ok' rfl ?_ (fun e => absurd (show (3 : Int) = 1 from e.1) (by decide)) ?_, ⟨fun _ => ⟨rfl, rfl⟩, fun _ => ⟨rfl, rfl⟩, fun _ => ⟨rfl, rfl⟩, fun h => absurd rfl h⟩, fun _ => ⟨(by decide : (0 : Int) ≤ 0), (by decide : (0 : Int) ≤ 255)⟩, ?_, (show (0 : Nat) ≤ 40 from by decide), ?_⟩
    · unfold rangeB inR; simp; omega
    · rintro (e | e)
      · have := e.2; dsimp only at this; omega
      · unfold lenP at e; dsimp only at e; rw [if_pos rfl] at e; omega
    · intro j; dsimp only; split; exact hg j; omega
    · dsimp only; omega
  · split
    · refine ⟨buildE_ok' rfl ?_ (fun e => absurd (show (2 : Int) = 1 from e.1) (by decide)) ?_, ⟨fun h => absurd (show (2 : Int) = 3 from h) (by decide), fun _ => ⟨rfl, rfl⟩, fun h => absurd rfl h, fun _ => rfl⟩, fun _ => ⟨(by decide : (0 : Int) ≤ 0), (by decide : (0 : Int) ≤ 255)⟩, hg, (show (0 : Nat) ≤ 40 from by decide), ?_⟩
      · unfold rangeB inR; simp; omega
      · rintro (e | e)
        · cases e.1
        · unfold lenP at e; dsimp only at e; rw [if_neg (by decide), if_pos rfl] at e; omega
      · dsimp only; omega
    · refine ⟨buildE_ok' rfl ?_ (fun e => by have := e.2; dsimp only at this; omega) ?_, ⟨fun h => absurd (show (1 : Int) = 3 from h) (by decide), fun h => absurd rfl h, fun _ => ⟨rfl, rfl⟩, fun _ => rfl⟩, fun j => by dsimp only; omega, hg, ?_, ?_⟩
      · unfold rangeB inR; simp; omega
      · rintro (e | e)
        · cases e.1
        · unfold lenP at e; dsimp only at e; rw [if_neg (by decide), if_neg (by decide)] at e; omega
      · dsimp only; omega
      · dsimp only; omega
end Go.Proofs.YtjfopkbpaekejaaGreat

