/- Units, rows of bytes and packets as things; the functions by things. -/
import Derived.Test.YteapnfdpkjbfhaaGreatGa
import Derived.Test.YteapnfdpkjbfhaaGreatTopPk
import Derived.Test.YteapnfdpkjbfhaaGreatTopFn
import Derived.Test.YteapnfdpkjbfhaaGreatOptMake
import Derived.BigQuiet
import Derived.Deep.RegionHeld3
import Derived.Deep.Cut
import Derived.IntWalk
namespace Go.Proofs.YteapnfdpkjbfhaaGreat
set_option linter.unusedVariables false
set_option linter.unusedSimpArgs false
open Go.RowKit Go.ChangeShapes Go.WideShapes Go.ChangeAt
section
variable {S : List Nat} {W w w' : World} {L A B : List Th} {t : Th}
/-- A thing is written, another one is new. -/
theorem HS.updN (h : HS S W w (A ++ t :: B)) (t' u : Th) (hbs : t'.bs = t.bs) (hc : Ch t.bs w w') (ht : t'.at_ w') (hu : u.at_ w') (hn : u.bs.Nodup) (hg : ∀ b, b ∈ u.bs → w.heap.size ≤ b) : HS S W w' (u :: (A ++ t' :: B)) := by
 have h1 := h.upd t' hbs hc ht
 have hb2 : (A ++ t' :: B).flatMap Th.bs = (A ++ t :: B).flatMap Th.bs := by simp [hbs]
 have hlt : ∀ b, b ∈ (A ++ t' :: B).flatMap Th.bs → b < w.heap.size := fun b hb => by
  rw [hb2] at hb
  obtain ⟨x, hx, hxb⟩ := List.mem_flatMap.1 hb
  exact x.lt w (h.1 x hx) b hxb
 refine ⟨fun x hx => ?_, h1.2.1, ?_, fun b hb => ?_⟩
 ·rcases List.mem_cons.1 hx with rfl | hx
  ·exact hu
  ·exact h1.1 x hx
 ·rw [List.flatMap_cons, List.nodup_append]
  refine ⟨hn, h1.2.2.1, fun a ha b hb e => ?_⟩
  subst e
  have := hlt a hb
  have := hg a ha
  omega
 ·rw [List.flatMap_cons] at hb
  rcases List.mem_append.1 hb with hb | hb
  ·exact .inr (Nat.le_trans h.wsize (hg b hb))
  ·exact h1.2.2.2 b hb
theorem row_le {w : World} {k n c : Nat} {A : Option Addr} {e : TypeId} {z : Nat} {f : Nat → Value} (h : Ow w k e z (.slice A n c) n f) : n ≤ c := by
 obtain ⟨A', c', e, h1, _, _⟩ := h.form_
 injection e with e1 e2 e3
 omega
/-- A row of bytes, a packet's two rows, as things. -/
def thY (v : Value) (n : Nat) (f : Nat → Int) : Th := thW 0 5 1 v n (fun j => .int .u8 (f j))
theorem thY_nd (v : Value) (n : Nat) (f : Nat → Int) : (thY v n f).bs.Nodup := by
 unfold thY thW
 dsimp only
 cases v.ownBlock <;> simp
theorem thY_ge {v : Value} {n : Nat} {f : Nat → Int} {k : Nat} (hO : OB w' k v n f) : ∀ b, b ∈ (thY v n f).bs → k ≤ b := fun b hb => (World.ownsRow.lt hO b (by simpa [thY, thW] using hb)).1
theorem HS.newY {v : Value} {n : Nat} {f : Nat → Int} (h : HS S W w L) (hb : Below w.heap.size w w') (hO : OB w' w.heap.size v n f) : HS S W w' (thY v n f :: L) :=
 h.new (thY v n f) hb (OB.base hO (Nat.zero_le _)) (thY_nd v n f) (thY_ge hO)
theorem HS.by_ {X : Option Addr} {n c : Nat} {f : Nat → Int} (h : HS S W w L) (k : Nat) (hk : L[k]? = some (thY (.slice X n c) n f)) : By w X n f := Ow.sl1 (show Ow w 0 5 1 (.slice X n c) n (fun j => .int .u8 (f j)) from h.nth k hk)
theorem thOD_nd {k : Nat} {O D : Value} {no nd : Nat} {go gd : Nat → Int} : (thOD k O D no nd go gd).bs.Nodup := by
 dsimp only [thOD]
 split
 ·cases O.ownBlock <;> simp
 ·rename_i hne
  cases h1 : O.ownBlock <;> cases h2 : D.ownBlock <;> simp
  intro e; exact hne (by rw [h1, h2, e])
theorem HS.newP {O D : Value} {no nd : Nat} {go gd : Nat → Int} (h : HS S W w L) (hb : Below w.heap.size w w') (hO : OB w' w.heap.size O no go) (hD : OB w' w.heap.size D nd gd) : HS S W w' (thOD 0 O D no nd go gd :: L) := by
 refine h.new (thOD 0 O D no nd go gd) hb ⟨OB.base hO (Nat.zero_le _), OB.base hD (Nat.zero_le _)⟩ thOD_nd (fun b hbb => ?_)
 dsimp only [thOD] at hbb
 split at hbb
 ·exact (World.ownsRow.lt hO b (by simpa using hbb)).1
 ·rcases List.mem_append.1 hbb with hbb | hbb
  ·exact (World.ownsRow.lt hO b (by simpa using hbb)).1
  ·exact (World.ownsRow.lt hD b (by simpa using hbb)).1
theorem HS.byO {X Y : Option Addr} {no nd c d : Nat} {go gd : Nat → Int} (h : HS S W w L) (k : Nat) (hk : L[k]? = some (thOD 0 (.slice X no c) (.slice Y nd d) no nd go gd)) : By w X no go ∧ By w Y nd gd :=
 ⟨Ow.sl1 (show Ow w 0 5 1 (.slice X no c) no (fun j => .int .u8 (go j)) from (h.nth k hk).1), Ow.sl1 (show Ow w 0 5 1 (.slice Y nd d) nd (fun j => .int .u8 (gd j)) from (h.nth k hk).2)⟩
/-- A unit's pool with its wheel. -/
def thS (sb wb : Nat) (p : Pl) : Th := ⟨fun w => StAt w sb wb p, if sb = wb then [sb] else [sb, wb],
 fun w w' h e => by
  have e1 : w'.heap[sb]? = w.heap[sb]? := e sb (by split <;> simp)
  have e2 : w'.heap[wb]? = w.heap[wb]? := e wb (by split; rename_i h; rw [h]; simp; simp)
  exact ⟨(thB sb 330 (pc p)).keep w w' h.pl (fun b hb => by simp [thB] at hb; subst hb; exact e1), (World.cell?_of_block (a := ⟨sb, 330, none⟩) e1).trans h.sl, (thI wb (whlW p)).keep w w' h.wh (fun b hb => by simp [thI] at hb; subst hb; exact e2)⟩,
 fun w h b hb => by
  split at hb
  ·simp at hb; subst hb; exact h.pl.1
  ·simp at hb
   rcases hb with rfl | rfl
   ·exact h.pl.1
   ·exact h.wh.1⟩
theorem HS.st {sb wb : Nat} {p : Pl} (h : HS S W w L) (k : Nat) (hk : L[k]? = some (thS sb wb p)) : StAt w sb wb p := h.nth k hk
end
/-- Load by things. -/
theorem c_load {S : List Nat} {W w : World} {A B : List Th} {pb : Nat} {X : Option Addr} {up : Bool} {nr : Nat → Option Int} (hS : HS S W w (A ++ thB pb 130 (plc X up (nrV nr)) :: B)) (q : Pl) (hq : Pw q) :
 Calls Tryz.prog 22 #[.pointer (some ⟨pb, 0, none⟩), .agg (FA 330 (pc q))] w fun x w' => x = .returned (.tuple #[]) ∧ ∃ sb wb, (pb ≠ sb ∧ pb ≠ wb) ∧ HS S W w' (thS sb wb q :: (A ++ thB pb 130 (plf sb nr) :: B)) := by
 have hF : Fb w pb 130 (plc X up (nrV nr)) := hS.1 (thB pb 130 (plc X up (nrV nr))) (by simp)
 refine (load_any hF q hq).mono ?_
 rintro x w' ⟨rfl, sb, wb, hF2, hSt, hne, hch, g1, g2⟩
 refine ⟨rfl, sb, wb, hne, hS.updN (thB pb 130 (plf sb nr)) (thS sb wb q) rfl hch hF2 hSt ?_ ?_⟩
 ·dsimp only [thS]
  split
  ·simp
  ·rename_i h; simp [h]
 ·intro b hb
  dsimp only [thS] at hb
  split at hb
  ·simp at hb; omega
  ·simp at hb; rcases hb with rfl | rfl <;> omega
/-- Take by things. -/
theorem c_take {S : List Nat} {W w : World} {A B : List Th} {pb sb wb : Nat} {nr : Nat → Option Int} {p : Pl} (hS : HS S W w (A ++ thB pb 130 (plf sb nr) :: B)) (hSt : StAt w sb wb p) (hne : pb ≠ sb ∧ pb ≠ wb) (hp : Pt p) (hnr : Nt32 nr) (g : Nat → Int) (n c : Nat) (X : Option Addr) (hg : IsB g) (hn : n ≤ 1000000) (h3 : parseE g n = 0 → g 0 ≠ 3) (hX : By w X n g) (hc : n ≤ c) (t : To) (ht : takeT p true nr g n = t) :
 Calls Tryz.prog 15 #[.pointer (some ⟨pb, 0, none⟩), .slice X n c] w fun e w' => ∃ X' c', e = .returned (.agg #[.int .i64 t.d, .int .i64 t.s, .bool t.c, .slice X' t.n c']) ∧ HS S W w' (thY (.slice X' t.n c') t.n t.f :: (A ++ thB pb 130 (plf sb t.nr) :: B)) ∧ t.n ≤ c' := by
 have hF : Fb w pb 130 (plf sb nr) := hS.1 (thB pb 130 (plf sb nr)) (by simp)
 subst ht
 refine (take_any p pb sb wb nr g n c X w hg hn h3 hp hnr hF hne hSt hX hc).mono ?_
 rintro e w' ⟨X', c', rfl, hO, hc', hF2, hch⟩
 exact ⟨X', c', rfl, hS.updN (thB pb 130 (plf sb (takeT p true nr g n).nr)) (thY _ _ _) rfl hch hF2 (OB.base hO (Nat.zero_le _)) (thY_nd _ _ _) (thY_ge hO), hc'⟩
end Go.Proofs.YteapnfdpkjbfhaaGreat
