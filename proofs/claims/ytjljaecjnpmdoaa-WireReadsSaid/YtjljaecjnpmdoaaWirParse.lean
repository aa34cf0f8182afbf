/- Parse. -/
import Derived.Test.YtjljaecjnpmdoaaWirHead
import Derived.Test.YtjljaecjnpmdoaaTakes
import Derived.Deep.CutRange
import Derived.BigQuiet
import Derived.Deep.RegionHeld3
import Derived.Deep.Cut
namespace Go.Proofs.Ytjljaecjnpmdoaa
set_option linter.unusedVariables false
set_option linter.unusedSimpArgs false
open Go.RowKit Go.ChangeShapes Go.WideShapes Go.ChangeAt

/-- A block's cells: they are there and may be written. -/
def Ce (w : World) (b : Nat) (l : List Value) : Prop := b < w.heap.size ∧ (∀ j v, l[j]? = some v → w.cell? ⟨b, j, none⟩ = some v) ∧ ∀ j, w.frozen? ⟨b, j, none⟩ = false
theorem Ce.below {w w' : World} {b : Nat} {l : List Value} (h : Ce w b l) (hb : Below w.heap.size w w') : Ce w' b l :=
  ⟨Nat.lt_of_lt_of_le h.1 hb.size, fun j v hj => (hb.cell (p := ⟨b, j, none⟩) h.1).trans (h.2.1 j v hj), fun j => (World.frozen?_of_block (a := ⟨b, j, none⟩) (hb.block b h.1)).trans (h.2.2 j)⟩
theorem Ce.made {w : World} {l : List Value} {T : TypeId} {g : Nat} (hg : w.heap.size = g) : Ce (w.alloc (.cells l.toArray T)) g l := by
  subst hg
  have h : (w.alloc (.cells l.toArray T)).heap[w.heap.size]? = some (.cells l.toArray T (0, 0)) := heap_alloc_new w _
  refine ⟨by simp, fun j v hj => ?_, fun j => frozen_of_row _ _ _ _ _ h⟩
  rw [cell_of_row _ w.heap.size j l.toArray T (0, 0) h]
  simpa using hj
theorem Ce.grown {w w' : World} {b : Nat} {l : List Value} {row : Option Nat} (h : Ce w b l) (hg : w.grownBy w' row) (hne : row ≠ some b) : Ce w' b l :=
  have hb := hg.block b h.1 (fun e => hne e.symm)
  ⟨Nat.lt_of_lt_of_le h.1 hg.size, fun j v hj => (World.cell?_of_block (a := ⟨b, j, none⟩) hb).trans (h.2.1 j v hj), fun j => (World.frozen?_of_block (a := ⟨b, j, none⟩) hb).trans (h.2.2 j)⟩
theorem Ce.set {w : World} {b : Nat} {l : List Value} (h : Ce w b l) (j : Nat) (v : Value) (hj : j < l.length) : Ce (w.setCell ⟨b, j, none⟩ v) b (l.set j v) := by
  refine ⟨by simpa using h.1, fun i u hi => ?_, fun i => by rw [World.frozen?_setCell]; exact h.2.2 i⟩
  by_cases e : i = j
  · subst e
    rw [List.getElem?_set_self hj] at hi
    injection hi with hi
    subst hi
    exact World.cell?_setCell_same _ _ _ (h.2.1 i _ (List.getElem?_eq_getElem hj))
  · rw [List.getElem?_set_ne (Ne.symm e)] at hi
    rw [World.cell?_setCell_other _ _ _ _ (fun x => e (by injection x with _ x; exact x.symm))]
    exact h.2.1 i u hi
theorem below_grown {w w' : World} (h : Below w.heap.size w w') (row : Option Nat) : w.grownBy w' row := ⟨h.os, h.tape, h.output, h.size, fun k hk _ => h.block k hk⟩
/-- Blocks from B on may be other ones; what lay below is as it was. -/
theorem below_of_grown {w w' : World} {B b : Nat} (h : w.grownBy w' (some b)) (hb : B ≤ b) (hB : B ≤ w.heap.size) : Below B w w' :=
  ⟨h.os, h.tape, h.output, h.size, fun k hk => h.block k (Nat.lt_of_lt_of_le hk hB) (fun e => by injection e with e; omega)⟩
theorem OB.grown {w w' : World} {B n b : Nat} {v : Value} {g : Nat → Int} (h : OB w B v n g) (hg : w.grownBy w' (some b)) (hne : v.ownBlock ≠ some b) : OB w' B v n g := by
  refine ⟨h.1, ?_⟩
  rcases h.2 with h0 | ⟨g', cap, cur, rfl, hB, hh, h1⟩
  · exact .inl h0
  · refine .inr ⟨g', cap, cur, rfl, hB, ?_, h1⟩
    have hlt : g' < w.heap.size := by
      rcases Nat.lt_or_ge g' w.heap.size with hlt | hge
      · exact hlt
      · rw [Array.getElem?_eq_none hge] at hh; cases hh
    rw [hg.block g' hlt hne]
    exact hh
theorem OB.base {w : World} {B B' n : Nat} {v : Value} {g : Nat → Int} (h : OB w B v n g) (hB : B' ≤ B) : OB w B' v n g := by
  refine ⟨h.1, ?_⟩
  rcases h.2 with h0 | ⟨g', cap, cur, rfl, hb, h1⟩
  · exact .inl h0
  · exact .inr ⟨g', cap, cur, rfl, Nat.le_trans hB hb, h1⟩
theorem OB.ne {w : World} {B n b : Nat} {v : Value} {g : Nat → Int} (h : OB w B v n g) (hb : b < B) : v.ownBlock ≠ some b := by
  rcases h.2 with ⟨rfl, _⟩ | ⟨g', cap, cur, rfl, hB, h1⟩
  · intro e; cases e
  · intro e
    simp only [Value.ownBlock, Option.some.injEq] at e
    omega
section
variable {P : Program} {Q : Exit → Act → World → Prop} {md : Region.Mode} {S : World → Prop}
/-- Two may come up. -/
theorem twoUp (i j : Nat) {L rest rest' : List Oper} {o o' : Oper} {fuel : Nat} {listed : Array Bool} {a : Act} {w : World} (ho : L.drop i = o :: rest) (ho' : L.drop j = o' :: rest') (hr : Region.ready md L.toArray listed = [i, j])
    (hw : Region.wanted o (yielded L.toArray a.tmps) = true) (hw' : Region.wanted o' (yielded L.toArray a.tmps) = true)
    (h : ∀ K' : Act → World → Prop, Shut (∀ a w, S w → (S w → wpAnyH P md L.toArray Q S fuel (listed.setIfInBounds i true) a w) → K' a w) → Oper.wp P o a w K' Q)
    (h' : ∀ K' : Act → World → Prop, Shut (∀ a w, S w → (S w → wpAnyH P md L.toArray Q S fuel (listed.setIfInBounds j true) a w) → K' a w) → Oper.wp P o' a w K' Q) : wpAnyH P md L.toArray Q S (fuel + 1) listed a w :=
  wpAnyH_ready hr (by simp) (AllReadyH.cons (at_drop ho) (fun K hK => by rw [if_pos hw]; exact h K hK) (AllReadyH.cons (at_drop ho') (fun K hK => by rw [if_pos hw']; exact h' K hK) AllReadyH.nil))
end
theorem at_world {P : Program} {fn : Func} {post : Ending → World → Prop} {x : Exit} {a : Act} {W : World} (Q : World → Prop) (hQ : Q W) (h : ∀ w, Q w → bodyPost P fn post x a w) : bodyPost P fn post x a W := h W hQ
/-- Thirteen cells written. -/
def S13 (w : World) (b : Nat) (v0 v1 v2 v3 v4 v5 v6 v7 v8 v9 v10 v11 v12 : Value) : World := (((((((((((((w.setCell ⟨b, 0, none⟩ v0).setCell ⟨b, 1, none⟩ v1).setCell ⟨b, 2, none⟩ v2).setCell ⟨b, 3, none⟩ v3).setCell ⟨b, 4, none⟩ v4).setCell ⟨b, 5, none⟩ v5).setCell ⟨b, 6, none⟩ v6).setCell ⟨b, 7, none⟩ v7).setCell ⟨b, 8, none⟩ v8).setCell ⟨b, 9, none⟩ v9).setCell ⟨b, 10, none⟩ v10).setCell ⟨b, 11, none⟩ v11).setCell ⟨b, 12, none⟩ v12)
theorem Ce.s13 {w : World} {b : Nat} {x0 x1 x2 x3 x4 x5 x6 x7 x8 x9 x10 x11 x12 : Value} (h : Ce w b [x0, x1, x2, x3, x4, x5, x6, x7, x8, x9, x10, x11, x12]) (v0 v1 v2 v3 v4 v5 v6 v7 v8 v9 v10 v11 v12 : Value) : Ce (S13 w b v0 v1 v2 v3 v4 v5 v6 v7 v8 v9 v10 v11 v12) b [v0, v1, v2, v3, v4, v5, v6, v7, v8, v9, v10, v11, v12] :=
  (((((((((((((h.set 0 v0 (by simp)).set 1 v1 (by simp)).set 2 v2 (by simp)).set 3 v3 (by simp)).set 4 v4 (by simp)).set 5 v5 (by simp)).set 6 v6 (by simp)).set 7 v7 (by simp)).set 8 v8 (by simp)).set 9 v9 (by simp)).set 10 v10 (by simp)).set 11 v11 (by simp)).set 12 v12 (by simp))
theorem below_s13 {B : Nat} {w w' : World} {b : Nat} (h : Below B w w') (hb : B ≤ b) (v0 v1 v2 v3 v4 v5 v6 v7 v8 v9 v10 v11 v12 : Value) : Below B w (S13 w' b v0 v1 v2 v3 v4 v5 v6 v7 v8 v9 v10 v11 v12) :=
  ((((((((((((h.setCell (p := ⟨b, 0, none⟩) hb _).setCell (p := ⟨b, 1, none⟩) hb _).setCell (p := ⟨b, 2, none⟩) hb _).setCell (p := ⟨b, 3, none⟩) hb _).setCell (p := ⟨b, 4, none⟩) hb _).setCell (p := ⟨b, 5, none⟩) hb _).setCell (p := ⟨b, 6, none⟩) hb _).setCell (p := ⟨b, 7, none⟩) hb _).setCell (p := ⟨b, 8, none⟩) hb _).setCell (p := ⟨b, 9, none⟩) hb _).setCell (p := ⟨b, 10, none⟩) hb _).setCell (p := ⟨b, 11, none⟩) hb _).setCell (p := ⟨b, 12, none⟩) hb _
theorem grown_s13 (w : World) (b : Nat) (v0 v1 v2 v3 v4 v5 v6 v7 v8 v9 v10 v11 v12 : Value) : w.grownBy (S13 w b v0 v1 v2 v3 v4 v5 v6 v7 v8 v9 v10 v11 v12) (some b) := by
  unfold S13
  iterate 13 (refine gs _ _ ?_)
  exact World.grownBy.refl _ _
/-- A packet, taken apart: its numbers, and its two rows of bytes. -/
structure Pk where
  kind : Int := 0
  life : Int := 0
  piece : Int := 0
  src : Int := 0
  dst : Int := 0
  fp : Int := 0
  tp : Int := 0
  flags : Int := 0
  label : Int := 0
  bare : Bool := false
  code : Int := 0
  no : Nat := 0
  go : Nat → Int := fun _ => 0
  nd : Nat := 0
  gd : Nat → Int := fun _ => 0
def pkL (p : Pk) (O D : Value) : List Value := [.int .i64 p.kind, .int .i64 p.life, .int .i64 p.piece, .int .i64 p.src, .int .i64 p.dst, .int .i64 p.fp, .int .i64 p.tp, .int .i64 p.flags, .int .i64 p.label, .bool p.bare, .int .i64 p.code, O, D]
def pkV (p : Pk) (O D : Value) : Value := .agg (pkL p O D).toArray
/-- What a packet that may be is taken apart to. -/
def parseP (g : Nat → Int) (n : Nat) : Pk :=
  if g 0 = 3 then { kind := g 0, life := g 1, piece := g 12, src := num g 4 4, dst := num g 8 4, code := g 16, nd := n - 20, gd := fun j => g (20 + j) }
  else if g 0 = 2 then { kind := g 0, life := g 1, piece := g 12, src := num g 4 4, dst := num g 8 4, fp := num g 16 2, tp := num g 18 2, label := num g 20 2, bare := num g 22 2 == 0, nd := n - 24, gd := fun j => g (24 + j) }
  else { kind := g 0, life := g 1, piece := g 12, src := num g 4 4, dst := num g 8 4, fp := num g 16 2, tp := num g 18 2, flags := g 20, no := (g 21).toNat, go := fun j => g (24 + j), nd := n - 24 - (g 21).toNat, gd := fun j => g (24 + (g 21).toNat + j) }
def parseR (g : Nat → Int) (n : Nat) : Pk := if parseE g n = 0 then parseP g n else {}
theorem then_ {W w1 w2 : World} (h : Below W.heap.size W w1) (hb : Below w1.heap.size w1 w2) : Below W.heap.size W w2 := h.trans (hb.mono h.size)
def Parsed (w : World) (g : Nat → Int) (n : Nat) (e : Ending) (w' : World) : Prop :=
  ∃ O D : Value, e = .returned (.tuple #[pkV (parseR g n) O D, .int .i64 (parseE g n)]) ∧ OB w' w.heap.size O (parseR g n).no (parseR g n).go ∧ OB w' w.heap.size D (parseR g n).nd (parseR g n).gd ∧ Below w.heap.size w w'
theorem OB.nil {w : World} {B : Nat} {g : Nat → Int} : OB w B (.slice none 0 0) 0 g := Ow.none_
theorem qs {P : Program} {F : FuncId} {args : Array Value} {w : World} {v : Value} (h : Calls P F args w fun e w' => e = .returned v ∧ w = w') : Calls P F args w fun e w' => e = .returned v ∧ w' = w := h.mono fun _ _ ⟨a, b⟩ => ⟨a, b.symm⟩
theorem bodyE_0 {g : Nat → Int} {n : Nat} (h : bodyE g n = 0) (hk : isK (g 0) = true) : 24 ≤ n ∧ (g 0 = 3 ∧ 44 ≤ n ∨ g 0 = 2 ∨ g 0 = 1 ∧ g 20 ≤ 15 ∧ g 21 ≤ 40 ∧ g 21 ≤ (n : Int) - 24) := by
  unfold isK at hk
  simp at hk
  unfold bodyE at h
  split at h
  · split at h
    · cases h
    · exact ⟨by omega, .inl ⟨by assumption, by omega⟩⟩
  · split at h
    · cases h
    · split at h
      · cases h
      · rename_i h3 h24 h5
        refine ⟨by omega, .inr ?_⟩
        by_cases h1 : g 0 = 1
        · refine .inr ⟨h1, ?_, ?_, ?_⟩ <;> (have := fun x => h5 ⟨h1, x⟩; omega)
        · exact .inl (by omega)
theorem OB.keep_ {w w' : World} {B n : Nat} {v : Value} {g : Nat → Int} (h : OB w B v n g) (hb : Below w.heap.size w w') : OB w' B v n g := Ow.keep h hb (Nat.le_refl _)
theorem pairn {w : World} {n c b off : Nat} {g : Nat → Int} (h : By w (some ⟨b, off, none⟩) n g) (hg : IsB g) (a : Nat) (ha : a + 2 ≤ n) (hc : n ≤ c) (hb : n ≤ 1000000) :
    Calls Try.prog 49 #[.slice (some ⟨b, off, none⟩) n c, .int .i64 a] w fun e w2 => e = .returned (.int .i64 (num g a 2)) ∧ w = w2 := by
  have := pair_any_ (some ⟨b, off, none⟩) n c g w h hg a (by omega) hc hb
  rw [show pairF g n a = num g a 2 from by unfold pairF; rw [if_neg (by omega)]] at this
  exact this
theorem grow_by {w w' : World} {n b off L : Nat} {g : Nat → Int} (h : By w (some ⟨b, off, none⟩) n g) (hg : w.grownBy w' (some L)) (hne : b ≠ L) : By w' (some ⟨b, off, none⟩) n g := by
  intro hn
  obtain ⟨b', off', e, hlt, hc⟩ := h hn
  injection e with e
  injection e with e1 e2
  subst e1; subst e2
  exact ⟨b, off, rfl, Nat.lt_of_lt_of_le hlt hg.size, fun j hj => (World.cell?_of_block (a := ⟨b, off + j, none⟩) (hg.block b hlt (fun e => hne (by injection e)))).trans (hc j hj)⟩
theorem num_at {w : World} {n b off : Nat} {g : Nat → Int} (h : By w (some ⟨b, off, none⟩) n g) (hg : IsB g) (a : Nat) (ha : a + 4 ≤ n) (c : Nat) :
    Calls Try.prog 47 #[.slice (some ⟨b, off + a, none⟩) 4 c] w fun e w2 => e = .returned (.int .i64 (num g a 4)) ∧ w = w2 := by
  have := number_any (some ⟨b, off + a, none⟩) 4 c (fun j => g (a + j)) w (Sl.cut h 4 ha) (fun j => hg _) (by omega)
  rw [num_shift] at this
  exact this
theorem Ce.drew_ {w : World} {b : Nat} {l : List Value} (h : Ce w b l) : Ce w.drew b l := h
theorem Ce.alloc {w : World} {b : Nat} {l : List Value} (h : Ce w b l) (o : Obj) : Ce (w.alloc o) b l := h.below ((Below.refl _ _).alloc (Nat.le_refl _) o)
set_option maxRecDepth 100000 in
set_option maxHeartbeats 8000000 in
theorem parse_any (A : Option Addr) (n c : Nat) (g : Nat → Int) (w : World) (h : By w A n g) (hg : IsB g) (hc : n ≤ c) (hb : n ≤ 1000000) :
    Calls Try.prog 19 #[.slice A n c] w (Parsed w g n) := by
  have hz : ∀ w : World, (zeroValue 26).run Try.prog w = .ok (.agg #[.int .i64 0, .int .i64 0, .int .i64 0, .int .i64 0, .int .i64 0, .int .i64 0, .int .i64 0, .int .i64 0, .int .i64 0, .bool false, .int .i64 0, .slice none 0 0, .slice none 0 0]) w := fun w => by kernel_rfl
  obtain ⟨he, hhe⟩ : ∃ z, z = headE g n := ⟨_, rfl⟩
  have HH := hid (fun w (h : By w A n g) => re_i64 (head_any A n c g w h hg hc hb) hhe.symm)
  by_cases h0 : he = 0
  · subst h0
    have hh := headE_0 hhe.symm
    obtain ⟨be, hbe⟩ : ∃ z, z = bodyE g n := ⟨_, rfl⟩
    have HB := hid (fun w (h : By w A n g) => re_i64 (body_any_ A n c g w h hg hh.1 hb) hbe.symm)
    have hE : parseE g n = be := by unfold parseE; rw [if_pos hhe.symm, hbe]
    by_cases b0 : be = 0
    · subst b0
      have HE := hid hE
      have hn16 := hh.1
      have hgb := bodyE_0 hbe.symm hh.2.1
      have CR := (Ce.made (w := w) (l := [.int .i64 0, .int .i64 0, .int .i64 0, .int .i64 0, .int .i64 0, .int .i64 0, .int .i64 0, .int .i64 0, .int .i64 0, .bool false, .int .i64 0, .slice none 0 0, .slice none 0 0]) (T := 26) rfl)
      have B1 := (Below.refl w.heap.size w).alloc (Nat.le_refl _) (.cells #[.int .i64 0, .int .i64 0, .int .i64 0, .int .i64 0, .int .i64 0, .int .i64 0, .int .i64 0, .int .i64 0, .int .i64 0, .bool false, .int .i64 0, .slice none 0 0, .slice none 0 0] 26)
      have HPR : Hid (parseR g n = parseP g n) := hid (by unfold parseR; rw [hE, if_pos rfl])
      replace CR := hid CR
      replace B1 := hid B1
      have h1 := hid (h.below B1.out (Nat.le_refl _))
      have HG := hid hg
      have HGB := hid hgb
      have H00 := hid h
      clear hhe hbe hh hE h hg hgb
      go_enter Try.func19, Try.ntmps19
      go_wp2_with fail
      refine (HH.out _ h1.out).mono ?_
      rintro x w' ⟨rfl, m, rfl⟩
      go_wp2_with fail
      refine (HB.out _ (Sl.drewN h1.out m)).mono ?_
      rintro x w' ⟨rfl, rfl⟩
      go_upto_region 7 with (fail)
      have CR2 := hid (Ce.below CR.out (below_drewN (Below.refl _ _) m))
      have B2 := hid (below_drewN B1.out m)
      have h2 := hid (Sl.drewN h1.out m)
      have lt2 := CR2.out.1
      clear CR B1 h1 HH HB
      simp only [List.toArray] at CR2
      generalize (w.alloc (.cells #[.int .i64 0, .int .i64 0, .int .i64 0, .int .i64 0, .int .i64 0, .int .i64 0, .int .i64 0, .int .i64 0, .int .i64 0, .bool false, .int .i64 0, .slice none 0 0, .slice none 0 0] 26)).drewN m = w1 at *
      obtain ⟨b, off, rfl, hblt, hcell⟩ := h2.out (by omega)
      have hbw : b < w.heap.size := Sl.lt H00.out (by omega)
      have c0 := hcell 0 (by omega)
      have c1 := hcell 1 (by omega)
      have c12 := hcell 12 (by omega)
      rw [Nat.add_zero] at c0
      have gb0 := HG.out 0
      have gb1 := HG.out 1
      have gb12 := HG.out 12
      obtain ⟨gb0a, gb0b⟩ := gb0
      obtain ⟨gb1a, gb1b⟩ := gb1
      obtain ⟨gb12a, gb12b⟩ := gb12
      have i1 : (12 : Int) < n := by omega
      have i2 : (1 : Int) < n := by omega
      have i3 : (0 : Int) < n := by omega
      have j3 : 0 < n := by omega
      have v0 : IntKind.i64.wrap (g 0) = g 0 := IntWalk.i64_in _ (by omega)
      have v1 : IntKind.i64.wrap (g 1) = g 1 := IntWalk.i64_in _ (by omega)
      have v2 : IntKind.i64.wrap (g 12) = g 12 := IntWalk.i64_in _ (by omega)
      have j2 : 1 < n := by omega
      have j1 : 12 < n := by omega
      have i4 : (8 : Int) ≤ c := by omega
      have i5 : (12 : Int) ≤ c := by omega
      have k4 : ¬ c = 4 := by omega
      have k8 : ¬ c = 8 := by omega
      clear hcell c0 c1 c12
      go_cut [6] from 20 (fun p wx => ∃ L : Nat, p = .pointer (some ⟨L, 0, none⟩) ∧ w.heap.size < L ∧ Ce wx L [.int .i64 (g 0), .int .i64 (g 1), .int .i64 (g 12), .int .i64 (num g 4 4), .int .i64 (num g 8 4), .int .i64 0, .int .i64 0, .int .i64 0, .int .i64 0, .bool false, .int .i64 0, .slice none 0 0, .slice none 0 0] ∧ By wx (some ⟨b, off, none⟩) n g ∧ Ce wx w.heap.size [.int .i64 0, .int .i64 0, .int .i64 0, .int .i64 0, .int .i64 0, .int .i64 0, .int .i64 0, .int .i64 0, .int .i64 0, .bool false, .int .i64 0, .slice none 0 0, .slice none 0 0] ∧ Below w.heap.size w wx)
      case first =>
       refine wp_region_held_drew (S := fun w' => By w' (some ⟨b, off, none⟩) n g ∧ Ce w' w.heap.size [.int .i64 0, .int .i64 0, .int .i64 0, .int .i64 0, .int .i64 0, .int .i64 0, .int .i64 0, .int .i64 0, .int .i64 0, .bool false, .int .i64 0, .slice none 0 0, .slice none 0 0] ∧ Below w.heap.size w w') (by kernel_rfl) ?_ (fun hHeld => ?_)
       · exact ⟨h2.out.drew, CR2.out, below_drewN B2.out 1⟩
       refine tk 0 (v := ?_) rfl (by kernel_rfl) (by kernel_rfl) (by kernel_rfl) (fun _ _ _ h => h) rfl ?_ (by assumption) ?_; rotate_left; (focus (intro w hSw; (try dsimp only at hSw);  go_simp; (try with_reducible rfl))); (try simp only [Act.put, List.setIfInBounds_toArray, List.set_cons_zero, List.set_cons_succ])
       refine tk 1 (v := ?_) rfl (by kernel_rfl) (by kernel_rfl) (by kernel_rfl) (fun _ _ _ h => h) rfl ?_ (by assumption) ?_; rotate_left; (focus (intro w hSw; (try dsimp only at hSw);  go_simp; (try with_reducible rfl))); (try simp only [Act.put, List.setIfInBounds_toArray, List.set_cons_zero, List.set_cons_succ])
       refine tk 2 (v := ?_) rfl (by kernel_rfl) (by kernel_rfl) (by kernel_rfl) (fun _ _ _ h => h) rfl ?_ (by assumption) ?_; rotate_left; (focus (intro w hSw; (try dsimp only at hSw); obtain ⟨hA, hC, hB⟩ := hSw; have z0 := hA.at_ (j := 0) (by omega); have z1 := hA.at_ (j := 1) (by omega); have z12 := hA.at_ (j := 12) (by omega); rw [Nat.add_zero] at z0; go_simp; (try with_reducible rfl))); (try simp only [Act.put, List.setIfInBounds_toArray, List.set_cons_zero, List.set_cons_succ])
       refine tk 3 (v := ?_) rfl (by kernel_rfl) (by kernel_rfl) (by kernel_rfl) (fun _ _ _ h => h) rfl ?_ (by assumption) ?_; rotate_left; (focus (intro w hSw; (try dsimp only at hSw);  go_simp; (try with_reducible rfl))); (try simp only [Act.put, List.setIfInBounds_toArray, List.set_cons_zero, List.set_cons_succ])
       refine tk 4 (v := ?_) rfl (by kernel_rfl) (by kernel_rfl) (by kernel_rfl) (fun _ _ _ h => h) rfl ?_ (by assumption) ?_; rotate_left; (focus (intro w hSw; (try dsimp only at hSw);  go_simp; (try with_reducible rfl))); (try simp only [Act.put, List.setIfInBounds_toArray, List.set_cons_zero, List.set_cons_succ])
       refine tk 5 (v := ?_) rfl (by kernel_rfl) (by kernel_rfl) (by kernel_rfl) (fun _ _ _ h => h) rfl ?_ (by assumption) ?_; rotate_left; (focus (intro w hSw; (try dsimp only at hSw);  go_simp; (try with_reducible rfl))); (try simp only [Act.put, List.setIfInBounds_toArray, List.set_cons_zero, List.set_cons_succ])
       refine tk 6 (v := ?_) rfl (by kernel_rfl) (by kernel_rfl) (by kernel_rfl) (fun _ _ _ h => h) rfl ?_ (by assumption) ?_; rotate_left; (focus (intro w hSw; (try dsimp only at hSw); obtain ⟨hA, hC, hB⟩ := hSw; have z0 := hA.at_ (j := 0) (by omega); have z1 := hA.at_ (j := 1) (by omega); have z12 := hA.at_ (j := 12) (by omega); rw [Nat.add_zero] at z0; go_simp; (try with_reducible rfl))); (try simp only [Act.put, List.setIfInBounds_toArray, List.set_cons_zero, List.set_cons_succ])
       refine tk 7 (v := ?_) rfl (by kernel_rfl) (by kernel_rfl) (by kernel_rfl) (fun _ _ _ h => h) rfl ?_ (by assumption) ?_; rotate_left; (focus (intro w hSw; (try dsimp only at hSw);  go_simp; (try with_reducible rfl))); (try simp only [Act.put, List.setIfInBounds_toArray, List.set_cons_zero, List.set_cons_succ])
       refine tk 8 (v := ?_) rfl (by kernel_rfl) (by kernel_rfl) (by kernel_rfl) (fun _ _ _ h => h) rfl ?_ (by assumption) ?_; rotate_left; (focus (intro w hSw; (try dsimp only at hSw);  go_simp; (try with_reducible rfl))); (try simp only [Act.put, List.setIfInBounds_toArray, List.set_cons_zero, List.set_cons_succ])
       refine tk 9 (v := ?_) rfl (by kernel_rfl) (by kernel_rfl) (by kernel_rfl) (fun _ _ _ h => h) rfl ?_ (by assumption) ?_; rotate_left; (focus (intro w hSw; (try dsimp only at hSw);  go_simp; (try with_reducible rfl))); (try simp only [Act.put, List.setIfInBounds_toArray, List.set_cons_zero, List.set_cons_succ])
       refine tk 10 (v := ?_) rfl (by kernel_rfl) (by kernel_rfl) (by kernel_rfl) (fun _ _ _ h => h) rfl ?_ (by assumption) ?_; rotate_left; (focus (intro w hSw; (try dsimp only at hSw); obtain ⟨hA, hC, hB⟩ := hSw; have z0 := hA.at_ (j := 0) (by omega); have z1 := hA.at_ (j := 1) (by omega); have z12 := hA.at_ (j := 12) (by omega); rw [Nat.add_zero] at z0; go_simp; (try with_reducible rfl))); (try simp only [Act.put, List.setIfInBounds_toArray, List.set_cons_zero, List.set_cons_succ])
       refine tk 11 (v := ?_) rfl (by kernel_rfl) (by kernel_rfl) (by kernel_rfl) (fun _ _ _ h => h) rfl ?_ (by assumption) ?_; rotate_left; (focus (intro w hSw; (try dsimp only at hSw);  go_simp; (try with_reducible rfl))); (try simp only [Act.put, List.setIfInBounds_toArray, List.set_cons_zero, List.set_cons_succ])
       refine tk 12 (v := ?_) rfl (by kernel_rfl) (by kernel_rfl) (by kernel_rfl) (fun _ _ _ h => h) rfl ?_ (by assumption) ?_; rotate_left; (focus (intro w hSw; (try dsimp only at hSw);  go_simp; (try with_reducible rfl))); (try simp only [Act.put, List.setIfInBounds_toArray, List.set_cons_zero, List.set_cons_succ])
       refine tk 13 (v := ?_) rfl (by kernel_rfl) (by kernel_rfl) (by kernel_rfl) (fun _ _ _ h => h) rfl ?_ (by assumption) ?_; rotate_left; (focus (intro w hSw; (try dsimp only at hSw);  go_simp; (try with_reducible rfl))); (try simp only [Act.put, List.setIfInBounds_toArray, List.set_cons_zero, List.set_cons_succ])
       refine tk 15 (v := ?_) rfl (by kernel_rfl) (by kernel_rfl) (by kernel_rfl) (fun _ _ _ h => h) rfl ?_ (by assumption) ?_; rotate_left; (focus (intro w hSw; (try dsimp only at hSw);  go_simp; (try with_reducible rfl))); (try simp only [Act.put, List.setIfInBounds_toArray, List.set_cons_zero, List.set_cons_succ])
       refine tk 16 (v := ?_) rfl (by kernel_rfl) (by kernel_rfl) (by kernel_rfl) (fun _ _ _ h => h) rfl ?_ (by assumption) ?_; rotate_left; (focus (intro w hSw; (try dsimp only at hSw);  go_simp; (try with_reducible rfl))); (try simp only [Act.put, List.setIfInBounds_toArray, List.set_cons_zero, List.set_cons_succ])
       refine twoUp 14 19 rfl rfl (by kernel_rfl) rfl rfl (fun K hK => ?_) (fun K hK => ?_)
       · go_simp
         refine (num_at hHeld.1 HG.out 4 (by omega) _).mono ?_
         rintro e' w' ⟨rfl, rfl⟩
         try go_wp2_with fail
         refine hK.out _ _ hHeld (fun _ => ?_)
         clear hK
         try simp only [Act.put, List.setIfInBounds_toArray, List.set_cons_zero, List.set_cons_succ]
         refine twoUp 17 19 rfl rfl (by kernel_rfl) rfl rfl (fun K hK => ?_) (fun K hK => ?_)
         · go_simp
           refine (num_at hHeld.1 HG.out 8 (by omega) _).mono ?_
           rintro e' w' ⟨rfl, rfl⟩
           try go_wp2_with fail
           refine hK.out _ _ hHeld (fun _ => ?_)
           clear hK
           try simp only [Act.put, List.setIfInBounds_toArray, List.set_cons_zero, List.set_cons_succ]
           refine tk 18 (v := ?_) rfl (by kernel_rfl) (by kernel_rfl) (by kernel_rfl) (fun _ _ _ h => h) rfl ?_ (by assumption) ?_; rotate_left; (focus (intro w hSw; (try dsimp only at hSw);  go_simp; (try with_reducible rfl))); (try simp only [Act.put, List.setIfInBounds_toArray, List.set_cons_zero, List.set_cons_succ])
           refine only 19 rfl (by kernel_rfl) rfl (fun K hK => ?_)
           go_simp
           refine hK.out _ _ ⟨hHeld.1.alloc _, hHeld.2.1.alloc _, hHeld.2.2.alloc hHeld.2.2.size _⟩ (fun hHeld2 => ?_)
           clear hK
           try simp only [Act.put, List.setIfInBounds_toArray, List.set_cons_zero, List.set_cons_succ]
           refine only 20 rfl (by kernel_rfl) rfl (fun K hK => ?_)
           go_simp
           refine hK.out _ _ ⟨hHeld.1.alloc _, hHeld.2.1.alloc _, hHeld.2.2.alloc hHeld.2.2.size _⟩ (fun _ => ?_)
           clear hK
           try simp only [Act.put, List.setIfInBounds_toArray, List.set_cons_zero, List.set_cons_succ]
           refine wpAnyH_done (by kernel_rfl) ?_ _
           go_wp2_with fail
           go_meet
           exact ⟨_, rfl, lt2, (Ce.made (w := w1) (l := [.int .i64 (g 0), .int .i64 (g 1), .int .i64 (g 12), .int .i64 (num g 4 4), .int .i64 (num g 8 4), .int .i64 0, .int .i64 0, .int .i64 0, .int .i64 0, .bool false, .int .i64 0, .slice none 0 0, .slice none 0 0]) rfl).drew_, (h2.out.alloc _).drew, (CR2.out.alloc _).drew_, (B2.out.alloc B2.out.size _).drew⟩
         · go_simp
           refine hK.out _ _ ⟨hHeld.1.alloc _, hHeld.2.1.alloc _, hHeld.2.2.alloc hHeld.2.2.size _⟩ (fun hHeld2 => ?_)
           clear hK
           try simp only [Act.put, List.setIfInBounds_toArray, List.set_cons_zero, List.set_cons_succ]
           refine only 17 rfl (by kernel_rfl) rfl (fun K hK => ?_)
           go_simp
           refine (num_at hHeld2.1 HG.out 8 (by omega) _).mono ?_
           rintro e' w' ⟨rfl, rfl⟩
           try go_wp2_with fail
           refine hK.out _ _ hHeld2 (fun _ => ?_)
           clear hK
           try simp only [Act.put, List.setIfInBounds_toArray, List.set_cons_zero, List.set_cons_succ]
           refine tk 18 (v := ?_) rfl (by kernel_rfl) (by kernel_rfl) (by kernel_rfl) (fun _ _ _ h => h) rfl ?_ (by assumption) ?_; rotate_left; (focus (intro w hSw; (try dsimp only at hSw);  go_simp; (try with_reducible rfl))); (try simp only [Act.put, List.setIfInBounds_toArray, List.set_cons_zero, List.set_cons_succ])
           refine only 20 rfl (by kernel_rfl) rfl (fun K hK => ?_)
           go_simp
           refine hK.out _ _ ⟨hHeld.1.alloc _, hHeld.2.1.alloc _, hHeld.2.2.alloc hHeld.2.2.size _⟩ (fun _ => ?_)
           clear hK
           try simp only [Act.put, List.setIfInBounds_toArray, List.set_cons_zero, List.set_cons_succ]
           refine wpAnyH_done (by kernel_rfl) ?_ _
           go_wp2_with fail
           go_meet
           exact ⟨_, rfl, lt2, (Ce.made (w := w1) (l := [.int .i64 (g 0), .int .i64 (g 1), .int .i64 (g 12), .int .i64 (num g 4 4), .int .i64 (num g 8 4), .int .i64 0, .int .i64 0, .int .i64 0, .int .i64 0, .bool false, .int .i64 0, .slice none 0 0, .slice none 0 0]) rfl).drew_, (h2.out.alloc _).drew, (CR2.out.alloc _).drew_, (B2.out.alloc B2.out.size _).drew⟩
       · go_simp
         refine hK.out _ _ ⟨hHeld.1.alloc _, hHeld.2.1.alloc _, hHeld.2.2.alloc hHeld.2.2.size _⟩ (fun hHeld2 => ?_)
         clear hK
         try simp only [Act.put, List.setIfInBounds_toArray, List.set_cons_zero, List.set_cons_succ]
         refine only 14 rfl (by kernel_rfl) rfl (fun K hK => ?_)
         go_simp
         refine (num_at hHeld2.1 HG.out 4 (by omega) _).mono ?_
         rintro e' w' ⟨rfl, rfl⟩
         try go_wp2_with fail
         refine hK.out _ _ hHeld2 (fun _ => ?_)
         clear hK
         try simp only [Act.put, List.setIfInBounds_toArray, List.set_cons_zero, List.set_cons_succ]
         refine only 17 rfl (by kernel_rfl) rfl (fun K hK => ?_)
         go_simp
         refine (num_at hHeld2.1 HG.out 8 (by omega) _).mono ?_
         rintro e' w' ⟨rfl, rfl⟩
         try go_wp2_with fail
         refine hK.out _ _ hHeld2 (fun _ => ?_)
         clear hK
         try simp only [Act.put, List.setIfInBounds_toArray, List.set_cons_zero, List.set_cons_succ]
         refine tk 18 (v := ?_) rfl (by kernel_rfl) (by kernel_rfl) (by kernel_rfl) (fun _ _ _ h => h) rfl ?_ (by assumption) ?_; rotate_left; (focus (intro w hSw; (try dsimp only at hSw);  go_simp; (try with_reducible rfl))); (try simp only [Act.put, List.setIfInBounds_toArray, List.set_cons_zero, List.set_cons_succ])
         refine only 20 rfl (by kernel_rfl) rfl (fun K hK => ?_)
         go_simp
         refine hK.out _ _ ⟨hHeld.1.alloc _, hHeld.2.1.alloc _, hHeld.2.2.alloc hHeld.2.2.size _⟩ (fun _ => ?_)
         clear hK
         try simp only [Act.put, List.setIfInBounds_toArray, List.set_cons_zero, List.set_cons_succ]
         refine wpAnyH_done (by kernel_rfl) ?_ _
         go_wp2_with fail
         go_meet
         exact ⟨_, rfl, lt2, (Ce.made (w := w1) (l := [.int .i64 (g 0), .int .i64 (g 1), .int .i64 (g 12), .int .i64 (num g 4 4), .int .i64 (num g 8 4), .int .i64 0, .int .i64 0, .int .i64 0, .int .i64 0, .bool false, .int .i64 0, .slice none 0 0, .slice none 0 0]) rfl).drew_, (h2.out.alloc _).drew, (CR2.out.alloc _).drew_, (B2.out.alloc B2.out.size _).drew⟩
      case rest =>
        obtain ⟨L, rfl, hL, hCL, hA, hCR, hB⟩ := hcut
        replace hCL := hid hCL
        replace hCR := hid hCR
        replace hA := hid hA
        replace hB := hid hB
        have HLR : L ≠ w.heap.size := Nat.ne_of_gt hL
        have HRL : w.heap.size ≠ L := Nat.ne_of_lt hL
        have hBlt : b ≠ L := by omega
        have hBR : b ≠ w.heap.size := by omega
        clear CR2 B2 h2 lt2 H00
        rcases HGB.out.2 with ⟨k3, hn44⟩ | k2 | ⟨k1, k20, k21, k24⟩
        · have q0 : (g 0 == 3) = true := by simpa using k3
          have HP3 : Hid (parseR g n = { kind := g 0, life := g 1, piece := g 12, src := num g 4 4, dst := num g 8 4, code := g 16, nd := n - 20, gd := fun j => g (20 + j) }) := hid (by rw [HPR.out]; unfold parseP; rw [if_pos k3])
          clear k3
          have gb16 := HG.out 16
          obtain ⟨gb16a, gb16b⟩ := gb16
          have c16 := hA.out.at_ (j := 16) (by omega)
          have i16 : (16 : Int) < n := by omega
          have i20 : (20 : Int) ≤ n := by omega
          have k20 : ¬ c = 20 := by omega
          have y0 := hCL.out.2.1 0 _ rfl
          have y1 := hCL.out.2.1 1 _ rfl
          have y2 := hCL.out.2.1 2 _ rfl
          have y3 := hCL.out.2.1 3 _ rfl
          have y4 := hCL.out.2.1 4 _ rfl
          have y5 := hCL.out.2.1 5 _ rfl
          have y6 := hCL.out.2.1 6 _ rfl
          have y7 := hCL.out.2.1 7 _ rfl
          have y8 := hCL.out.2.1 8 _ rfl
          have y9 := hCL.out.2.1 9 _ rfl
          have y10 := hCL.out.2.1 10 _ rfl
          have y11 := hCL.out.2.1 11 _ rfl
          have y12 := hCL.out.2.1 12 _ rfl
          have yf := hCL.out.2.2
          have HCL2 := fun v => hid (hCL.out.set 10 (.int .i64 v) (by simp))
          have HCR2 := fun v => hid (hCR.out.grown (gs 10 (.int .i64 v) (World.grownBy.refl wc (some L))) (fun e => HLR (by injection e)))
          have HA2 := fun v => hid (grow_by hA.out (gs 10 (.int .i64 v) (World.grownBy.refl wc (some L))) hBlt)
          go_wp2_with fail
          refine (clone_any _ (n - 20) _ (fun j => g (20 + j)) _ (Sl.cut (HA2 (g 16)).out (n - 20) (by omega)) (by omega)).mono ?_
          rintro x w2 ⟨G, rfl, hG, hO, hb⟩
          have hG2 : wc.heap.size ≤ G := by simpa using hG
          have hLc := hCL.out.1
          have HCL3 := hid ((HCL2 (g 16)).out.below hb)
          have HCR3 := hid ((HCR2 (g 16)).out.below hb)
          have HB3 := hid (then_ (hB.out.setCell (p := ⟨L, 10, none⟩) (Nat.le_of_lt hL) (.int .i64 (g 16))) hb)
          have HO3 := hid (OB.base hO (show wc.heap.size ≤ _ by simp))
          clear HCL2 HCR2 HA2 hb hO hG c16
          clear y0 y1 y2 y3 y4 y5 y6 y7 y8 y9 y10 y11 y12 yf
          have y0 := HCL3.out.2.1 0 _ rfl
          have y1 := HCL3.out.2.1 1 _ rfl
          have y2 := HCL3.out.2.1 2 _ rfl
          have y3 := HCL3.out.2.1 3 _ rfl
          have y4 := HCL3.out.2.1 4 _ rfl
          have y5 := HCL3.out.2.1 5 _ rfl
          have y6 := HCL3.out.2.1 6 _ rfl
          have y7 := HCL3.out.2.1 7 _ rfl
          have y8 := HCL3.out.2.1 8 _ rfl
          have y9 := HCL3.out.2.1 9 _ rfl
          have y10 := HCL3.out.2.1 10 _ rfl
          have y11 := HCL3.out.2.1 11 _ rfl
          have y12 := HCL3.out.2.1 12 _ rfl
          have yf := HCL3.out.2.2
          have z0 := HCR3.out.2.1 0 _ rfl
          have z1 := HCR3.out.2.1 1 _ rfl
          have z2 := HCR3.out.2.1 2 _ rfl
          have z3 := HCR3.out.2.1 3 _ rfl
          have z4 := HCR3.out.2.1 4 _ rfl
          have z5 := HCR3.out.2.1 5 _ rfl
          have z6 := HCR3.out.2.1 6 _ rfl
          have z7 := HCR3.out.2.1 7 _ rfl
          have z8 := HCR3.out.2.1 8 _ rfl
          have z9 := HCR3.out.2.1 9 _ rfl
          have z10 := HCR3.out.2.1 10 _ rfl
          have z11 := HCR3.out.2.1 11 _ rfl
          have z12 := HCR3.out.2.1 12 _ rfl
          have zf := HCR3.out.2.2
          have yl := HCL3.out.1
          have zl := HCR3.out.1
          go_wp2_with fail
          have CE := (HCR3.out.grown (gs 12 (.slice (some ⟨G, 0, none⟩) (n - 20) (n - 20)) (World.grownBy.refl w2 (some L))) (fun e => HLR (by injection e))).s13 (.int .i64 (g 0)) (.int .i64 (g 1)) (.int .i64 (g 12)) (.int .i64 (num g 4 4)) (.int .i64 (num g 8 4)) (.int .i64 0) (.int .i64 0) (.int .i64 0) (.int .i64 0) (.bool false) (.int .i64 (g 16)) (.slice none 0 0) (.slice (some ⟨G, 0, none⟩) (n - 20) (n - 20))
          have BE := below_s13 (b := w.heap.size) (HB3.out.setCell (p := ⟨L, 12, none⟩) (Nat.le_of_lt hL) (.slice (some ⟨G, 0, none⟩) (n - 20) (n - 20))) (Nat.le_refl _) (.int .i64 (g 0)) (.int .i64 (g 1)) (.int .i64 (g 12)) (.int .i64 (num g 4 4)) (.int .i64 (num g 8 4)) (.int .i64 0) (.int .i64 0) (.int .i64 0) (.int .i64 0) (.bool false) (.int .i64 (g 16)) (.slice none 0 0) (.slice (some ⟨G, 0, none⟩) (n - 20) (n - 20))
          have OE0 := OB.grown (OB.grown HO3.out (gs 12 (.slice (some ⟨G, 0, none⟩) (n - 20) (n - 20)) (World.grownBy.refl w2 (some L))) (OB.ne HO3.out hLc)) (grown_s13 _ w.heap.size (.int .i64 (g 0)) (.int .i64 (g 1)) (.int .i64 (g 12)) (.int .i64 (num g 4 4)) (.int .i64 (num g 8 4)) (.int .i64 0) (.int .i64 0) (.int .i64 0) (.int .i64 0) (.bool false) (.int .i64 (g 16)) (.slice none 0 0) (.slice (some ⟨G, 0, none⟩) (n - 20) (n - 20))) (OB.ne (OB.grown HO3.out (gs 12 (.slice (some ⟨G, 0, none⟩) (n - 20) (n - 20)) (World.grownBy.refl w2 (some L))) (OB.ne HO3.out hLc)) (by omega))
          unfold S13 at CE BE OE0
          replace CE := hid CE
          replace BE := hid BE
          replace OE0 := hid OE0
          refine at_world (fun w' => Ce w' w.heap.size [.int .i64 (g 0), .int .i64 (g 1), .int .i64 (g 12), .int .i64 (num g 4 4), .int .i64 (num g 8 4), .int .i64 0, .int .i64 0, .int .i64 0, .int .i64 0, .bool false, .int .i64 (g 16), .slice none 0 0, .slice (some ⟨G, 0, none⟩) (n - 20) (n - 20)] ∧ Below w.heap.size w w' ∧ OB w' wc.heap.size (.slice (some ⟨G, 0, none⟩) (n - 20) (n - 20)) (n - 20) (fun j => g (20 + j))) ⟨CE.out, BE.out, OE0.out⟩ (fun wf hwf => ?_)
          obtain ⟨hc2, hbf, ho0⟩ := hwf
          have y0 := hc2.2.1 0 _ rfl
          have y1 := hc2.2.1 1 _ rfl
          have y2 := hc2.2.1 2 _ rfl
          have y3 := hc2.2.1 3 _ rfl
          have y4 := hc2.2.1 4 _ rfl
          have y5 := hc2.2.1 5 _ rfl
          have y6 := hc2.2.1 6 _ rfl
          have y7 := hc2.2.1 7 _ rfl
          have y8 := hc2.2.1 8 _ rfl
          have y9 := hc2.2.1 9 _ rfl
          have y10 := hc2.2.1 10 _ rfl
          have y11 := hc2.2.1 11 _ rfl
          have y12 := hc2.2.1 12 _ rfl
          refine bodyPost_ret (v := .tuple #[.agg #[.int .i64 (g 0), .int .i64 (g 1), .int .i64 (g 12), .int .i64 (num g 4 4), .int .i64 (num g 8 4), .int .i64 0, .int .i64 0, .int .i64 0, .int .i64 0, .bool false, .int .i64 (g 16), .slice none 0 0, .slice (some ⟨G, 0, none⟩) (n - 20) (n - 20)], .int .i64 0]) (by simp [results, Try.results19, go_sem, y0, y1, y2, y3, y4, y5, y6, y7, y8, y9, y10, y11, y12]) rfl ?_
          refine ⟨.slice none 0 0, (.slice (some ⟨G, 0, none⟩) (n - 20) (n - 20)), by rw [HP3.out, HE.out]; rfl, by rw [HP3.out]; exact OB.nil, by rw [HP3.out]; exact OB.base ho0 (by omega), hbf⟩
        · have q0 : (g 0 == 3) = false := by rw [k2]; rfl
          have q1 : (g 0 == 2) = true := by simpa using k2
          have HP2 : Hid (parseR g n = { kind := g 0, life := g 1, piece := g 12, src := num g 4 4, dst := num g 8 4, fp := num g 16 2, tp := num g 18 2, label := num g 20 2, bare := num g 22 2 == 0, nd := n - 24, gd := fun j => g (24 + j) }) := hid (by rw [HPR.out]; unfold parseP; rw [if_neg (by omega), if_pos k2])
          have HBF : Hid (bareF g = (num g 22 2 == 0)) := hid (by unfold bareF; rw [show (g 0 == 2) = true from by simpa using k2, Bool.true_and])
          have n24 := HGB.out.1
          clear k2
          obtain ⟨A9, r1, r2⟩ := cut_from_b (some ⟨b, off, none⟩) n c 24 n24 hc 24 rfl
          replace r2 := hid r2
          have PP := hid (fun (w' : World) (hw : By w' (some ⟨b, off, none⟩) n g) (a : Nat) (ha : a + 2 ≤ n) => pairn hw HG.out a ha hc hb)
          have i24 : (24 : Int) ≤ n := by omega
          have y0 := hCL.out.2.1 0 _ rfl
          have y1 := hCL.out.2.1 1 _ rfl
          have y2 := hCL.out.2.1 2 _ rfl
          have y3 := hCL.out.2.1 3 _ rfl
          have y4 := hCL.out.2.1 4 _ rfl
          have y5 := hCL.out.2.1 5 _ rfl
          have y6 := hCL.out.2.1 6 _ rfl
          have y7 := hCL.out.2.1 7 _ rfl
          have y8 := hCL.out.2.1 8 _ rfl
          have y9 := hCL.out.2.1 9 _ rfl
          have y10 := hCL.out.2.1 10 _ rfl
          have y11 := hCL.out.2.1 11 _ rfl
          have y12 := hCL.out.2.1 12 _ rfl
          have yf := hCL.out.2.2
          have yl := hCL.out.1
          go_wp2_with fail
          refine (PP.out _ hA.out 16 (by omega)).mono ?_
          rintro x w' ⟨rfl, rfl⟩
          go_wp2_with fail
          refine (PP.out _ hA.out 18 (by omega)).mono ?_
          rintro x w' ⟨rfl, rfl⟩
          have C2 := hid (((hCL.out).set 5 (.int .i64 (num g 16 2)) (by simp)).set 6 (.int .i64 (num g 18 2)) (by simp))
          have R2 := hid (hCR.out.grown (gs 6 (.int .i64 (num g 18 2)) (gs 5 (.int .i64 (num g 16 2)) (World.grownBy.refl wc (some L)))) (fun e => HLR (by injection e)))
          have A2 := hid (grow_by hA.out (gs 6 (.int .i64 (num g 18 2)) (gs 5 (.int .i64 (num g 16 2)) (World.grownBy.refl wc (some L)))) hBlt)
          have D2 := hid (((hB.out).setCell (p := ⟨L, 5, none⟩) (Nat.le_of_lt hL) (.int .i64 (num g 16 2))).setCell (p := ⟨L, 6, none⟩) (Nat.le_of_lt hL) (.int .i64 (num g 18 2)))
          have l2 := C2.out.1
          go_wp2_with fail
          refine (PP.out _ A2.out 20 (by omega)).mono ?_
          rintro x w' ⟨rfl, rfl⟩
          go_wp2_with fail
          refine (re_bool (isbare_any _ n c g _ A2.out HG.out (by omega) (.inr n24) hc hb) HBF.out).mono ?_
          rintro x w' ⟨rfl, rfl⟩
          have C3 := hid (((C2.out).set 8 (.int .i64 (num g 20 2)) (by simp)).set 9 (.bool (num g 22 2 == 0)) (by simp))
          have R3 := hid (R2.out.grown (gs 9 (.bool (num g 22 2 == 0)) (gs 8 (.int .i64 (num g 20 2)) (World.grownBy.refl ((wc.setCell ⟨L, 5, none⟩ (.int .i64 (num g 16 2))).setCell ⟨L, 6, none⟩ (.int .i64 (num g 18 2))) (some L)))) (fun e => HLR (by injection e)))
          have A3 := hid (grow_by A2.out (gs 9 (.bool (num g 22 2 == 0)) (gs 8 (.int .i64 (num g 20 2)) (World.grownBy.refl ((wc.setCell ⟨L, 5, none⟩ (.int .i64 (num g 16 2))).setCell ⟨L, 6, none⟩ (.int .i64 (num g 18 2))) (some L)))) hBlt)
          have D3 := hid (((D2.out).setCell (p := ⟨L, 8, none⟩) (Nat.le_of_lt hL) (.int .i64 (num g 20 2))).setCell (p := ⟨L, 9, none⟩) (Nat.le_of_lt hL) (.bool (num g 22 2 == 0)))
          go_wp2_with fail
          refine (clone_any _ (n - 24) _ (fun j => g (24 + j)) _ (r2.out _ g A3.out) (by omega)).mono ?_
          rintro x w4 ⟨G, rfl, hG, hO, hb_⟩
          have hG2 : wc.heap.size ≤ G := by simpa using hG
          have hLc := hCL.out.1
          have C4 := hid (C3.out.below hb_)
          have R4 := hid (R3.out.below hb_)
          have D4 := hid (then_ D3.out hb_)
          have O4 := hid (OB.base hO (show wc.heap.size ≤ _ by simp))
          clear C2 R2 A2 D2 C3 R3 A3 D3 hb_ hO hG PP
          clear y0 y1 y2 y3 y4 y5 y6 y7 y8 y9 y10 y11 y12 yf
          have y0 := C4.out.2.1 0 _ rfl
          have y1 := C4.out.2.1 1 _ rfl
          have y2 := C4.out.2.1 2 _ rfl
          have y3 := C4.out.2.1 3 _ rfl
          have y4 := C4.out.2.1 4 _ rfl
          have y5 := C4.out.2.1 5 _ rfl
          have y6 := C4.out.2.1 6 _ rfl
          have y7 := C4.out.2.1 7 _ rfl
          have y8 := C4.out.2.1 8 _ rfl
          have y9 := C4.out.2.1 9 _ rfl
          have y10 := C4.out.2.1 10 _ rfl
          have y11 := C4.out.2.1 11 _ rfl
          have y12 := C4.out.2.1 12 _ rfl
          have yf := C4.out.2.2
          have z0 := R4.out.2.1 0 _ rfl
          have z1 := R4.out.2.1 1 _ rfl
          have z2 := R4.out.2.1 2 _ rfl
          have z3 := R4.out.2.1 3 _ rfl
          have z4 := R4.out.2.1 4 _ rfl
          have z5 := R4.out.2.1 5 _ rfl
          have z6 := R4.out.2.1 6 _ rfl
          have z7 := R4.out.2.1 7 _ rfl
          have z8 := R4.out.2.1 8 _ rfl
          have z9 := R4.out.2.1 9 _ rfl
          have z10 := R4.out.2.1 10 _ rfl
          have z11 := R4.out.2.1 11 _ rfl
          have z12 := R4.out.2.1 12 _ rfl
          have zf := R4.out.2.2
          have yl2 := C4.out.1
          have zl := R4.out.1
          go_wp2_with fail
          have CE := (R4.out.grown (gs 12 (.slice (some ⟨G, 0, none⟩) (n - 24) (n - 24)) (World.grownBy.refl w4 (some L))) (fun e => HLR (by injection e))).s13 (.int .i64 (g 0)) (.int .i64 (g 1)) (.int .i64 (g 12)) (.int .i64 (num g 4 4)) (.int .i64 (num g 8 4)) (.int .i64 (num g 16 2)) (.int .i64 (num g 18 2)) (.int .i64 0) (.int .i64 (num g 20 2)) (.bool (num g 22 2 == 0)) (.int .i64 0) (.slice none 0 0) (.slice (some ⟨G, 0, none⟩) (n - 24) (n - 24))
          have BE := below_s13 (b := w.heap.size) (D4.out.setCell (p := ⟨L, 12, none⟩) (Nat.le_of_lt hL) (.slice (some ⟨G, 0, none⟩) (n - 24) (n - 24))) (Nat.le_refl _) (.int .i64 (g 0)) (.int .i64 (g 1)) (.int .i64 (g 12)) (.int .i64 (num g 4 4)) (.int .i64 (num g 8 4)) (.int .i64 (num g 16 2)) (.int .i64 (num g 18 2)) (.int .i64 0) (.int .i64 (num g 20 2)) (.bool (num g 22 2 == 0)) (.int .i64 0) (.slice none 0 0) (.slice (some ⟨G, 0, none⟩) (n - 24) (n - 24))
          have OE0 := OB.grown (OB.grown O4.out (gs 12 (.slice (some ⟨G, 0, none⟩) (n - 24) (n - 24)) (World.grownBy.refl w4 (some L))) (OB.ne O4.out hLc)) (grown_s13 _ w.heap.size (.int .i64 (g 0)) (.int .i64 (g 1)) (.int .i64 (g 12)) (.int .i64 (num g 4 4)) (.int .i64 (num g 8 4)) (.int .i64 (num g 16 2)) (.int .i64 (num g 18 2)) (.int .i64 0) (.int .i64 (num g 20 2)) (.bool (num g 22 2 == 0)) (.int .i64 0) (.slice none 0 0) (.slice (some ⟨G, 0, none⟩) (n - 24) (n - 24))) (OB.ne (OB.grown O4.out (gs 12 (.slice (some ⟨G, 0, none⟩) (n - 24) (n - 24)) (World.grownBy.refl w4 (some L))) (OB.ne O4.out hLc)) (by omega))
          unfold S13 at CE BE OE0
          replace CE := hid CE
          replace BE := hid BE
          replace OE0 := hid OE0
          refine at_world (fun w' => Ce w' w.heap.size [.int .i64 (g 0), .int .i64 (g 1), .int .i64 (g 12), .int .i64 (num g 4 4), .int .i64 (num g 8 4), .int .i64 (num g 16 2), .int .i64 (num g 18 2), .int .i64 0, .int .i64 (num g 20 2), .bool (num g 22 2 == 0), .int .i64 0, .slice none 0 0, .slice (some ⟨G, 0, none⟩) (n - 24) (n - 24)] ∧ Below w.heap.size w w' ∧ OB w' wc.heap.size (.slice (some ⟨G, 0, none⟩) (n - 24) (n - 24)) (n - 24) (fun j => g (24 + j))) ⟨CE.out, BE.out, OE0.out⟩ (fun wf hwf => ?_)
          obtain ⟨hc2, hbf, ho0⟩ := hwf
          have y0 := hc2.2.1 0 _ rfl
          have y1 := hc2.2.1 1 _ rfl
          have y2 := hc2.2.1 2 _ rfl
          have y3 := hc2.2.1 3 _ rfl
          have y4 := hc2.2.1 4 _ rfl
          have y5 := hc2.2.1 5 _ rfl
          have y6 := hc2.2.1 6 _ rfl
          have y7 := hc2.2.1 7 _ rfl
          have y8 := hc2.2.1 8 _ rfl
          have y9 := hc2.2.1 9 _ rfl
          have y10 := hc2.2.1 10 _ rfl
          have y11 := hc2.2.1 11 _ rfl
          have y12 := hc2.2.1 12 _ rfl
          refine bodyPost_ret (v := .tuple #[.agg #[.int .i64 (g 0), .int .i64 (g 1), .int .i64 (g 12), .int .i64 (num g 4 4), .int .i64 (num g 8 4), .int .i64 (num g 16 2), .int .i64 (num g 18 2), .int .i64 0, .int .i64 (num g 20 2), .bool (num g 22 2 == 0), .int .i64 0, .slice none 0 0, .slice (some ⟨G, 0, none⟩) (n - 24) (n - 24)], .int .i64 0]) (by simp [results, Try.results19, go_sem, y0, y1, y2, y3, y4, y5, y6, y7, y8, y9, y10, y11, y12]) rfl ?_
          refine ⟨.slice none 0 0, (.slice (some ⟨G, 0, none⟩) (n - 24) (n - 24)), by rw [HP2.out, HE.out]; rfl, by rw [HP2.out]; exact OB.nil, by rw [HP2.out]; exact OB.base ho0 (by omega), hbf⟩
        · have q0 : (g 0 == 3) = false := by rw [k1]; rfl
          have q1 : (g 0 == 2) = false := by rw [k1]; rfl
          have HP1 : Hid (parseR g n = { kind := g 0, life := g 1, piece := g 12, src := num g 4 4, dst := num g 8 4, fp := num g 16 2, tp := num g 18 2, flags := g 20, no := (g 21).toNat, go := fun j => g (24 + j), nd := n - 24 - (g 21).toNat, gd := fun j => g (24 + (g 21).toNat + j) }) := hid (by rw [HPR.out]; unfold parseP; rw [if_neg (by omega), if_neg (by omega)])
          clear k1
          have n24 := HGB.out.1
          have gb21 := HG.out 21
          have gb20 := HG.out 20
          obtain ⟨gb20a, gb20b⟩ := gb20
          obtain ⟨q, hq⟩ : ∃ q : Nat, g 21 = (q : Int) := ⟨(g 21).toNat, by omega⟩
          rw [hq] at gb21 k21 k24
          obtain ⟨gb21a, gb21b⟩ := gb21
          have c21 := hA.out.at_ (j := 21) (by omega)
          rw [hq] at c21
          have HQ : Hid ((g 21).toNat = q) := hid (by omega)
          rw [HQ.out] at HP1
          have HQ2 := hid hq
          clear hq
          have i21 : (21 : Int) < n := by omega
          have i20 : (20 : Int) < n := by omega
          have PP := hid (fun (w' : World) (hw : By w' (some ⟨b, off, none⟩) n g) (a : Nat) (ha : a + 2 ≤ n) => pairn hw HG.out a ha hc hb)
          have i24 : (24 : Int) ≤ n := by omega
          have y0 := hCL.out.2.1 0 _ rfl
          have y1 := hCL.out.2.1 1 _ rfl
          have y2 := hCL.out.2.1 2 _ rfl
          have y3 := hCL.out.2.1 3 _ rfl
          have y4 := hCL.out.2.1 4 _ rfl
          have y5 := hCL.out.2.1 5 _ rfl
          have y6 := hCL.out.2.1 6 _ rfl
          have y7 := hCL.out.2.1 7 _ rfl
          have y8 := hCL.out.2.1 8 _ rfl
          have y9 := hCL.out.2.1 9 _ rfl
          have y10 := hCL.out.2.1 10 _ rfl
          have y11 := hCL.out.2.1 11 _ rfl
          have y12 := hCL.out.2.1 12 _ rfl
          have yf := hCL.out.2.2
          have yl := hCL.out.1
          go_wp2_with fail
          refine (PP.out _ hA.out 16 (by omega)).mono ?_
          rintro x w' ⟨rfl, rfl⟩
          go_wp2_with fail
          refine (PP.out _ hA.out 18 (by omega)).mono ?_
          rintro x w' ⟨rfl, rfl⟩
          have C2 := hid (((hCL.out).set 5 (.int .i64 (num g 16 2)) (by simp)).set 6 (.int .i64 (num g 18 2)) (by simp))
          have R2 := hid (hCR.out.grown (gs 6 (.int .i64 (num g 18 2)) (gs 5 (.int .i64 (num g 16 2)) (World.grownBy.refl wc (some L)))) (fun e => HLR (by injection e)))
          have A2 := hid (grow_by hA.out (gs 6 (.int .i64 (num g 18 2)) (gs 5 (.int .i64 (num g 16 2)) (World.grownBy.refl wc (some L)))) hBlt)
          have D2 := hid (((hB.out).setCell (p := ⟨L, 5, none⟩) (Nat.le_of_lt hL) (.int .i64 (num g 16 2))).setCell (p := ⟨L, 6, none⟩) (Nat.le_of_lt hL) (.int .i64 (num g 18 2)))
          have l2 := C2.out.1
          have c21b := A2.out.at_ (j := 21) (by omega)
          rw [HQ2.out] at c21b
          have c20 := A2.out.at_ (j := 20) (by omega)
          have C3 := hid ((C2.out).set 7 (.int .i64 (g 20)) (by simp))
          have R3 := hid (R2.out.grown (gs 7 (.int .i64 (g 20)) (World.grownBy.refl ((wc.setCell ⟨L, 5, none⟩ (.int .i64 (num g 16 2))).setCell ⟨L, 6, none⟩ (.int .i64 (num g 18 2))) (some L))) (fun e => HLR (by injection e)))
          have A3 := hid (grow_by A2.out (gs 7 (.int .i64 (g 20)) (World.grownBy.refl ((wc.setCell ⟨L, 5, none⟩ (.int .i64 (num g 16 2))).setCell ⟨L, 6, none⟩ (.int .i64 (num g 18 2))) (some L))) hBlt)
          have D3 := hid ((D2.out).setCell (p := ⟨L, 7, none⟩) (Nat.le_of_lt hL) (.int .i64 (g 20)))
          have hqn : 24 + q ≤ n := by omega
          obtain ⟨A8, r1, r2⟩ := cut_mid_b (some ⟨b, off, none⟩) n c 24 (24 + q) (by omega) hqn hc 24 (24 + (q : Int)) rfl (by omega)
          rw [show 24 + q - 24 = q from by omega] at r1 r2
          obtain ⟨A9, s1, s2⟩ := cut_from_b (some ⟨b, off, none⟩) n c (24 + q) hqn hc (24 + (q : Int)) (by omega)
          rw [show n - (24 + q) = n - 24 - q from by omega] at s1 s2
          replace r2 := hid r2
          replace s2 := hid s2
          have lw := C3.out.1
          have hLc := hCL.out.1
          go_upto_region 19 with (fail)
          clear c20 c21 c21b y0 y1 y2 y3 y4 y5 y6 y7 y8 y9 y10 y11 y12 yf yl PP C2 R2 A2 D2 hCL hCR hA hB
          have hLb : L < (((wc.setCell ⟨L, 5, none⟩ (.int .i64 (num g 16 2))).setCell ⟨L, 6, none⟩ (.int .i64 (num g 18 2))).setCell ⟨L, 7, none⟩ (.int .i64 (g 20))).heap.size := by simpa using hLc
          generalize (((wc.setCell ⟨L, 5, none⟩ (.int .i64 (num g 16 2))).setCell ⟨L, 6, none⟩ (.int .i64 (num g 18 2))).setCell ⟨L, 7, none⟩ (.int .i64 (g 20))) = wq at *
          refine wp_region_held_drew (S := fun w' => By w' (some ⟨b, off, none⟩) n g ∧ Ce w' w.heap.size [.int .i64 0, .int .i64 0, .int .i64 0, .int .i64 0, .int .i64 0, .int .i64 0, .int .i64 0, .int .i64 0, .int .i64 0, .bool false, .int .i64 0, .slice none 0 0, .slice none 0 0] ∧ Below w.heap.size w w') (by kernel_rfl) ?_ (fun hHeld => ?_)
          · exact ⟨A3.out.drew, R3.out, below_drewN D3.out 1⟩
          refine tk 0 (v := ?_) rfl (by kernel_rfl) (by kernel_rfl) (by kernel_rfl) (fun _ _ _ h => h) rfl ?_ (by assumption) ?_; rotate_left; (focus (intro w hSw; (try dsimp only at hSw);  go_simp; (try with_reducible rfl))); (try simp only [Act.put, List.setIfInBounds_toArray, List.set_cons_zero, List.set_cons_succ])
          refine tk 1 (v := ?_) rfl (by kernel_rfl) (by kernel_rfl) (by kernel_rfl) (fun _ _ _ h => h) rfl ?_ (by assumption) ?_; rotate_left; (focus (intro w hSw; (try dsimp only at hSw);  go_simp; (try with_reducible rfl))); (try simp only [Act.put, List.setIfInBounds_toArray, List.set_cons_zero, List.set_cons_succ])
          refine tk 2 (v := ?_) rfl (by kernel_rfl) (by kernel_rfl) (by kernel_rfl) (fun _ _ _ h => h) rfl ?_ (by assumption) ?_; rotate_left; (focus (intro w hSw; (try dsimp only at hSw);  go_simp; (try with_reducible rfl))); (try simp only [Act.put, List.setIfInBounds_toArray, List.set_cons_zero, List.set_cons_succ])
          refine tk 4 (v := ?_) rfl (by kernel_rfl) (by kernel_rfl) (by kernel_rfl) (fun _ _ _ h => h) rfl ?_ (by assumption) ?_; rotate_left; (focus (intro w hSw; (try dsimp only at hSw);  go_simp; (try with_reducible rfl))); (try simp only [Act.put, List.setIfInBounds_toArray, List.set_cons_zero, List.set_cons_succ])
          refine tk 5 (v := ?_) rfl (by kernel_rfl) (by kernel_rfl) (by kernel_rfl) (fun _ _ _ h => h) rfl ?_ (by assumption) ?_; rotate_left; (focus (intro w hSw; (try dsimp only at hSw);  go_simp; (try with_reducible rfl))); (try simp only [Act.put, List.setIfInBounds_toArray, List.set_cons_zero, List.set_cons_succ])
          refine tk 6 (v := ?_) rfl (by kernel_rfl) (by kernel_rfl) (by kernel_rfl) (fun _ _ _ h => h) rfl ?_ (by assumption) ?_; rotate_left; (focus (intro w hSw; (try dsimp only at hSw);  go_simp; (try with_reducible rfl))); (try simp only [Act.put, List.setIfInBounds_toArray, List.set_cons_zero, List.set_cons_succ])
          refine only 3 rfl (by kernel_rfl) rfl (fun K hK => ?_)
          go_simp
          refine (clone_any _ q _ (fun j => g (24 + j)) _ (r2.out _ g hHeld.1) (by omega)).mono ?_
          rintro x w5 ⟨G1, rfl, hGG1, hOG1, hbG1⟩
          try go_wp2_with fail
          have hH5 : By w5 (some ⟨b, off, none⟩) n g ∧ Ce w5 w.heap.size [.int .i64 0, .int .i64 0, .int .i64 0, .int .i64 0, .int .i64 0, .int .i64 0, .int .i64 0, .int .i64 0, .int .i64 0, .bool false, .int .i64 0, .slice none 0 0, .slice none 0 0] ∧ Below w.heap.size w w5 := ⟨hHeld.1.below hbG1 (Nat.le_refl _), hHeld.2.1.below hbG1, then_ hHeld.2.2 hbG1⟩
          refine hK.out _ _ hH5 (fun _ => ?_)
          clear hK
          try simp only [Act.put, List.setIfInBounds_toArray, List.set_cons_zero, List.set_cons_succ]
          refine tk 8 (v := ?_) rfl (by kernel_rfl) (by kernel_rfl) (by kernel_rfl) (fun _ _ _ h => h) rfl ?_ hH5 ?_; rotate_left; (focus (intro w hSw; (try dsimp only at hSw);  go_simp; (try with_reducible rfl))); (try simp only [Act.put, List.setIfInBounds_toArray, List.set_cons_zero, List.set_cons_succ])
          refine only 7 rfl (by kernel_rfl) rfl (fun K hK => ?_)
          go_simp
          refine (clone_any _ (n - 24 - q) _ (fun j => g (24 + q + j)) _ (s2.out _ g hH5.1) (by omega)).mono ?_
          rintro x w6 ⟨G2, rfl, hGG2, hOG2, hbG2⟩
          try go_wp2_with fail
          have hH6 : By w6 (some ⟨b, off, none⟩) n g ∧ Ce w6 w.heap.size [.int .i64 0, .int .i64 0, .int .i64 0, .int .i64 0, .int .i64 0, .int .i64 0, .int .i64 0, .int .i64 0, .int .i64 0, .bool false, .int .i64 0, .slice none 0 0, .slice none 0 0] ∧ Below w.heap.size w w6 := ⟨hH5.1.below hbG2 (Nat.le_refl _), hH5.2.1.below hbG2, then_ hH5.2.2 hbG2⟩
          refine hK.out _ _ hH6 (fun _ => ?_)
          clear hK
          try simp only [Act.put, List.setIfInBounds_toArray, List.set_cons_zero, List.set_cons_succ]
          have hq5 : wq.heap.size ≤ w5.heap.size := by have := hbG1.size; simpa using this
          have OO := hid ((OB.base hOG1 (show L + 1 ≤ _ by simp; omega)).keep_ hbG2)
          have OD := hid (OB.base hOG2 (show L + 1 ≤ w5.heap.size by omega))
          have C6 := hid ((C3.out.drew_.below hbG1).below hbG2)
          have y0 := C6.out.2.1 0 _ rfl
          have y1 := C6.out.2.1 1 _ rfl
          have y2 := C6.out.2.1 2 _ rfl
          have y3 := C6.out.2.1 3 _ rfl
          have y4 := C6.out.2.1 4 _ rfl
          have y5 := C6.out.2.1 5 _ rfl
          have y6 := C6.out.2.1 6 _ rfl
          have y7 := C6.out.2.1 7 _ rfl
          have y8 := C6.out.2.1 8 _ rfl
          have y9 := C6.out.2.1 9 _ rfl
          have y10 := C6.out.2.1 10 _ rfl
          have y11 := C6.out.2.1 11 _ rfl
          have y12 := C6.out.2.1 12 _ rfl
          have yf := C6.out.2.2
          have yl := C6.out.1
          have HH6 := hid hH6
          clear hHeld hH5 hOG1 hOG2
          clear hH6
          refine only 9 rfl (by kernel_rfl) rfl (fun K hK => ?_)
          go_simp
          refine hK.out _ _ ⟨grow_by HH6.out.1 (gs 11 (.slice (some ⟨G1, 0, none⟩) q q) (World.grownBy.refl w6 (some L))) hBlt, HH6.out.2.1.grown (gs 11 (.slice (some ⟨G1, 0, none⟩) q q) (World.grownBy.refl w6 (some L))) (fun e => HLR (by injection e)), HH6.out.2.2.setCell (p := ⟨L, 11, none⟩) (Nat.le_of_lt hL) (.slice (some ⟨G1, 0, none⟩) q q)⟩ (fun hH9 => ?_)
          clear hK
          try simp only [Act.put, List.setIfInBounds_toArray, List.set_cons_zero, List.set_cons_succ]
          refine tk 10 (v := ?_) rfl (by kernel_rfl) (by kernel_rfl) (by kernel_rfl) (fun _ _ _ h => h) rfl ?_ hH9 ?_; rotate_left; (focus (intro w hSw; (try dsimp only at hSw);  go_simp; (try with_reducible rfl))); (try simp only [Act.put, List.setIfInBounds_toArray, List.set_cons_zero, List.set_cons_succ])
          clear hH9
          refine only 11 rfl (by kernel_rfl) rfl (fun K hK => ?_)
          go_simp
          refine hK.out _ _ ⟨grow_by HH6.out.1 (gs 12 (.slice (some ⟨G2, 0, none⟩) (n - 24 - q) (n - 24 - q)) (gs 11 (.slice (some ⟨G1, 0, none⟩) q q) (World.grownBy.refl w6 (some L)))) hBlt, HH6.out.2.1.grown (gs 12 (.slice (some ⟨G2, 0, none⟩) (n - 24 - q) (n - 24 - q)) (gs 11 (.slice (some ⟨G1, 0, none⟩) q q) (World.grownBy.refl w6 (some L)))) (fun e => HLR (by injection e)), (HH6.out.2.2.setCell (p := ⟨L, 11, none⟩) (Nat.le_of_lt hL) (.slice (some ⟨G1, 0, none⟩) q q)).setCell (p := ⟨L, 12, none⟩) (Nat.le_of_lt hL) (.slice (some ⟨G2, 0, none⟩) (n - 24 - q) (n - 24 - q))⟩ (fun _ => ?_)
          clear hK
          try simp only [Act.put, List.setIfInBounds_toArray, List.set_cons_zero, List.set_cons_succ]
          refine wpAnyH_done (by kernel_rfl) ?_ _
          have C7 := hid ((C6.out.set 11 (.slice (some ⟨G1, 0, none⟩) q q) (by simp)).set 12 (.slice (some ⟨G2, 0, none⟩) (n - 24 - q) (n - 24 - q)) (by simp))
          have R7 := hid (HH6.out.2.1.grown (gs 12 (.slice (some ⟨G2, 0, none⟩) (n - 24 - q) (n - 24 - q)) (gs 11 (.slice (some ⟨G1, 0, none⟩) q q) (World.grownBy.refl w6 (some L)))) (fun e => HLR (by injection e)))
          have D7 := hid ((HH6.out.2.2.setCell (p := ⟨L, 11, none⟩) (Nat.le_of_lt hL) (.slice (some ⟨G1, 0, none⟩) q q)).setCell (p := ⟨L, 12, none⟩) (Nat.le_of_lt hL) (.slice (some ⟨G2, 0, none⟩) (n - 24 - q) (n - 24 - q)))
          have OO7 := hid (OB.grown OO.out (gs 12 (.slice (some ⟨G2, 0, none⟩) (n - 24 - q) (n - 24 - q)) (gs 11 (.slice (some ⟨G1, 0, none⟩) q q) (World.grownBy.refl w6 (some L)))) (OB.ne OO.out (by omega)))
          have OD7 := hid (OB.grown OD.out (gs 12 (.slice (some ⟨G2, 0, none⟩) (n - 24 - q) (n - 24 - q)) (gs 11 (.slice (some ⟨G1, 0, none⟩) q q) (World.grownBy.refl w6 (some L)))) (OB.ne OD.out (by omega)))
          clear y0 y1 y2 y3 y4 y5 y6 y7 y8 y9 y10 y11 y12 yf yl
          generalize (w6.setCell ⟨L, 11, none⟩ (.slice (some ⟨G1, 0, none⟩) q q)).setCell ⟨L, 12, none⟩ (.slice (some ⟨G2, 0, none⟩) (n - 24 - q) (n - 24 - q)) = w7 at *
          have y0 := C7.out.2.1 0 _ rfl
          have y1 := C7.out.2.1 1 _ rfl
          have y2 := C7.out.2.1 2 _ rfl
          have y3 := C7.out.2.1 3 _ rfl
          have y4 := C7.out.2.1 4 _ rfl
          have y5 := C7.out.2.1 5 _ rfl
          have y6 := C7.out.2.1 6 _ rfl
          have y7 := C7.out.2.1 7 _ rfl
          have y8 := C7.out.2.1 8 _ rfl
          have y9 := C7.out.2.1 9 _ rfl
          have y10 := C7.out.2.1 10 _ rfl
          have y11 := C7.out.2.1 11 _ rfl
          have y12 := C7.out.2.1 12 _ rfl
          have yf := C7.out.2.2
          have z0 := R7.out.2.1 0 _ rfl
          have z1 := R7.out.2.1 1 _ rfl
          have z2 := R7.out.2.1 2 _ rfl
          have z3 := R7.out.2.1 3 _ rfl
          have z4 := R7.out.2.1 4 _ rfl
          have z5 := R7.out.2.1 5 _ rfl
          have z6 := R7.out.2.1 6 _ rfl
          have z7 := R7.out.2.1 7 _ rfl
          have z8 := R7.out.2.1 8 _ rfl
          have z9 := R7.out.2.1 9 _ rfl
          have z10 := R7.out.2.1 10 _ rfl
          have z11 := R7.out.2.1 11 _ rfl
          have z12 := R7.out.2.1 12 _ rfl
          have zf := R7.out.2.2
          have yl := C7.out.1
          have zl := R7.out.1
          go_wp2_with fail
          have CE := (R7.out).s13 (.int .i64 (g 0)) (.int .i64 (g 1)) (.int .i64 (g 12)) (.int .i64 (num g 4 4)) (.int .i64 (num g 8 4)) (.int .i64 (num g 16 2)) (.int .i64 (num g 18 2)) (.int .i64 (g 20)) (.int .i64 0) (.bool false) (.int .i64 0) (.slice (some ⟨G1, 0, none⟩) q q) (.slice (some ⟨G2, 0, none⟩) (n - 24 - q) (n - 24 - q))
          have BE := below_s13 (b := w.heap.size) (D7.out) (Nat.le_refl _) (.int .i64 (g 0)) (.int .i64 (g 1)) (.int .i64 (g 12)) (.int .i64 (num g 4 4)) (.int .i64 (num g 8 4)) (.int .i64 (num g 16 2)) (.int .i64 (num g 18 2)) (.int .i64 (g 20)) (.int .i64 0) (.bool false) (.int .i64 0) (.slice (some ⟨G1, 0, none⟩) q q) (.slice (some ⟨G2, 0, none⟩) (n - 24 - q) (n - 24 - q))
          have OE0 := OB.grown (OO7.out) (grown_s13 _ w.heap.size (.int .i64 (g 0)) (.int .i64 (g 1)) (.int .i64 (g 12)) (.int .i64 (num g 4 4)) (.int .i64 (num g 8 4)) (.int .i64 (num g 16 2)) (.int .i64 (num g 18 2)) (.int .i64 (g 20)) (.int .i64 0) (.bool false) (.int .i64 0) (.slice (some ⟨G1, 0, none⟩) q q) (.slice (some ⟨G2, 0, none⟩) (n - 24 - q) (n - 24 - q))) (OB.ne (OO7.out) (by omega))
          have OE1 := OB.grown (OD7.out) (grown_s13 _ w.heap.size (.int .i64 (g 0)) (.int .i64 (g 1)) (.int .i64 (g 12)) (.int .i64 (num g 4 4)) (.int .i64 (num g 8 4)) (.int .i64 (num g 16 2)) (.int .i64 (num g 18 2)) (.int .i64 (g 20)) (.int .i64 0) (.bool false) (.int .i64 0) (.slice (some ⟨G1, 0, none⟩) q q) (.slice (some ⟨G2, 0, none⟩) (n - 24 - q) (n - 24 - q))) (OB.ne (OD7.out) (by omega))
          unfold S13 at CE BE OE0 OE1
          replace CE := hid CE
          replace BE := hid BE
          replace OE0 := hid OE0
          replace OE1 := hid OE1
          refine at_world (fun w' => Ce w' w.heap.size [.int .i64 (g 0), .int .i64 (g 1), .int .i64 (g 12), .int .i64 (num g 4 4), .int .i64 (num g 8 4), .int .i64 (num g 16 2), .int .i64 (num g 18 2), .int .i64 (g 20), .int .i64 0, .bool false, .int .i64 0, .slice (some ⟨G1, 0, none⟩) q q, .slice (some ⟨G2, 0, none⟩) (n - 24 - q) (n - 24 - q)] ∧ Below w.heap.size w w' ∧ OB w' (L + 1) (.slice (some ⟨G1, 0, none⟩) q q) q (fun j => g (24 + j)) ∧ OB w' (L + 1) (.slice (some ⟨G2, 0, none⟩) (n - 24 - q) (n - 24 - q)) (n - 24 - q) (fun j => g (24 + q + j))) ⟨CE.out, BE.out, OE0.out, OE1.out⟩ (fun wf hwf => ?_)
          obtain ⟨hc2, hbf, ho0, ho1⟩ := hwf
          have y0 := hc2.2.1 0 _ rfl
          have y1 := hc2.2.1 1 _ rfl
          have y2 := hc2.2.1 2 _ rfl
          have y3 := hc2.2.1 3 _ rfl
          have y4 := hc2.2.1 4 _ rfl
          have y5 := hc2.2.1 5 _ rfl
          have y6 := hc2.2.1 6 _ rfl
          have y7 := hc2.2.1 7 _ rfl
          have y8 := hc2.2.1 8 _ rfl
          have y9 := hc2.2.1 9 _ rfl
          have y10 := hc2.2.1 10 _ rfl
          have y11 := hc2.2.1 11 _ rfl
          have y12 := hc2.2.1 12 _ rfl
          refine bodyPost_ret (v := .tuple #[.agg #[.int .i64 (g 0), .int .i64 (g 1), .int .i64 (g 12), .int .i64 (num g 4 4), .int .i64 (num g 8 4), .int .i64 (num g 16 2), .int .i64 (num g 18 2), .int .i64 (g 20), .int .i64 0, .bool false, .int .i64 0, .slice (some ⟨G1, 0, none⟩) q q, .slice (some ⟨G2, 0, none⟩) (n - 24 - q) (n - 24 - q)], .int .i64 0]) (by simp [results, Try.results19, go_sem, y0, y1, y2, y3, y4, y5, y6, y7, y8, y9, y10, y11, y12]) rfl ?_
          refine ⟨(.slice (some ⟨G1, 0, none⟩) q q), (.slice (some ⟨G2, 0, none⟩) (n - 24 - q) (n - 24 - q)), by rw [HP1.out, HE.out]; rfl, by rw [HP1.out]; exact OB.base ho0 (by omega), by rw [HP1.out]; exact OB.base ho1 (by omega), hbf⟩
    · have e1 : (be != 0) = true := by simpa using b0
      have e2 : (be == 0) = false := by simpa using b0
      have HR : Hid (parseR g n = {}) := hid (by unfold parseR; rw [hE, if_neg b0])
      have HE := hid hE
      have h0' := hid (h.below ((Below.refl _ _).alloc (Nat.le_refl _) (.cells #[.int .i64 0, .int .i64 0, .int .i64 0, .int .i64 0, .int .i64 0, .int .i64 0, .int .i64 0, .int .i64 0, .int .i64 0, .bool false, .int .i64 0, .slice none 0 0, .slice none 0 0] 26)) (Nat.le_refl _))
      clear hhe hbe hh hE h b0 hg
      go_enter Try.func19, Try.ntmps19
      go_wp2_with fail
      refine (HH.out _ h0'.out).mono ?_
      rintro x w' ⟨rfl, m, rfl⟩
      go_wp2_with fail
      refine (HB.out _ (Sl.drewN h0'.out m)).mono ?_
      rintro x w' ⟨rfl, rfl⟩
      go_wp2_with fail
      have CE := hid (((Ce.made (w := w) (l := [.int .i64 0, .int .i64 0, .int .i64 0, .int .i64 0, .int .i64 0, .int .i64 0, .int .i64 0, .int .i64 0, .int .i64 0, .bool false, .int .i64 0, .slice none 0 0, .slice none 0 0]) (T := 26) rfl).below (below_drewN (Below.refl _ _) m)).s13 (.int .i64 0) (.int .i64 0) (.int .i64 0) (.int .i64 0) (.int .i64 0) (.int .i64 0) (.int .i64 0) (.int .i64 0) (.int .i64 0) (.bool false) (.int .i64 0) (.slice none 0 0) (.slice none 0 0))
      refine at_world (fun w' => Ce w' w.heap.size [.int .i64 0, .int .i64 0, .int .i64 0, .int .i64 0, .int .i64 0, .int .i64 0, .int .i64 0, .int .i64 0, .int .i64 0, .bool false, .int .i64 0, .slice none 0 0, .slice none 0 0] ∧ Below w.heap.size w w') ⟨CE.out, ?_⟩ (fun wf hwf => ?_)
      · have BS := fun o a0 a1 a2 a3 a4 a5 a6 a7 a8 a9 a10 a11 a12 => below_s13 (b := w.heap.size) (below_drewN ((Below.refl w.heap.size w).alloc (Nat.le_refl _) o) m) (Nat.le_refl _) a0 a1 a2 a3 a4 a5 a6 a7 a8 a9 a10 a11 a12
        unfold S13 at BS
        exact BS _ _ _ _ _ _ _ _ _ _ _ _ _ _
      · obtain ⟨hc2, hbf⟩ := hwf
        have y0 := hc2.2.1 0 _ rfl
        have y1 := hc2.2.1 1 _ rfl
        have y2 := hc2.2.1 2 _ rfl
        have y3 := hc2.2.1 3 _ rfl
        have y4 := hc2.2.1 4 _ rfl
        have y5 := hc2.2.1 5 _ rfl
        have y6 := hc2.2.1 6 _ rfl
        have y7 := hc2.2.1 7 _ rfl
        have y8 := hc2.2.1 8 _ rfl
        have y9 := hc2.2.1 9 _ rfl
        have y10 := hc2.2.1 10 _ rfl
        have y11 := hc2.2.1 11 _ rfl
        have y12 := hc2.2.1 12 _ rfl
        refine bodyPost_ret (v := .tuple #[pkV {} (.slice none 0 0) (.slice none 0 0), .int .i64 be]) (by simp [results, Try.results19, go_sem, pkV, pkL, y0, y1, y2, y3, y4, y5, y6, y7, y8, y9, y10, y11, y12]) rfl ?_
        exact ⟨.slice none 0 0, .slice none 0 0, by rw [HR.out, HE.out], by rw [HR.out]; exact OB.nil, by rw [HR.out]; exact OB.nil, hbf⟩
  · have e1 : (he != 0) = true := by simpa using h0
    have e2 : (he == 0) = false := by simpa using h0
    have hE : parseE g n = he := by unfold parseE; rw [← hhe, if_neg h0]
    have HR : Hid (parseR g n = {}) := hid (by unfold parseR; rw [hE, if_neg h0])
    have HE := hid hE
    have h0' := hid (h.below ((Below.refl _ _).alloc (Nat.le_refl _) (.cells #[.int .i64 0, .int .i64 0, .int .i64 0, .int .i64 0, .int .i64 0, .int .i64 0, .int .i64 0, .int .i64 0, .int .i64 0, .bool false, .int .i64 0, .slice none 0 0, .slice none 0 0] 26)) (Nat.le_refl _))
    clear hhe hE h h0 hg
    go_enter Try.func19, Try.ntmps19
    go_wp2_with fail
    refine (HH.out _ h0'.out).mono ?_
    rintro x w' ⟨rfl, m, rfl⟩
    go_wp2_with fail
    have CE := hid (((Ce.made (w := w) (l := [.int .i64 0, .int .i64 0, .int .i64 0, .int .i64 0, .int .i64 0, .int .i64 0, .int .i64 0, .int .i64 0, .int .i64 0, .bool false, .int .i64 0, .slice none 0 0, .slice none 0 0]) (T := 26) rfl).below (below_drewN (Below.refl _ _) m)).s13 (.int .i64 0) (.int .i64 0) (.int .i64 0) (.int .i64 0) (.int .i64 0) (.int .i64 0) (.int .i64 0) (.int .i64 0) (.int .i64 0) (.bool false) (.int .i64 0) (.slice none 0 0) (.slice none 0 0))
    refine at_world (fun w' => Ce w' w.heap.size [.int .i64 0, .int .i64 0, .int .i64 0, .int .i64 0, .int .i64 0, .int .i64 0, .int .i64 0, .int .i64 0, .int .i64 0, .bool false, .int .i64 0, .slice none 0 0, .slice none 0 0] ∧ Below w.heap.size w w') ⟨CE.out, ?_⟩ (fun wf hwf => ?_)
    · have BS := fun o a0 a1 a2 a3 a4 a5 a6 a7 a8 a9 a10 a11 a12 => below_s13 (b := w.heap.size) (below_drewN ((Below.refl w.heap.size w).alloc (Nat.le_refl _) o) m) (Nat.le_refl _) a0 a1 a2 a3 a4 a5 a6 a7 a8 a9 a10 a11 a12
      unfold S13 at BS
      exact BS _ _ _ _ _ _ _ _ _ _ _ _ _ _
    · obtain ⟨hc2, hbf⟩ := hwf
      have y0 := hc2.2.1 0 _ rfl
      have y1 := hc2.2.1 1 _ rfl
      have y2 := hc2.2.1 2 _ rfl
      have y3 := hc2.2.1 3 _ rfl
      have y4 := hc2.2.1 4 _ rfl
      have y5 := hc2.2.1 5 _ rfl
      have y6 := hc2.2.1 6 _ rfl
      have y7 := hc2.2.1 7 _ rfl
      have y8 := hc2.2.1 8 _ rfl
      have y9 := hc2.2.1 9 _ rfl
      have y10 := hc2.2.1 10 _ rfl
      have y11 := hc2.2.1 11 _ rfl
      have y12 := hc2.2.1 12 _ rfl
      refine bodyPost_ret (v := .tuple #[pkV {} (.slice none 0 0) (.slice none 0 0), .int .i64 he]) (by simp [results, Try.results19, go_sem, pkV, pkL, y0, y1, y2, y3, y4, y5, y6, y7, y8, y9, y10, y11, y12]) rfl ?_
      exact ⟨.slice none 0 0, .slice none 0 0, by rw [HR.out, HE.out], by rw [HR.out]; exact OB.nil, by rw [HR.out]; exact OB.nil, hbf⟩
end Go.Proofs.Ytjljaecjnpmdoaa
