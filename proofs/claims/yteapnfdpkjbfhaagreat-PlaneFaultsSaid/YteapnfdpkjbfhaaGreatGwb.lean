/- Parse. Sums that are turned. What packets' functions tell. What is built. What is built is read as it was. What changes keep. What Age keeps. What Nat keeps. What Nat's packet is read as. -/
import Derived.Test.YteapnfdpkjbfhaaGreatGa
import Derived.Test.YteapnfdpkjbfhaaGreatGw
import Derived.Deep.CutRange
import Derived.BigQuiet
import Derived.Deep.RegionHeld3
import Derived.Deep.Cut
namespace Go.Proofs.YteapnfdpkjbfhaaGreat
set_option linter.unusedVariables false
set_option linter.unusedSimpArgs false
open Go.RowKit Go.ChangeShapes Go.WideShapes Go.ChangeAt
/-- Blocks from B on may be other ones; what lay below is as it was. -/
theorem below_of_grown {w w' : World} {B b : Nat} (h : w.grownBy w' (some b)) (hb : B ≤ b) (hB : B ≤ w.heap.size) : Below B w w' :=
 ⟨h.os, h.tape, h.output, h.size, fun k hk => h.block k (Nat.lt_of_lt_of_le hk hB) (fun e => by injection e with e; omega)⟩
theorem OB.grown {w w' : World} {B n b : Nat} {v : Value} {g : Nat → Int} (h : OB w B v n g) (hg : w.grownBy w' (some b)) (hne : v.ownBlock ≠ some b) : OB w' B v n g := by
 refine ⟨h.1, ?_⟩
 rcases h.2 with h0 | ⟨g', cap, cur, rfl, hB, hh, h1⟩
 ·exact .inl h0
 ·refine .inr ⟨g', cap, cur, rfl, hB, ?_, h1⟩
  have hlt : g' < w.heap.size := by
   rcases Nat.lt_or_ge g' w.heap.size with hlt | hge
   ·exact hlt
   ·rw [Array.getElem?_eq_none hge] at hh; cases hh
  rw [hg.block g' hlt hne]
  exact hh
theorem OB.base {w : World} {B B' n : Nat} {v : Value} {g : Nat → Int} (h : OB w B v n g) (hB : B' ≤ B) : OB w B' v n g := by
 refine ⟨h.1, ?_⟩
 rcases h.2 with h0 | ⟨g', cap, cur, rfl, hb, h1⟩
 ·exact .inl h0
 ·exact .inr ⟨g', cap, cur, rfl, Nat.le_trans hB hb, h1⟩
theorem OB.ne {w : World} {B n b : Nat} {v : Value} {g : Nat → Int} (h : OB w B v n g) (hb : b < B) : v.ownBlock ≠ some b := by
 rcases h.2 with ⟨rfl, _⟩ | ⟨g', cap, cur, rfl, hB, h1⟩
 ·intro e; cases e
 ·intro e
  simp only [Value.ownBlock, Option.some.injEq] at e
  omega
section
variable {P : Program} {Q : Exit → Act → World → Prop} {md : Region.Mode} {S : World → Prop}
end
/-- Thirteen cells written. -/
def S13 (w : World) (b : Nat) (v0 v1 v2 v3 v4 v5 v6 v7 v8 v9 v10 v11 v12 : Value) : World := (((((((((((((w.setCell ⟨b, 0, none⟩ v0).setCell ⟨b, 1, none⟩ v1).setCell ⟨b, 2, none⟩ v2).setCell ⟨b, 3, none⟩ v3).setCell ⟨b, 4, none⟩ v4).setCell ⟨b, 5, none⟩ v5).setCell ⟨b, 6, none⟩ v6).setCell ⟨b, 7, none⟩ v7).setCell ⟨b, 8, none⟩ v8).setCell ⟨b, 9, none⟩ v9).setCell ⟨b, 10, none⟩ v10).setCell ⟨b, 11, none⟩ v11).setCell ⟨b, 12, none⟩ v12)
theorem Ce.s13 {w : World} {b : Nat} {x0 x1 x2 x3 x4 x5 x6 x7 x8 x9 x10 x11 x12 : Value} (h : Ce w b [x0, x1, x2, x3, x4, x5, x6, x7, x8, x9, x10, x11, x12]) (v0 v1 v2 v3 v4 v5 v6 v7 v8 v9 v10 v11 v12 : Value) : Ce (S13 w b v0 v1 v2 v3 v4 v5 v6 v7 v8 v9 v10 v11 v12) b [v0, v1, v2, v3, v4, v5, v6, v7, v8, v9, v10, v11, v12] :=
 (((((((((((((h.set 0 v0 (by simp)).set 1 v1 (by simp)).set 2 v2 (by simp)).set 3 v3 (by simp)).set 4 v4 (by simp)).set 5 v5 (by simp)).set 6 v6 (by simp)).set 7 v7 (by simp)).set 8 v8 (by simp)).set 9 v9 (by simp)).set 10 v10 (by simp)).set 11 v11 (by simp)).set 12 v12 (by simp))
theorem below_s13 {B : Nat} {w w' : World} {b : Nat} (h : Below B w w') (hb : B ≤ b) (v0 v1 v2 v3 v4 v5 v6 v7 v8 v9 v10 v11 v12 : Value) : Below B w (S13 w' b v0 v1 v2 v3 v4 v5 v6 v7 v8 v9 v10 v11 v12) :=
 ((((((((((((h.setCell (p := ⟨b, 0, none⟩) hb _).setCell (p := ⟨b, 1, none⟩) hb _).setCell (p := ⟨b, 2, none⟩) hb _).setCell (p := ⟨b, 3, none⟩) hb _).setCell (p := ⟨b, 4, none⟩) hb _).setCell (p := ⟨b, 5, none⟩) hb _).setCell (p := ⟨b, 6, none⟩) hb _).setCell (p := ⟨b, 7, none⟩) hb _).setCell (p := ⟨b, 8, none⟩) hb _).setCell (p := ⟨b, 9, none⟩) hb _).setCell (p := ⟨b, 10, none⟩) hb _).setCell (p := ⟨b, 11, none⟩) hb _).setCell (p := ⟨b, 12, none⟩) hb _
theorem grown_s13 (w : World) (b : Nat) (v0 v1 v2 v3 v4 v5 v6 v7 v8 v9 v10 v11 v12 : Value) : w.grownBy (S13 w b v0 v1 v2 v3 v4 v5 v6 v7 v8 v9 v10 v11 v12) (some b) := by
 unfold S13
 iterate 13 (refine gs _ _ ?_)
 exact World.grownBy.refl _ _
/-- A packet, taken apart: its numbers, and its two rows of bytes. -/
structure Pk where
 kind : Int := 0
 life : Int := 0
 piece : Int := 0
 src : Int := 0
 dst : Int := 0
 fp : Int := 0
 tp : Int := 0
 flags : Int := 0
 label : Int := 0
 bare : Bool := false
 code : Int := 0
 no : Nat := 0
 go : Nat → Int := fun _ => 0
 nd : Nat := 0
 gd : Nat → Int := fun _ => 0
def pkL (p : Pk) (O D : Value) : List Value := [.int .i64 p.kind, .int .i64 p.life, .int .i64 p.piece, .int .i64 p.src, .int .i64 p.dst, .int .i64 p.fp, .int .i64 p.tp, .int .i64 p.flags, .int .i64 p.label, .bool p.bare, .int .i64 p.code, O, D]
def pkV (p : Pk) (O D : Value) : Value := .agg (pkL p O D).toArray
/-- What a packet that may be is taken apart to. -/
def parseP (g : Nat → Int) (n : Nat) : Pk :=
 if g 0 = 3 then { kind := g 0, life := g 1, piece := g 12, src := num g 4 4, dst := num g 8 4, code := g 16, nd := n - 20, gd := fun j => g (20 + j) }
 else if g 0 = 2 then { kind := g 0, life := g 1, piece := g 12, src := num g 4 4, dst := num g 8 4, fp := num g 16 2, tp := num g 18 2, label := num g 20 2, bare := num g 22 2 == 0, nd := n - 24, gd := fun j => g (24 + j) }
 else { kind := g 0, life := g 1, piece := g 12, src := num g 4 4, dst := num g 8 4, fp := num g 16 2, tp := num g 18 2, flags := g 20, no := (g 21).toNat, go := fun j => g (24 + j), nd := n - 24 - (g 21).toNat, gd := fun j => g (24 + (g 21).toNat + j) }
def parseR (g : Nat → Int) (n : Nat) : Pk := if parseE g n = 0 then parseP g n else {}
def Parsed (w : World) (g : Nat → Int) (n : Nat) (e : Ending) (w' : World) : Prop :=
 ∃ O D : Value, e = .returned (.tuple #[pkV (parseR g n) O D, .int .i64 (parseE g n)]) ∧ OB w' w.heap.size O (parseR g n).no (parseR g n).go ∧ OB w' w.heap.size D (parseR g n).nd (parseR g n).gd ∧ Below w.heap.size w w'
theorem OB.nil {w : World} {B : Nat} {g : Nat → Int} : OB w B (.slice none 0 0) 0 g := Ow.none_
theorem qs {P : Program} {F : FuncId} {args : Array Value} {w : World} {v : Value} (h : Calls P F args w fun e w' => e = .returned v ∧ w = w') : Calls P F args w fun e w' => e = .returned v ∧ w' = w := h.mono fun _ _ ⟨a, b⟩ => ⟨a, b.symm⟩
theorem bodyE_0 {g : Nat → Int} {n : Nat} (h : bodyE g n = 0) (hk : isK (g 0) = true) : 24 ≤ n ∧ (g 0 = 3 ∧ 44 ≤ n ∨ g 0 = 2 ∨ g 0 = 1 ∧ g 20 ≤ 15 ∧ g 21 ≤ 40 ∧ g 21 ≤ (n : Int) - 24) := by
 unfold isK at hk
 simp at hk
 unfold bodyE at h
 split at h
 ·split at h
  ·cases h
  ·exact ⟨by omega, .inl ⟨by assumption, by omega⟩⟩
 ·split at h
  ·cases h
  ·split at h
   ·cases h
   ·rename_i h3 h24 h5
    refine ⟨by omega, .inr ?_⟩
    by_cases h1 : g 0 = 1
    ·refine .inr ⟨h1, ?_, ?_, ?_⟩ <;> (have := fun x => h5 ⟨h1, x⟩; omega)
    ·exact .inl (by omega)
theorem OB.keep_ {w w' : World} {B n : Nat} {v : Value} {g : Nat → Int} (h : OB w B v n g) (hb : Below w.heap.size w w') : OB w' B v n g := Ow.keep h hb (Nat.le_refl _)
theorem pairn {w : World} {n c b off : Nat} {g : Nat → Int} (h : By w (some ⟨b, off, none⟩) n g) (hg : IsB g) (a : Nat) (ha : a + 2 ≤ n) (hc : n ≤ c) (hb : n ≤ 1000000) :
 Calls Tryz.prog 76 #[.slice (some ⟨b, off, none⟩) n c, .int .i64 a] w fun e w2 => e = .returned (.int .i64 (num g a 2)) ∧ w = w2 := by
 have := pair_any_ (some ⟨b, off, none⟩) n c g w h hg a (by omega) hc hb
 rw [show pairF g n a = num g a 2 from by unfold pairF; rw [if_neg (by omega)]] at this
 exact this
theorem grow_by {w w' : World} {n b off L : Nat} {g : Nat → Int} (h : By w (some ⟨b, off, none⟩) n g) (hg : w.grownBy w' (some L)) (hne : b ≠ L) : By w' (some ⟨b, off, none⟩) n g := by
 intro hn
 obtain ⟨b', off', e, hlt, hc⟩ := h hn
 injection e with e
 injection e with e1 e2
 subst e1; subst e2
 exact ⟨b, off, rfl, Nat.lt_of_lt_of_le hlt hg.size, fun j hj => (World.cell?_of_block (a := ⟨b, off + j, none⟩) (hg.block b hlt (fun e => hne (by injection e)))).trans (hc j hj)⟩
theorem num_at {w : World} {n b off : Nat} {g : Nat → Int} (h : By w (some ⟨b, off, none⟩) n g) (hg : IsB g) (a : Nat) (ha : a + 4 ≤ n) (c : Nat) :
 Calls Tryz.prog 74 #[.slice (some ⟨b, off + a, none⟩) 4 c] w fun e w2 => e = .returned (.int .i64 (num g a 4)) ∧ w = w2 := by
 have := number_any (some ⟨b, off + a, none⟩) 4 c (fun j => g (a + j)) w (Sl.cut h 4 ha) (fun j => hg _) (by omega)
 rw [num_shift] at this
 exact this
theorem Ce.drew_ {w : World} {b : Nat} {l : List Value} (h : Ce w b l) : Ce w.drew b l := h
set_option maxRecDepth 100000 in
set_option maxHeartbeats 8000000 in
theorem parse_any (A : Option Addr) (n c : Nat) (g : Nat → Int) (w : World) (h : By w A n g) (hg : IsB g) (hc : n ≤ c) (hb : n ≤ 1000000) :
 Calls Tryz.prog 47 #[.slice A n c] w (Parsed w g n) := by
 have hz : ∀ w : World, (zeroValue 39).run Tryz.prog w = .ok (.agg #[.int .i64 0, .int .i64 0, .int .i64 0, .int .i64 0, .int .i64 0, .int .i64 0, .int .i64 0, .int .i64 0, .int .i64 0, .bool false, .int .i64 0, .slice none 0 0, .slice none 0 0]) w := fun w => by kernel_rfl
 obtain ⟨he, hhe⟩ : ∃ z, z = headE g n := ⟨_, rfl⟩
 have HH := hid (fun w (h : By w A n g) => re_i64 (head_any A n c g w h hg hc hb) hhe.symm)
 by_cases h0 : he = 0
 ·subst h0
  have hh := headE_0 hhe.symm
  obtain ⟨be, hbe⟩ : ∃ z, z = bodyE g n := ⟨_, rfl⟩
  have HB := hid (fun w (h : By w A n g) => re_i64 (body_any_ A n c g w h hg hh.1 hb) hbe.symm)
  have hE : parseE g n = be := by unfold parseE; rw [if_pos hhe.symm, hbe]
  by_cases b0 : be = 0
  ·subst b0
   have HE := hid hE
   have hn16 := hh.1
   have hgb := bodyE_0 hbe.symm hh.2.1
   have CR := (Ce.made (w := w) (l := [.int .i64 0, .int .i64 0, .int .i64 0, .int .i64 0, .int .i64 0, .int .i64 0, .int .i64 0, .int .i64 0, .int .i64 0, .bool false, .int .i64 0, .slice none 0 0, .slice none 0 0]) (T := 39) rfl)
   have B1 := (Below.refl w.heap.size w).alloc (Nat.le_refl _) (.cells #[.int .i64 0, .int .i64 0, .int .i64 0, .int .i64 0, .int .i64 0, .int .i64 0, .int .i64 0, .int .i64 0, .int .i64 0, .bool false, .int .i64 0, .slice none 0 0, .slice none 0 0] 39)
   have HPR : Hid (parseR g n = parseP g n) := hid (by unfold parseR; rw [hE, if_pos rfl])
   replace CR := hid CR
   replace B1 := hid B1
   have h1 := hid (h.below B1.out (Nat.le_refl _))
   have HG := hid hg
   have HGB := hid hgb
   have H00 := hid h
   clear hhe hbe hh hE h hg hgb
   go_enter Tryz.func47, Tryz.ntmps47
   go_wp2_with fail
   refine (HH.out _ h1.out).mono ?_
   rintro x w' ⟨rfl, m, rfl⟩
   go_wp2_with fail
   refine (HB.out _ (Sl.drewN h1.out m)).mono ?_
   rintro x w' ⟨rfl, rfl⟩
   go_upto_region 7 with (fail)
   have CR2 := hid (Ce.below CR.out (below_drewN (Below.refl _ _) m))
   have B2 := hid (below_drewN B1.out m)
   have h2 := hid (Sl.drewN h1.out m)
   have lt2 := CR2.out.1
   clear CR B1 h1 HH HB
   simp only [List.toArray] at CR2
   generalize (w.alloc (.cells #[.int .i64 0, .int .i64 0, .int .i64 0, .int .i64 0, .int .i64 0, .int .i64 0, .int .i64 0, .int .i64 0, .int .i64 0, .bool false, .int .i64 0, .slice none 0 0, .slice none 0 0] 39)).drewN m = w1 at *
   obtain ⟨b, off, rfl, hblt, hcell⟩ := h2.out (by omega)
   have hbw : b < w.heap.size := Sl.lt H00.out (by omega)
   have c0 := hcell 0 (by omega)
   have c1 := hcell 1 (by omega)
   have c12 := hcell 12 (by omega)
   rw [Nat.add_zero] at c0
   have gb0 := HG.out 0
   have gb1 := HG.out 1
   have gb12 := HG.out 12
   obtain ⟨gb0a, gb0b⟩ := gb0
   obtain ⟨gb1a, gb1b⟩ := gb1
   obtain ⟨gb12a, gb12b⟩ := gb12
   have i1 : (12 : Int) < n := by omega
   have i2 : (1 : Int) < n := by omega
   have i3 : (0 : Int) < n := by omega
   have j3 : 0 < n := by omega
   have v0 : IntKind.i64.wrap (g 0) = g 0 := IntWalk.i64_in _ (by omega)
   have v1 : IntKind.i64.wrap (g 1) = g 1 := IntWalk.i64_in _ (by omega)
   have v2 : IntKind.i64.wrap (g 12) = g 12 := IntWalk.i64_in _ (by omega)
   have j2 : 1 < n := by omega
   have j1 : 12 < n := by omega
   have i4 : (8 : Int) ≤ c := by omega
   have i5 : (12 : Int) ≤ c := by omega
   have k4 : ¬ c = 4 := by omega
   have k8 : ¬ c = 8 := by omega
   clear hcell c0 c1 c12
   go_cut [6] from 20 (fun p wx => ∃ L : Nat, p = .pointer (some ⟨L, 0, none⟩) ∧ w.heap.size < L ∧ Ce wx L [.int .i64 (g 0), .int .i64 (g 1), .int .i64 (g 12), .int .i64 (num g 4 4), .int .i64 (num g 8 4), .int .i64 0, .int .i64 0, .int .i64 0, .int .i64 0, .bool false, .int .i64 0, .slice none 0 0, .slice none 0 0] ∧ By wx (some ⟨b, off, none⟩) n g ∧ Ce wx w.heap.size [.int .i64 0, .int .i64 0, .int .i64 0, .int .i64 0, .int .i64 0, .int .i64 0, .int .i64 0, .int .i64 0, .int .i64 0, .bool false, .int .i64 0, .slice none 0 0, .slice none 0 0] ∧ Below w.heap.size w wx)
   case first =>
    refine wp_region_held_drew (S := fun w' => By w' (some ⟨b, off, none⟩) n g ∧ Ce w' w.heap.size [.int .i64 0, .int .i64 0, .int .i64 0, .int .i64 0, .int .i64 0, .int .i64 0, .int .i64 0, .int .i64 0, .int .i64 0, .bool false, .int .i64 0, .slice none 0 0, .slice none 0 0] ∧ Below w.heap.size w w') (by kernel_rfl) ?_ (fun hHeld => ?_)
    ·exact ⟨h2.out.drew, CR2.out, below_drewN B2.out 1⟩
    refine tkq 0 (by assumption) ?_
    refine tkq 1 (by assumption) ?_
    refine tkq 2 (by assumption) ?_ (hy := by intro w hSw; (try dsimp only at hSw); obtain ⟨hA, hC, hB⟩ := hSw; have z0 := hA.at_ (j := 0) (by omega); have z1 := hA.at_ (j := 1) (by omega); have z12 := hA.at_ (j := 12) (by omega); rw [Nat.add_zero] at z0; go_simp; (try with_reducible rfl))
    refine tkq 3 (by assumption) ?_
    refine tkq 4 (by assumption) ?_
    refine tkq 5 (by assumption) ?_
    refine tkq 6 (by assumption) ?_ (hy := by intro w hSw; (try dsimp only at hSw); obtain ⟨hA, hC, hB⟩ := hSw; have z0 := hA.at_ (j := 0) (by omega); have z1 := hA.at_ (j := 1) (by omega); have z12 := hA.at_ (j := 12) (by omega); rw [Nat.add_zero] at z0; go_simp; (try with_reducible rfl))
    refine tkq 7 (by assumption) ?_
    refine tkq 8 (by assumption) ?_
    refine tkq 9 (by assumption) ?_
    refine tkq 10 (by assumption) ?_ (hy := by intro w hSw; (try dsimp only at hSw); obtain ⟨hA, hC, hB⟩ := hSw; have z0 := hA.at_ (j := 0) (by omega); have z1 := hA.at_ (j := 1) (by omega); have z12 := hA.at_ (j := 12) (by omega); rw [Nat.add_zero] at z0; go_simp; (try with_reducible rfl))
    refine tkq 11 (by assumption) ?_
    refine tkq 12 (by assumption) ?_
    refine tkq 13 (by assumption) ?_
    refine tkq 15 (by assumption) ?_
    refine tkq 16 (by assumption) ?_
    refine twoUp 14 19 rfl rfl (by kernel_rfl) rfl rfl (fun K hK => ?_) (fun K hK => ?_)
    ·go_simp
     refine (num_at hHeld.1 HG.out 4 (by omega) _).mono ?_
     rintro e' w' ⟨rfl, rfl⟩
     try go_wp2_with fail
     refine hK.out _ _ hHeld (fun _ => ?_)
     clear hK
     try simp only [Act.put, List.setIfInBounds_toArray, List.set_cons_zero, List.set_cons_succ]
     refine twoUp 17 19 rfl rfl (by kernel_rfl) rfl rfl (fun K hK => ?_) (fun K hK => ?_)
     ·go_simp
      refine (num_at hHeld.1 HG.out 8 (by omega) _).mono ?_
      rintro e' w' ⟨rfl, rfl⟩
      try go_wp2_with fail
      refine hK.out _ _ hHeld (fun _ => ?_)
      clear hK
      try simp only [Act.put, List.setIfInBounds_toArray, List.set_cons_zero, List.set_cons_succ]
      refine tkq 18 (by assumption) ?_
      refine only 19 rfl (by kernel_rfl) rfl (fun K hK => ?_)
      go_simp
      refine hK.out _ _ ⟨hHeld.1.alloc _, hHeld.2.1.alloc _, hHeld.2.2.alloc hHeld.2.2.size _⟩ (fun hHeld2 => ?_)
      clear hK
      try simp only [Act.put, List.setIfInBounds_toArray, List.set_cons_zero, List.set_cons_succ]
      refine only 20 rfl (by kernel_rfl) rfl (fun K hK => ?_)
      go_simp
      refine hK.out _ _ ⟨hHeld.1.alloc _, hHeld.2.1.alloc _, hHeld.2.2.alloc hHeld.2.2.size _⟩ (fun _ => ?_)
      clear hK
      try simp only [Act.put, List.setIfInBounds_toArray, List.set_cons_zero, List.set_cons_succ]
      refine wpAnyH_done (by kernel_rfl) ?_ _
      go_wp2_with fail
      go_meet
      exact ⟨_, rfl, lt2, (Ce.made (w := w1) (l := [.int .i64 (g 0), .int .i64 (g 1), .int .i64 (g 12), .int .i64 (num g 4 4), .int .i64 (num g 8 4), .int .i64 0, .int .i64 0, .int .i64 0, .int .i64 0, .bool false, .int .i64 0, .slice none 0 0, .slice none 0 0]) rfl).drew_, (h2.out.alloc _).drew, (CR2.out.alloc _).drew_, (B2.out.alloc B2.out.size _).drew⟩
     ·go_simp
      refine hK.out _ _ ⟨hHeld.1.alloc _, hHeld.2.1.alloc _, hHeld.2.2.alloc hHeld.2.2.size _⟩ (fun hHeld2 => ?_)
      clear hK
      try simp only [Act.put, List.setIfInBounds_toArray, List.set_cons_zero, List.set_cons_succ]
      refine only 17 rfl (by kernel_rfl) rfl (fun K hK => ?_)
      go_simp
      refine (num_at hHeld2.1 HG.out 8 (by omega) _).mono ?_
      rintro e' w' ⟨rfl, rfl⟩
      try go_wp2_with fail
      refine hK.out _ _ hHeld2 (fun _ => ?_)
      clear hK
      try simp only [Act.put, List.setIfInBounds_toArray, List.set_cons_zero, List.set_cons_succ]
      refine tkq 18 (by assumption) ?_
      refine only 20 rfl (by kernel_rfl) rfl (fun K hK => ?_)
      go_simp
      refine hK.out _ _ ⟨hHeld.1.alloc _, hHeld.2.1.alloc _, hHeld.2.2.alloc hHeld.2.2.size _⟩ (fun _ => ?_)
      clear hK
      try simp only [Act.put, List.setIfInBounds_toArray, List.set_cons_zero, List.set_cons_succ]
      refine wpAnyH_done (by kernel_rfl) ?_ _
      go_wp2_with fail
      go_meet
      exact ⟨_, rfl, lt2, (Ce.made (w := w1) (l := [.int .i64 (g 0), .int .i64 (g 1), .int .i64 (g 12), .int .i64 (num g 4 4), .int .i64 (num g 8 4), .int .i64 0, .int .i64 0, .int .i64 0, .int .i64 0, .bool false, .int .i64 0, .slice none 0 0, .slice none 0 0]) rfl).drew_, (h2.out.alloc _).drew, (CR2.out.alloc _).drew_, (B2.out.alloc B2.out.size _).drew⟩
    ·go_simp
     refine hK.out _ _ ⟨hHeld.1.alloc _, hHeld.2.1.alloc _, hHeld.2.2.alloc hHeld.2.2.size _⟩ (fun hHeld2 => ?_)
     clear hK
     try simp only [Act.put, List.setIfInBounds_toArray, List.set_cons_zero, List.set_cons_succ]
     refine only 14 rfl (by kernel_rfl) rfl (fun K hK => ?_)
     go_simp
     refine (num_at hHeld2.1 HG.out 4 (by omega) _).mono ?_
     rintro e' w' ⟨rfl, rfl⟩
     try go_wp2_with fail
     refine hK.out _ _ hHeld2 (fun _ => ?_)
     clear hK
     try simp only [Act.put, List.setIfInBounds_toArray, List.set_cons_zero, List.set_cons_succ]
     refine only 17 rfl (by kernel_rfl) rfl (fun K hK => ?_)
     go_simp
     refine (num_at hHeld2.1 HG.out 8 (by omega) _).mono ?_
     rintro e' w' ⟨rfl, rfl⟩
     try go_wp2_with fail
     refine hK.out _ _ hHeld2 (fun _ => ?_)
     clear hK
     try simp only [Act.put, List.setIfInBounds_toArray, List.set_cons_zero, List.set_cons_succ]
     refine tkq 18 (by assumption) ?_
     refine only 20 rfl (by kernel_rfl) rfl (fun K hK => ?_)
     go_simp
     refine hK.out _ _ ⟨hHeld.1.alloc _, hHeld.2.1.alloc _, hHeld.2.2.alloc hHeld.2.2.size _⟩ (fun _ => ?_)
     clear hK
     try simp only [Act.put, List.setIfInBounds_toArray, List.set_cons_zero, List.set_cons_succ]
     refine wpAnyH_done (by kernel_rfl) ?_ _
     go_wp2_with fail
     go_meet
     exact ⟨_, rfl, lt2, (Ce.made (w := w1) (l := [.int .i64 (g 0), .int .i64 (g 1), .int .i64 (g 12), .int .i64 (num g 4 4), .int .i64 (num g 8 4), .int .i64 0, .int .i64 0, .int .i64 0, .int .i64 0, .bool false, .int .i64 0, .slice none 0 0, .slice none 0 0]) rfl).drew_, (h2.out.alloc _).drew, (CR2.out.alloc _).drew_, (B2.out.alloc B2.out.size _).drew⟩
   case rest =>
    obtain ⟨L, rfl, hL, hCL, hA, hCR, hB⟩ := hcut
    replace hCL := hid hCL
    replace hCR := hid hCR
    replace hA := hid hA
    replace hB := hid hB
    have HLR : L ≠ w.heap.size := Nat.ne_of_gt hL
    have HRL : w.heap.size ≠ L := Nat.ne_of_lt hL
    have hBlt : b ≠ L := by omega
    have hBR : b ≠ w.heap.size := by omega
    clear CR2 B2 h2 lt2 H00
    rcases HGB.out.2 with ⟨k3, hn44⟩ | k2 | ⟨k1, k20, k21, k24⟩
    ·have q0 : (g 0 == 3) = true := by simpa using k3
     have HP3 : Hid (parseR g n = { kind := g 0, life := g 1, piece := g 12, src := num g 4 4, dst := num g 8 4, code := g 16, nd := n - 20, gd := fun j => g (20 + j) }) := hid (by rw [HPR.out]; unfold parseP; rw [if_pos k3])
     clear k3
     have gb16 := HG.out 16
     obtain ⟨gb16a, gb16b⟩ := gb16
     have c16 := hA.out.at_ (j := 16) (by omega)
     have i16 : (16 : Int) < n := by omega
     have i20 : (20 : Int) ≤ n := by omega
     have k20 : ¬ c = 20 := by omega
     have y0 := hCL.out.2.1 0 _ rfl
     have y1 := hCL.out.2.1 1 _ rfl
     have y2 := hCL.out.2.1 2 _ rfl
     have y3 := hCL.out.2.1 3 _ rfl
     have y4 := hCL.out.2.1 4 _ rfl
     have y5 := hCL.out.2.1 5 _ rfl
     have y6 := hCL.out.2.1 6 _ rfl
     have y7 := hCL.out.2.1 7 _ rfl
     have y8 := hCL.out.2.1 8 _ rfl
     have y9 := hCL.out.2.1 9 _ rfl
     have y10 := hCL.out.2.1 10 _ rfl
     have y11 := hCL.out.2.1 11 _ rfl
     have y12 := hCL.out.2.1 12 _ rfl
     have yf := hCL.out.2.2
     have HCL2 := fun v => hid (hCL.out.set 10 (.int .i64 v) (by simp))
     have HCR2 := fun v => hid (hCR.out.grown (gs 10 (.int .i64 v) (World.grownBy.refl wc (some L))) (fun e => HLR (by injection e)))
     have HA2 := fun v => hid (grow_by hA.out (gs 10 (.int .i64 v) (World.grownBy.refl wc (some L))) hBlt)
     go_wp2_with fail
     refine (clone_any _ (n - 20) _ (fun j => g (20 + j)) _ (Sl.cut (HA2 (g 16)).out (n - 20) (by omega)) (by omega)).mono ?_
     rintro x w2 ⟨G, rfl, hG, hO, hb⟩
     have hG2 : wc.heap.size ≤ G := by simpa using hG
     have hLc := hCL.out.1
     have HCL3 := hid ((HCL2 (g 16)).out.below hb)
     have HCR3 := hid ((HCR2 (g 16)).out.below hb)
     have HB3 := hid (then_ (hB.out.setCell (p := ⟨L, 10, none⟩) (Nat.le_of_lt hL) (.int .i64 (g 16))) hb)
     have HO3 := hid (OB.base hO (show wc.heap.size ≤ _ by simp))
     clear HCL2 HCR2 HA2 hb hO hG c16
     clear y0 y1 y2 y3 y4 y5 y6 y7 y8 y9 y10 y11 y12 yf
     have y0 := HCL3.out.2.1 0 _ rfl
     have y1 := HCL3.out.2.1 1 _ rfl
     have y2 := HCL3.out.2.1 2 _ rfl
     have y3 := HCL3.out.2.1 3 _ rfl
     have y4 := HCL3.out.2.1 4 _ rfl
     have y5 := HCL3.out.2.1 5 _ rfl
     have y6 := HCL3.out.2.1 6 _ rfl
     have y7 := HCL3.out.2.1 7 _ rfl
     have y8 := HCL3.out.2.1 8 _ rfl
     have y9 := HCL3.out.2.1 9 _ rfl
     have y10 := HCL3.out.2.1 10 _ rfl
     have y11 := HCL3.out.2.1 11 _ rfl
     have y12 := HCL3.out.2.1 12 _ rfl
     have yf := HCL3.out.2.2
     have z0 := HCR3.out.2.1 0 _ rfl
     have z1 := HCR3.out.2.1 1 _ rfl
     have z2 := HCR3.out.2.1 2 _ rfl
     have z3 := HCR3.out.2.1 3 _ rfl
     have z4 := HCR3.out.2.1 4 _ rfl
     have z5 := HCR3.out.2.1 5 _ rfl
     have z6 := HCR3.out.2.1 6 _ rfl
     have z7 := HCR3.out.2.1 7 _ rfl
     have z8 := HCR3.out.2.1 8 _ rfl
     have z9 := HCR3.out.2.1 9 _ rfl
     have z10 := HCR3.out.2.1 10 _ rfl
     have z11 := HCR3.out.2.1 11 _ rfl
     have z12 := HCR3.out.2.1 12 _ rfl
     have zf := HCR3.out.2.2
     have yl := HCL3.out.1
     have zl := HCR3.out.1
     go_wp2_with fail
     have CE := (HCR3.out.grown (gs 12 (.slice (some ⟨G, 0, none⟩) (n - 20) (n - 20)) (World.grownBy.refl w2 (some L))) (fun e => HLR (by injection e))).s13 (.int .i64 (g 0)) (.int .i64 (g 1)) (.int .i64 (g 12)) (.int .i64 (num g 4 4)) (.int .i64 (num g 8 4)) (.int .i64 0) (.int .i64 0) (.int .i64 0) (.int .i64 0) (.bool false) (.int .i64 (g 16)) (.slice none 0 0) (.slice (some ⟨G, 0, none⟩) (n - 20) (n - 20))
     have BE := below_s13 (b := w.heap.size) (HB3.out.setCell (p := ⟨L, 12, none⟩) (Nat.le_of_lt hL) (.slice (some ⟨G, 0, none⟩) (n - 20) (n - 20))) (Nat.le_refl _) (.int .i64 (g 0)) (.int .i64 (g 1)) (.int .i64 (g 12)) (.int .i64 (num g 4 4)) (.int .i64 (num g 8 4)) (.int .i64 0) (.int .i64 0) (.int .i64 0) (.int .i64 0) (.bool false) (.int .i64 (g 16)) (.slice none 0 0) (.slice (some ⟨G, 0, none⟩) (n - 20) (n - 20))
     have OE0 := OB.grown (OB.grown HO3.out (gs 12 (.slice (some ⟨G, 0, none⟩) (n - 20) (n - 20)) (World.grownBy.refl w2 (some L))) (OB.ne HO3.out hLc)) (grown_s13 _ w.heap.size (.int .i64 (g 0)) (.int .i64 (g 1)) (.int .i64 (g 12)) (.int .i64 (num g 4 4)) (.int .i64 (num g 8 4)) (.int .i64 0) (.int .i64 0) (.int .i64 0) (.int .i64 0) (.bool false) (.int .i64 (g 16)) (.slice none 0 0) (.slice (some ⟨G, 0, none⟩) (n - 20) (n - 20))) (OB.ne (OB.grown HO3.out (gs 12 (.slice (some ⟨G, 0, none⟩) (n - 20) (n - 20)) (World.grownBy.refl w2 (some L))) (OB.ne HO3.out hLc)) (by omega))
     unfold S13 at CE BE OE0
     replace CE := hid CE
     replace BE := hid BE
     replace OE0 := hid OE0
     refine at_world (fun w' => Ce w' w.heap.size [.int .i64 (g 0), .int .i64 (g 1), .int .i64 (g 12), .int .i64 (num g 4 4), .int .i64 (num g 8 4), .int .i64 0, .int .i64 0, .int .i64 0, .int .i64 0, .bool false, .int .i64 (g 16), .slice none 0 0, .slice (some ⟨G, 0, none⟩) (n - 20) (n - 20)] ∧ Below w.heap.size w w' ∧ OB w' wc.heap.size (.slice (some ⟨G, 0, none⟩) (n - 20) (n - 20)) (n - 20) (fun j => g (20 + j))) ⟨CE.out, BE.out, OE0.out⟩ (fun wf hwf => ?_)
     obtain ⟨hc2, hbf, ho0⟩ := hwf
     have y0 := hc2.2.1 0 _ rfl
     have y1 := hc2.2.1 1 _ rfl
     have y2 := hc2.2.1 2 _ rfl
     have y3 := hc2.2.1 3 _ rfl
     have y4 := hc2.2.1 4 _ rfl
     have y5 := hc2.2.1 5 _ rfl
     have y6 := hc2.2.1 6 _ rfl
     have y7 := hc2.2.1 7 _ rfl
     have y8 := hc2.2.1 8 _ rfl
     have y9 := hc2.2.1 9 _ rfl
     have y10 := hc2.2.1 10 _ rfl
     have y11 := hc2.2.1 11 _ rfl
     have y12 := hc2.2.1 12 _ rfl
     refine bodyPost_ret (v := .tuple #[.agg #[.int .i64 (g 0), .int .i64 (g 1), .int .i64 (g 12), .int .i64 (num g 4 4), .int .i64 (num g 8 4), .int .i64 0, .int .i64 0, .int .i64 0, .int .i64 0, .bool false, .int .i64 (g 16), .slice none 0 0, .slice (some ⟨G, 0, none⟩) (n - 20) (n - 20)], .int .i64 0]) (by simp [results, Tryz.results47, go_sem, y0, y1, y2, y3, y4, y5, y6, y7, y8, y9, y10, y11, y12]) rfl ?_
     refine ⟨.slice none 0 0, (.slice (some ⟨G, 0, none⟩) (n - 20) (n - 20)), by rw [HP3.out, HE.out]; rfl, by rw [HP3.out]; exact OB.nil, by rw [HP3.out]; exact OB.base ho0 (by omega), hbf⟩
    ·have q0 : (g 0 == 3) = false := by rw [k2]; rfl
     have q1 : (g 0 == 2) = true := by simpa using k2
     have HP2 : Hid (parseR g n = { kind := g 0, life := g 1, piece := g 12, src := num g 4 4, dst := num g 8 4, fp := num g 16 2, tp := num g 18 2, label := num g 20 2, bare := num g 22 2 == 0, nd := n - 24, gd := fun j => g (24 + j) }) := hid (by rw [HPR.out]; unfold parseP; rw [if_neg (by omega), if_pos k2])
     have HBF : Hid (bareF g = (num g 22 2 == 0)) := hid (by unfold bareF; rw [show (g 0 == 2) = true from by simpa using k2, Bool.true_and])
     have n24 := HGB.out.1
     clear k2
     obtain ⟨A9, r1, r2⟩ := cut_from_b (some ⟨b, off, none⟩) n c 24 n24 hc 24 rfl
     replace r2 := hid r2
     have PP := hid (fun (w' : World) (hw : By w' (some ⟨b, off, none⟩) n g) (a : Nat) (ha : a + 2 ≤ n) => pairn hw HG.out a ha hc hb)
     have i24 : (24 : Int) ≤ n := by omega
     have y0 := hCL.out.2.1 0 _ rfl
     have y1 := hCL.out.2.1 1 _ rfl
     have y2 := hCL.out.2.1 2 _ rfl
     have y3 := hCL.out.2.1 3 _ rfl
     have y4 := hCL.out.2.1 4 _ rfl
     have y5 := hCL.out.2.1 5 _ rfl
     have y6 := hCL.out.2.1 6 _ rfl
     have y7 := hCL.out.2.1 7 _ rfl
     have y8 := hCL.out.2.1 8 _ rfl
     have y9 := hCL.out.2.1 9 _ rfl
     have y10 := hCL.out.2.1 10 _ rfl
     have y11 := hCL.out.2.1 11 _ rfl
     have y12 := hCL.out.2.1 12 _ rfl
     have yf := hCL.out.2.2
     have yl := hCL.out.1
     go_wp2_with fail
     refine (PP.out _ hA.out 16 (by omega)).mono ?_
     rintro x w' ⟨rfl, rfl⟩
     go_wp2_with fail
     refine (PP.out _ hA.out 18 (by omega)).mono ?_
     rintro x w' ⟨rfl, rfl⟩
     have C2 := hid (((hCL.out).set 5 (.int .i64 (num g 16 2)) (by simp)).set 6 (.int .i64 (num g 18 2)) (by simp))
     have R2 := hid (hCR.out.grown (gs 6 (.int .i64 (num g 18 2)) (gs 5 (.int .i64 (num g 16 2)) (World.grownBy.refl wc (some L)))) (fun e => HLR (by injection e)))
     have A2 := hid (grow_by hA.out (gs 6 (.int .i64 (num g 18 2)) (gs 5 (.int .i64 (num g 16 2)) (World.grownBy.refl wc (some L)))) hBlt)
     have D2 := hid (((hB.out).setCell (p := ⟨L, 5, none⟩) (Nat.le_of_lt hL) (.int .i64 (num g 16 2))).setCell (p := ⟨L, 6, none⟩) (Nat.le_of_lt hL) (.int .i64 (num g 18 2)))
     have l2 := C2.out.1
     go_wp2_with fail
     refine (PP.out _ A2.out 20 (by omega)).mono ?_
     rintro x w' ⟨rfl, rfl⟩
     go_wp2_with fail
     refine (re_bool (isbare_any _ n c g _ A2.out HG.out (by omega) (.inr n24) hc hb) HBF.out).mono ?_
     rintro x w' ⟨rfl, rfl⟩
     have C3 := hid (((C2.out).set 8 (.int .i64 (num g 20 2)) (by simp)).set 9 (.bool (num g 22 2 == 0)) (by simp))
     have R3 := hid (R2.out.grown (gs 9 (.bool (num g 22 2 == 0)) (gs 8 (.int .i64 (num g 20 2)) (World.grownBy.refl ((wc.setCell ⟨L, 5, none⟩ (.int .i64 (num g 16 2))).setCell ⟨L, 6, none⟩ (.int .i64 (num g 18 2))) (some L)))) (fun e => HLR (by injection e)))
     have A3 := hid (grow_by A2.out (gs 9 (.bool (num g 22 2 == 0)) (gs 8 (.int .i64 (num g 20 2)) (World.grownBy.refl ((wc.setCell ⟨L, 5, none⟩ (.int .i64 (num g 16 2))).setCell ⟨L, 6, none⟩ (.int .i64 (num g 18 2))) (some L)))) hBlt)
     have D3 := hid (((D2.out).setCell (p := ⟨L, 8, none⟩) (Nat.le_of_lt hL) (.int .i64 (num g 20 2))).setCell (p := ⟨L, 9, none⟩) (Nat.le_of_lt hL) (.bool (num g 22 2 == 0)))
     go_wp2_with fail
     refine (clone_any _ (n - 24) _ (fun j => g (24 + j)) _ (r2.out _ g A3.out) (by omega)).mono ?_
     rintro x w4 ⟨G, rfl, hG, hO, hb_⟩
     have hG2 : wc.heap.size ≤ G := by simpa using hG
     have hLc := hCL.out.1
     have C4 := hid (C3.out.below hb_)
     have R4 := hid (R3.out.below hb_)
     have D4 := hid (then_ D3.out hb_)
     have O4 := hid (OB.base hO (show wc.heap.size ≤ _ by simp))
     clear C2 R2 A2 D2 C3 R3 A3 D3 hb_ hO hG PP
     clear y0 y1 y2 y3 y4 y5 y6 y7 y8 y9 y10 y11 y12 yf
     have y0 := C4.out.2.1 0 _ rfl
     have y1 := C4.out.2.1 1 _ rfl
     have y2 := C4.out.2.1 2 _ rfl
     have y3 := C4.out.2.1 3 _ rfl
     have y4 := C4.out.2.1 4 _ rfl
     have y5 := C4.out.2.1 5 _ rfl
     have y6 := C4.out.2.1 6 _ rfl
     have y7 := C4.out.2.1 7 _ rfl
     have y8 := C4.out.2.1 8 _ rfl
     have y9 := C4.out.2.1 9 _ rfl
     have y10 := C4.out.2.1 10 _ rfl
     have y11 := C4.out.2.1 11 _ rfl
     have y12 := C4.out.2.1 12 _ rfl
     have yf := C4.out.2.2
     have z0 := R4.out.2.1 0 _ rfl
     have z1 := R4.out.2.1 1 _ rfl
     have z2 := R4.out.2.1 2 _ rfl
     have z3 := R4.out.2.1 3 _ rfl
     have z4 := R4.out.2.1 4 _ rfl
     have z5 := R4.out.2.1 5 _ rfl
     have z6 := R4.out.2.1 6 _ rfl
     have z7 := R4.out.2.1 7 _ rfl
     have z8 := R4.out.2.1 8 _ rfl
     have z9 := R4.out.2.1 9 _ rfl
     have z10 := R4.out.2.1 10 _ rfl
     have z11 := R4.out.2.1 11 _ rfl
     have z12 := R4.out.2.1 12 _ rfl
     have zf := R4.out.2.2
     have yl2 := C4.out.1
     have zl := R4.out.1
     go_wp2_with fail
     have CE := (R4.out.grown (gs 12 (.slice (some ⟨G, 0, none⟩) (n - 24) (n - 24)) (World.grownBy.refl w4 (some L))) (fun e => HLR (by injection e))).s13 (.int .i64 (g 0)) (.int .i64 (g 1)) (.int .i64 (g 12)) (.int .i64 (num g 4 4)) (.int .i64 (num g 8 4)) (.int .i64 (num g 16 2)) (.int .i64 (num g 18 2)) (.int .i64 0) (.int .i64 (num g 20 2)) (.bool (num g 22 2 == 0)) (.int .i64 0) (.slice none 0 0) (.slice (some ⟨G, 0, none⟩) (n - 24) (n - 24))
     have BE := below_s13 (b := w.heap.size) (D4.out.setCell (p := ⟨L, 12, none⟩) (Nat.le_of_lt hL) (.slice (some ⟨G, 0, none⟩) (n - 24) (n - 24))) (Nat.le_refl _) (.int .i64 (g 0)) (.int .i64 (g 1)) (.int .i64 (g 12)) (.int .i64 (num g 4 4)) (.int .i64 (num g 8 4)) (.int .i64 (num g 16 2)) (.int .i64 (num g 18 2)) (.int .i64 0) (.int .i64 (num g 20 2)) (.bool (num g 22 2 == 0)) (.int .i64 0) (.slice none 0 0) (.slice (some ⟨G, 0, none⟩) (n - 24) (n - 24))
     have OE0 := OB.grown (OB.grown O4.out (gs 12 (.slice (some ⟨G, 0, none⟩) (n - 24) (n - 24)) (World.grownBy.refl w4 (some L))) (OB.ne O4.out hLc)) (grown_s13 _ w.heap.size (.int .i64 (g 0)) (.int .i64 (g 1)) (.int .i64 (g 12)) (.int .i64 (num g 4 4)) (.int .i64 (num g 8 4)) (.int .i64 (num g 16 2)) (.int .i64 (num g 18 2)) (.int .i64 0) (.int .i64 (num g 20 2)) (.bool (num g 22 2 == 0)) (.int .i64 0) (.slice none 0 0) (.slice (some ⟨G, 0, none⟩) (n - 24) (n - 24))) (OB.ne (OB.grown O4.out (gs 12 (.slice (some ⟨G, 0, none⟩) (n - 24) (n - 24)) (World.grownBy.refl w4 (some L))) (OB.ne O4.out hLc)) (by omega))
     unfold S13 at CE BE OE0
     replace CE := hid CE
     replace BE := hid BE
     replace OE0 := hid OE0
     refine at_world (fun w' => Ce w' w.heap.size [.int .i64 (g 0), .int .i64 (g 1), .int .i64 (g 12), .int .i64 (num g 4 4), .int .i64 (num g 8 4), .int .i64 (num g 16 2), .int .i64 (num g 18 2), .int .i64 0, .int .i64 (num g 20 2), .bool (num g 22 2 == 0), .int .i64 0, .slice none 0 0, .slice (some ⟨G, 0, none⟩) (n - 24) (n - 24)] ∧ Below w.heap.size w w' ∧ OB w' wc.heap.size (.slice (some ⟨G, 0, none⟩) (n - 24) (n - 24)) (n - 24) (fun j => g (24 + j))) ⟨CE.out, BE.out, OE0.out⟩ (fun wf hwf => ?_)
     obtain ⟨hc2, hbf, ho0⟩ := hwf
     have y0 := hc2.2.1 0 _ rfl
     have y1 := hc2.2.1 1 _ rfl
     have y2 := hc2.2.1 2 _ rfl
     have y3 := hc2.2.1 3 _ rfl
     have y4 := hc2.2.1 4 _ rfl
     have y5 := hc2.2.1 5 _ rfl
     have y6 := hc2.2.1 6 _ rfl
     have y7 := hc2.2.1 7 _ rfl
     have y8 := hc2.2.1 8 _ rfl
     have y9 := hc2.2.1 9 _ rfl
     have y10 := hc2.2.1 10 _ rfl
     have y11 := hc2.2.1 11 _ rfl
     have y12 := hc2.2.1 12 _ rfl
     refine bodyPost_ret (v := .tuple #[.agg #[.int .i64 (g 0), .int .i64 (g 1), .int .i64 (g 12), .int .i64 (num g 4 4), .int .i64 (num g 8 4), .int .i64 (num g 16 2), .int .i64 (num g 18 2), .int .i64 0, .int .i64 (num g 20 2), .bool (num g 22 2 == 0), .int .i64 0, .slice none 0 0, .slice (some ⟨G, 0, none⟩) (n - 24) (n - 24)], .int .i64 0]) (by simp [results, Tryz.results47, go_sem, y0, y1, y2, y3, y4, y5, y6, y7, y8, y9, y10, y11, y12]) rfl ?_
     refine ⟨.slice none 0 0, (.slice (some ⟨G, 0, none⟩) (n - 24) (n - 24)), by rw [HP2.out, HE.out]; rfl, by rw [HP2.out]; exact OB.nil, by rw [HP2.out]; exact OB.base ho0 (by omega), hbf⟩
    ·have q0 : (g 0 == 3) = false := by rw [k1]; rfl
     have q1 : (g 0 == 2) = false := by rw [k1]; rfl
     have HP1 : Hid (parseR g n = { kind := g 0, life := g 1, piece := g 12, src := num g 4 4, dst := num g 8 4, fp := num g 16 2, tp := num g 18 2, flags := g 20, no := (g 21).toNat, go := fun j => g (24 + j), nd := n - 24 - (g 21).toNat, gd := fun j => g (24 + (g 21).toNat + j) }) := hid (by rw [HPR.out]; unfold parseP; rw [if_neg (by omega), if_neg (by omega)])
     clear k1
     have n24 := HGB.out.1
     have gb21 := HG.out 21
     have gb20 := HG.out 20
     obtain ⟨gb20a, gb20b⟩ := gb20
     obtain ⟨q, hq⟩ : ∃ q : Nat, g 21 = (q : Int) := ⟨(g 21).toNat, by omega⟩
     rw [hq] at gb21 k21 k24
     obtain ⟨gb21a, gb21b⟩ := gb21
     have c21 := hA.out.at_ (j := 21) (by omega)
     rw [hq] at c21
     have HQ : Hid ((g 21).toNat = q) := hid (by omega)
     rw [HQ.out] at HP1
     have HQ2 := hid hq
     clear hq
     have i21 : (21 : Int) < n := by omega
     have i20 : (20 : Int) < n := by omega
     have PP := hid (fun (w' : World) (hw : By w' (some ⟨b, off, none⟩) n g) (a : Nat) (ha : a + 2 ≤ n) => pairn hw HG.out a ha hc hb)
     have i24 : (24 : Int) ≤ n := by omega
     have y0 := hCL.out.2.1 0 _ rfl
     have y1 := hCL.out.2.1 1 _ rfl
     have y2 := hCL.out.2.1 2 _ rfl
     have y3 := hCL.out.2.1 3 _ rfl
     have y4 := hCL.out.2.1 4 _ rfl
     have y5 := hCL.out.2.1 5 _ rfl
     have y6 := hCL.out.2.1 6 _ rfl
     have y7 := hCL.out.2.1 7 _ rfl
     have y8 := hCL.out.2.1 8 _ rfl
     have y9 := hCL.out.2.1 9 _ rfl
     have y10 := hCL.out.2.1 10 _ rfl
     have y11 := hCL.out.2.1 11 _ rfl
     have y12 := hCL.out.2.1 12 _ rfl
     have yf := hCL.out.2.2
     have yl := hCL.out.1
     go_wp2_with fail
     refine (PP.out _ hA.out 16 (by omega)).mono ?_
     rintro x w' ⟨rfl, rfl⟩
     go_wp2_with fail
     refine (PP.out _ hA.out 18 (by omega)).mono ?_
     rintro x w' ⟨rfl, rfl⟩
     have C2 := hid (((hCL.out).set 5 (.int .i64 (num g 16 2)) (by simp)).set 6 (.int .i64 (num g 18 2)) (by simp))
     have R2 := hid (hCR.out.grown (gs 6 (.int .i64 (num g 18 2)) (gs 5 (.int .i64 (num g 16 2)) (World.grownBy.refl wc (some L)))) (fun e => HLR (by injection e)))
     have A2 := hid (grow_by hA.out (gs 6 (.int .i64 (num g 18 2)) (gs 5 (.int .i64 (num g 16 2)) (World.grownBy.refl wc (some L)))) hBlt)
     have D2 := hid (((hB.out).setCell (p := ⟨L, 5, none⟩) (Nat.le_of_lt hL) (.int .i64 (num g 16 2))).setCell (p := ⟨L, 6, none⟩) (Nat.le_of_lt hL) (.int .i64 (num g 18 2)))
     have l2 := C2.out.1
     have c21b := A2.out.at_ (j := 21) (by omega)
     rw [HQ2.out] at c21b
     have c20 := A2.out.at_ (j := 20) (by omega)
     have C3 := hid ((C2.out).set 7 (.int .i64 (g 20)) (by simp))
     have R3 := hid (R2.out.grown (gs 7 (.int .i64 (g 20)) (World.grownBy.refl ((wc.setCell ⟨L, 5, none⟩ (.int .i64 (num g 16 2))).setCell ⟨L, 6, none⟩ (.int .i64 (num g 18 2))) (some L))) (fun e => HLR (by injection e)))
     have A3 := hid (grow_by A2.out (gs 7 (.int .i64 (g 20)) (World.grownBy.refl ((wc.setCell ⟨L, 5, none⟩ (.int .i64 (num g 16 2))).setCell ⟨L, 6, none⟩ (.int .i64 (num g 18 2))) (some L))) hBlt)
     have D3 := hid ((D2.out).setCell (p := ⟨L, 7, none⟩) (Nat.le_of_lt hL) (.int .i64 (g 20)))
     have hqn : 24 + q ≤ n := by omega
     obtain ⟨A8, r1, r2⟩ := cut_mid_b (some ⟨b, off, none⟩) n c 24 (24 + q) (by omega) hqn hc 24 (24 + (q : Int)) rfl (by omega)
     rw [show 24 + q - 24 = q from by omega] at r1 r2
     obtain ⟨A9, s1, s2⟩ := cut_from_b (some ⟨b, off, none⟩) n c (24 + q) hqn hc (24 + (q : Int)) (by omega)
     rw [show n - (24 + q) = n - 24 - q from by omega] at s1 s2
     replace r2 := hid r2
     replace s2 := hid s2
     have lw := C3.out.1
     have hLc := hCL.out.1
     go_upto_region 19 with (fail)
     clear c20 c21 c21b y0 y1 y2 y3 y4 y5 y6 y7 y8 y9 y10 y11 y12 yf yl PP C2 R2 A2 D2 hCL hCR hA hB
     have hLb : L < (((wc.setCell ⟨L, 5, none⟩ (.int .i64 (num g 16 2))).setCell ⟨L, 6, none⟩ (.int .i64 (num g 18 2))).setCell ⟨L, 7, none⟩ (.int .i64 (g 20))).heap.size := by simpa using hLc
     generalize (((wc.setCell ⟨L, 5, none⟩ (.int .i64 (num g 16 2))).setCell ⟨L, 6, none⟩ (.int .i64 (num g 18 2))).setCell ⟨L, 7, none⟩ (.int .i64 (g 20))) = wq at *
     refine wp_region_held_drew (S := fun w' => By w' (some ⟨b, off, none⟩) n g ∧ Ce w' w.heap.size [.int .i64 0, .int .i64 0, .int .i64 0, .int .i64 0, .int .i64 0, .int .i64 0, .int .i64 0, .int .i64 0, .int .i64 0, .bool false, .int .i64 0, .slice none 0 0, .slice none 0 0] ∧ Below w.heap.size w w') (by kernel_rfl) ?_ (fun hHeld => ?_)
     ·exact ⟨A3.out.drew, R3.out, below_drewN D3.out 1⟩
     refine tkq 0 (by assumption) ?_
     refine tkq 1 (by assumption) ?_
     refine tkq 2 (by assumption) ?_
     refine tkq 4 (by assumption) ?_
     refine tkq 5 (by assumption) ?_
     refine tkq 6 (by assumption) ?_
     refine only 3 rfl (by kernel_rfl) rfl (fun K hK => ?_)
     go_simp
     refine (clone_any _ q _ (fun j => g (24 + j)) _ (r2.out _ g hHeld.1) (by omega)).mono ?_
     rintro x w5 ⟨G1, rfl, hGG1, hOG1, hbG1⟩
     try go_wp2_with fail
     have hH5 : By w5 (some ⟨b, off, none⟩) n g ∧ Ce w5 w.heap.size [.int .i64 0, .int .i64 0, .int .i64 0, .int .i64 0, .int .i64 0, .int .i64 0, .int .i64 0, .int .i64 0, .int .i64 0, .bool false, .int .i64 0, .slice none 0 0, .slice none 0 0] ∧ Below w.heap.size w w5 := ⟨hHeld.1.below hbG1 (Nat.le_refl _), hHeld.2.1.below hbG1, then_ hHeld.2.2 hbG1⟩
     refine hK.out _ _ hH5 (fun _ => ?_)
     clear hK
     try simp only [Act.put, List.setIfInBounds_toArray, List.set_cons_zero, List.set_cons_succ]
     refine tkq 8 hH5 ?_
     refine only 7 rfl (by kernel_rfl) rfl (fun K hK => ?_)
     go_simp
     refine (clone_any _ (n - 24 - q) _ (fun j => g (24 + q + j)) _ (s2.out _ g hH5.1) (by omega)).mono ?_
     rintro x w6 ⟨G2, rfl, hGG2, hOG2, hbG2⟩
     try go_wp2_with fail
     have hH6 : By w6 (some ⟨b, off, none⟩) n g ∧ Ce w6 w.heap.size [.int .i64 0, .int .i64 0, .int .i64 0, .int .i64 0, .int .i64 0, .int .i64 0, .int .i64 0, .int .i64 0, .int .i64 0, .bool false, .int .i64 0, .slice none 0 0, .slice none 0 0] ∧ Below w.heap.size w w6 := ⟨hH5.1.below hbG2 (Nat.le_refl _), hH5.2.1.below hbG2, then_ hH5.2.2 hbG2⟩
     refine hK.out _ _ hH6 (fun _ => ?_)
     clear hK
     try simp only [Act.put, List.setIfInBounds_toArray, List.set_cons_zero, List.set_cons_succ]
     have hq5 : wq.heap.size ≤ w5.heap.size := by have := hbG1.size; simpa using this
     have OO := hid ((OB.base hOG1 (show L + 1 ≤ _ by simp; omega)).keep_ hbG2)
     have OD := hid (OB.base hOG2 (show L + 1 ≤ w5.heap.size by omega))
     have C6 := hid ((C3.out.drew_.below hbG1).below hbG2)
     have y0 := C6.out.2.1 0 _ rfl
     have y1 := C6.out.2.1 1 _ rfl
     have y2 := C6.out.2.1 2 _ rfl
     have y3 := C6.out.2.1 3 _ rfl
     have y4 := C6.out.2.1 4 _ rfl
     have y5 := C6.out.2.1 5 _ rfl
     have y6 := C6.out.2.1 6 _ rfl
     have y7 := C6.out.2.1 7 _ rfl
     have y8 := C6.out.2.1 8 _ rfl
     have y9 := C6.out.2.1 9 _ rfl
     have y10 := C6.out.2.1 10 _ rfl
     have y11 := C6.out.2.1 11 _ rfl
     have y12 := C6.out.2.1 12 _ rfl
     have yf := C6.out.2.2
     have yl := C6.out.1
     have HH6 := hid hH6
     clear hHeld hH5 hOG1 hOG2
     clear hH6
     refine only 9 rfl (by kernel_rfl) rfl (fun K hK => ?_)
     go_simp
     refine hK.out _ _ ⟨grow_by HH6.out.1 (gs 11 (.slice (some ⟨G1, 0, none⟩) q q) (World.grownBy.refl w6 (some L))) hBlt, HH6.out.2.1.grown (gs 11 (.slice (some ⟨G1, 0, none⟩) q q) (World.grownBy.refl w6 (some L))) (fun e => HLR (by injection e)), HH6.out.2.2.setCell (p := ⟨L, 11, none⟩) (Nat.le_of_lt hL) (.slice (some ⟨G1, 0, none⟩) q q)⟩ (fun hH9 => ?_)
     clear hK
     try simp only [Act.put, List.setIfInBounds_toArray, List.set_cons_zero, List.set_cons_succ]
     refine tkq 10 hH9 ?_
     clear hH9
     refine only 11 rfl (by kernel_rfl) rfl (fun K hK => ?_)
     go_simp
     refine hK.out _ _ ⟨grow_by HH6.out.1 (gs 12 (.slice (some ⟨G2, 0, none⟩) (n - 24 - q) (n - 24 - q)) (gs 11 (.slice (some ⟨G1, 0, none⟩) q q) (World.grownBy.refl w6 (some L)))) hBlt, HH6.out.2.1.grown (gs 12 (.slice (some ⟨G2, 0, none⟩) (n - 24 - q) (n - 24 - q)) (gs 11 (.slice (some ⟨G1, 0, none⟩) q q) (World.grownBy.refl w6 (some L)))) (fun e => HLR (by injection e)), (HH6.out.2.2.setCell (p := ⟨L, 11, none⟩) (Nat.le_of_lt hL) (.slice (some ⟨G1, 0, none⟩) q q)).setCell (p := ⟨L, 12, none⟩) (Nat.le_of_lt hL) (.slice (some ⟨G2, 0, none⟩) (n - 24 - q) (n - 24 - q))⟩ (fun _ => ?_)
     clear hK
     try simp only [Act.put, List.setIfInBounds_toArray, List.set_cons_zero, List.set_cons_succ]
     refine wpAnyH_done (by kernel_rfl) ?_ _
     have C7 := hid ((C6.out.set 11 (.slice (some ⟨G1, 0, none⟩) q q) (by simp)).set 12 (.slice (some ⟨G2, 0, none⟩) (n - 24 - q) (n - 24 - q)) (by simp))
     have R7 := hid (HH6.out.2.1.grown (gs 12 (.slice (some ⟨G2, 0, none⟩) (n - 24 - q) (n - 24 - q)) (gs 11 (.slice (some ⟨G1, 0, none⟩) q q) (World.grownBy.refl w6 (some L)))) (fun e => HLR (by injection e)))
     have D7 := hid ((HH6.out.2.2.setCell (p := ⟨L, 11, none⟩) (Nat.le_of_lt hL) (.slice (some ⟨G1, 0, none⟩) q q)).setCell (p := ⟨L, 12, none⟩) (Nat.le_of_lt hL) (.slice (some ⟨G2, 0, none⟩) (n - 24 - q) (n - 24 - q)))
     have OO7 := hid (OB.grown OO.out (gs 12 (.slice (some ⟨G2, 0, none⟩) (n - 24 - q) (n - 24 - q)) (gs 11 (.slice (some ⟨G1, 0, none⟩) q q) (World.grownBy.refl w6 (some L)))) (OB.ne OO.out (by omega)))
     have OD7 := hid (OB.grown OD.out (gs 12 (.slice (some ⟨G2, 0, none⟩) (n - 24 - q) (n - 24 - q)) (gs 11 (.slice (some ⟨G1, 0, none⟩) q q) (World.grownBy.refl w6 (some L)))) (OB.ne OD.out (by omega)))
     clear y0 y1 y2 y3 y4 y5 y6 y7 y8 y9 y10 y11 y12 yf yl
     generalize (w6.setCell ⟨L, 11, none⟩ (.slice (some ⟨G1, 0, none⟩) q q)).setCell ⟨L, 12, none⟩ (.slice (some ⟨G2, 0, none⟩) (n - 24 - q) (n - 24 - q)) = w7 at *
     have y0 := C7.out.2.1 0 _ rfl
     have y1 := C7.out.2.1 1 _ rfl
     have y2 := C7.out.2.1 2 _ rfl
     have y3 := C7.out.2.1 3 _ rfl
     have y4 := C7.out.2.1 4 _ rfl
     have y5 := C7.out.2.1 5 _ rfl
     have y6 := C7.out.2.1 6 _ rfl
     have y7 := C7.out.2.1 7 _ rfl
     have y8 := C7.out.2.1 8 _ rfl
     have y9 := C7.out.2.1 9 _ rfl
     have y10 := C7.out.2.1 10 _ rfl
     have y11 := C7.out.2.1 11 _ rfl
     have y12 := C7.out.2.1 12 _ rfl
     have yf := C7.out.2.2
     have z0 := R7.out.2.1 0 _ rfl
     have z1 := R7.out.2.1 1 _ rfl
     have z2 := R7.out.2.1 2 _ rfl
     have z3 := R7.out.2.1 3 _ rfl
     have z4 := R7.out.2.1 4 _ rfl
     have z5 := R7.out.2.1 5 _ rfl
     have z6 := R7.out.2.1 6 _ rfl
     have z7 := R7.out.2.1 7 _ rfl
     have z8 := R7.out.2.1 8 _ rfl
     have z9 := R7.out.2.1 9 _ rfl
     have z10 := R7.out.2.1 10 _ rfl
     have z11 := R7.out.2.1 11 _ rfl
     have z12 := R7.out.2.1 12 _ rfl
     have zf := R7.out.2.2
     have yl := C7.out.1
     have zl := R7.out.1
     go_wp2_with fail
     have CE := (R7.out).s13 (.int .i64 (g 0)) (.int .i64 (g 1)) (.int .i64 (g 12)) (.int .i64 (num g 4 4)) (.int .i64 (num g 8 4)) (.int .i64 (num g 16 2)) (.int .i64 (num g 18 2)) (.int .i64 (g 20)) (.int .i64 0) (.bool false) (.int .i64 0) (.slice (some ⟨G1, 0, none⟩) q q) (.slice (some ⟨G2, 0, none⟩) (n - 24 - q) (n - 24 - q))
     have BE := below_s13 (b := w.heap.size) (D7.out) (Nat.le_refl _) (.int .i64 (g 0)) (.int .i64 (g 1)) (.int .i64 (g 12)) (.int .i64 (num g 4 4)) (.int .i64 (num g 8 4)) (.int .i64 (num g 16 2)) (.int .i64 (num g 18 2)) (.int .i64 (g 20)) (.int .i64 0) (.bool false) (.int .i64 0) (.slice (some ⟨G1, 0, none⟩) q q) (.slice (some ⟨G2, 0, none⟩) (n - 24 - q) (n - 24 - q))
     have OE0 := OB.grown (OO7.out) (grown_s13 _ w.heap.size (.int .i64 (g 0)) (.int .i64 (g 1)) (.int .i64 (g 12)) (.int .i64 (num g 4 4)) (.int .i64 (num g 8 4)) (.int .i64 (num g 16 2)) (.int .i64 (num g 18 2)) (.int .i64 (g 20)) (.int .i64 0) (.bool false) (.int .i64 0) (.slice (some ⟨G1, 0, none⟩) q q) (.slice (some ⟨G2, 0, none⟩) (n - 24 - q) (n - 24 - q))) (OB.ne (OO7.out) (by omega))
     have OE1 := OB.grown (OD7.out) (grown_s13 _ w.heap.size (.int .i64 (g 0)) (.int .i64 (g 1)) (.int .i64 (g 12)) (.int .i64 (num g 4 4)) (.int .i64 (num g 8 4)) (.int .i64 (num g 16 2)) (.int .i64 (num g 18 2)) (.int .i64 (g 20)) (.int .i64 0) (.bool false) (.int .i64 0) (.slice (some ⟨G1, 0, none⟩) q q) (.slice (some ⟨G2, 0, none⟩) (n - 24 - q) (n - 24 - q))) (OB.ne (OD7.out) (by omega))
     unfold S13 at CE BE OE0 OE1
     replace CE := hid CE
     replace BE := hid BE
     replace OE0 := hid OE0
     replace OE1 := hid OE1
     refine at_world (fun w' => Ce w' w.heap.size [.int .i64 (g 0), .int .i64 (g 1), .int .i64 (g 12), .int .i64 (num g 4 4), .int .i64 (num g 8 4), .int .i64 (num g 16 2), .int .i64 (num g 18 2), .int .i64 (g 20), .int .i64 0, .bool false, .int .i64 0, .slice (some ⟨G1, 0, none⟩) q q, .slice (some ⟨G2, 0, none⟩) (n - 24 - q) (n - 24 - q)] ∧ Below w.heap.size w w' ∧ OB w' (L + 1) (.slice (some ⟨G1, 0, none⟩) q q) q (fun j => g (24 + j)) ∧ OB w' (L + 1) (.slice (some ⟨G2, 0, none⟩) (n - 24 - q) (n - 24 - q)) (n - 24 - q) (fun j => g (24 + q + j))) ⟨CE.out, BE.out, OE0.out, OE1.out⟩ (fun wf hwf => ?_)
     obtain ⟨hc2, hbf, ho0, ho1⟩ := hwf
     have y0 := hc2.2.1 0 _ rfl
     have y1 := hc2.2.1 1 _ rfl
     have y2 := hc2.2.1 2 _ rfl
     have y3 := hc2.2.1 3 _ rfl
     have y4 := hc2.2.1 4 _ rfl
     have y5 := hc2.2.1 5 _ rfl
     have y6 := hc2.2.1 6 _ rfl
     have y7 := hc2.2.1 7 _ rfl
     have y8 := hc2.2.1 8 _ rfl
     have y9 := hc2.2.1 9 _ rfl
     have y10 := hc2.2.1 10 _ rfl
     have y11 := hc2.2.1 11 _ rfl
     have y12 := hc2.2.1 12 _ rfl
     refine bodyPost_ret (v := .tuple #[.agg #[.int .i64 (g 0), .int .i64 (g 1), .int .i64 (g 12), .int .i64 (num g 4 4), .int .i64 (num g 8 4), .int .i64 (num g 16 2), .int .i64 (num g 18 2), .int .i64 (g 20), .int .i64 0, .bool false, .int .i64 0, .slice (some ⟨G1, 0, none⟩) q q, .slice (some ⟨G2, 0, none⟩) (n - 24 - q) (n - 24 - q)], .int .i64 0]) (by simp [results, Tryz.results47, go_sem, y0, y1, y2, y3, y4, y5, y6, y7, y8, y9, y10, y11, y12]) rfl ?_
     refine ⟨(.slice (some ⟨G1, 0, none⟩) q q), (.slice (some ⟨G2, 0, none⟩) (n - 24 - q) (n - 24 - q)), by rw [HP1.out, HE.out]; rfl, by rw [HP1.out]; exact OB.base ho0 (by omega), by rw [HP1.out]; exact OB.base ho1 (by omega), hbf⟩
  ·have e1 : (be != 0) = true := by simpa using b0
   have e2 : (be == 0) = false := by simpa using b0
   have HR : Hid (parseR g n = {}) := hid (by unfold parseR; rw [hE, if_neg b0])
   have HE := hid hE
   have h0' := hid (h.below ((Below.refl _ _).alloc (Nat.le_refl _) (.cells #[.int .i64 0, .int .i64 0, .int .i64 0, .int .i64 0, .int .i64 0, .int .i64 0, .int .i64 0, .int .i64 0, .int .i64 0, .bool false, .int .i64 0, .slice none 0 0, .slice none 0 0] 39)) (Nat.le_refl _))
   clear hhe hbe hh hE h b0 hg
   go_enter Tryz.func47, Tryz.ntmps47
   go_wp2_with fail
   refine (HH.out _ h0'.out).mono ?_
   rintro x w' ⟨rfl, m, rfl⟩
   go_wp2_with fail
   refine (HB.out _ (Sl.drewN h0'.out m)).mono ?_
   rintro x w' ⟨rfl, rfl⟩
   go_wp2_with fail
   have CE := hid (((Ce.made (w := w) (l := [.int .i64 0, .int .i64 0, .int .i64 0, .int .i64 0, .int .i64 0, .int .i64 0, .int .i64 0, .int .i64 0, .int .i64 0, .bool false, .int .i64 0, .slice none 0 0, .slice none 0 0]) (T := 39) rfl).below (below_drewN (Below.refl _ _) m)).s13 (.int .i64 0) (.int .i64 0) (.int .i64 0) (.int .i64 0) (.int .i64 0) (.int .i64 0) (.int .i64 0) (.int .i64 0) (.int .i64 0) (.bool false) (.int .i64 0) (.slice none 0 0) (.slice none 0 0))
   refine at_world (fun w' => Ce w' w.heap.size [.int .i64 0, .int .i64 0, .int .i64 0, .int .i64 0, .int .i64 0, .int .i64 0, .int .i64 0, .int .i64 0, .int .i64 0, .bool false, .int .i64 0, .slice none 0 0, .slice none 0 0] ∧ Below w.heap.size w w') ⟨CE.out, ?_⟩ (fun wf hwf => ?_)
   ·have BS := fun o a0 a1 a2 a3 a4 a5 a6 a7 a8 a9 a10 a11 a12 => below_s13 (b := w.heap.size) (below_drewN ((Below.refl w.heap.size w).alloc (Nat.le_refl _) o) m) (Nat.le_refl _) a0 a1 a2 a3 a4 a5 a6 a7 a8 a9 a10 a11 a12
    unfold S13 at BS
    exact BS _ _ _ _ _ _ _ _ _ _ _ _ _ _
   ·obtain ⟨hc2, hbf⟩ := hwf
    have y0 := hc2.2.1 0 _ rfl
    have y1 := hc2.2.1 1 _ rfl
    have y2 := hc2.2.1 2 _ rfl
    have y3 := hc2.2.1 3 _ rfl
    have y4 := hc2.2.1 4 _ rfl
    have y5 := hc2.2.1 5 _ rfl
    have y6 := hc2.2.1 6 _ rfl
    have y7 := hc2.2.1 7 _ rfl
    have y8 := hc2.2.1 8 _ rfl
    have y9 := hc2.2.1 9 _ rfl
    have y10 := hc2.2.1 10 _ rfl
    have y11 := hc2.2.1 11 _ rfl
    have y12 := hc2.2.1 12 _ rfl
    refine bodyPost_ret (v := .tuple #[pkV {} (.slice none 0 0) (.slice none 0 0), .int .i64 be]) (by simp [results, Tryz.results47, go_sem, pkV, pkL, y0, y1, y2, y3, y4, y5, y6, y7, y8, y9, y10, y11, y12]) rfl ?_
    exact ⟨.slice none 0 0, .slice none 0 0, by rw [HR.out, HE.out], by rw [HR.out]; exact OB.nil, by rw [HR.out]; exact OB.nil, hbf⟩
 ·have e1 : (he != 0) = true := by simpa using h0
  have e2 : (he == 0) = false := by simpa using h0
  have hE : parseE g n = he := by unfold parseE; rw [← hhe, if_neg h0]
  have HR : Hid (parseR g n = {}) := hid (by unfold parseR; rw [hE, if_neg h0])
  have HE := hid hE
  have h0' := hid (h.below ((Below.refl _ _).alloc (Nat.le_refl _) (.cells #[.int .i64 0, .int .i64 0, .int .i64 0, .int .i64 0, .int .i64 0, .int .i64 0, .int .i64 0, .int .i64 0, .int .i64 0, .bool false, .int .i64 0, .slice none 0 0, .slice none 0 0] 39)) (Nat.le_refl _))
  clear hhe hE h h0 hg
  go_enter Tryz.func47, Tryz.ntmps47
  go_wp2_with fail
  refine (HH.out _ h0'.out).mono ?_
  rintro x w' ⟨rfl, m, rfl⟩
  go_wp2_with fail
  have CE := hid (((Ce.made (w := w) (l := [.int .i64 0, .int .i64 0, .int .i64 0, .int .i64 0, .int .i64 0, .int .i64 0, .int .i64 0, .int .i64 0, .int .i64 0, .bool false, .int .i64 0, .slice none 0 0, .slice none 0 0]) (T := 39) rfl).below (below_drewN (Below.refl _ _) m)).s13 (.int .i64 0) (.int .i64 0) (.int .i64 0) (.int .i64 0) (.int .i64 0) (.int .i64 0) (.int .i64 0) (.int .i64 0) (.int .i64 0) (.bool false) (.int .i64 0) (.slice none 0 0) (.slice none 0 0))
  refine at_world (fun w' => Ce w' w.heap.size [.int .i64 0, .int .i64 0, .int .i64 0, .int .i64 0, .int .i64 0, .int .i64 0, .int .i64 0, .int .i64 0, .int .i64 0, .bool false, .int .i64 0, .slice none 0 0, .slice none 0 0] ∧ Below w.heap.size w w') ⟨CE.out, ?_⟩ (fun wf hwf => ?_)
  ·have BS := fun o a0 a1 a2 a3 a4 a5 a6 a7 a8 a9 a10 a11 a12 => below_s13 (b := w.heap.size) (below_drewN ((Below.refl w.heap.size w).alloc (Nat.le_refl _) o) m) (Nat.le_refl _) a0 a1 a2 a3 a4 a5 a6 a7 a8 a9 a10 a11 a12
   unfold S13 at BS
   exact BS _ _ _ _ _ _ _ _ _ _ _ _ _ _
  ·obtain ⟨hc2, hbf⟩ := hwf
   have y0 := hc2.2.1 0 _ rfl
   have y1 := hc2.2.1 1 _ rfl
   have y2 := hc2.2.1 2 _ rfl
   have y3 := hc2.2.1 3 _ rfl
   have y4 := hc2.2.1 4 _ rfl
   have y5 := hc2.2.1 5 _ rfl
   have y6 := hc2.2.1 6 _ rfl
   have y7 := hc2.2.1 7 _ rfl
   have y8 := hc2.2.1 8 _ rfl
   have y9 := hc2.2.1 9 _ rfl
   have y10 := hc2.2.1 10 _ rfl
   have y11 := hc2.2.1 11 _ rfl
   have y12 := hc2.2.1 12 _ rfl
   refine bodyPost_ret (v := .tuple #[pkV {} (.slice none 0 0) (.slice none 0 0), .int .i64 he]) (by simp [results, Tryz.results47, go_sem, pkV, pkL, y0, y1, y2, y3, y4, y5, y6, y7, y8, y9, y10, y11, y12]) rfl ?_
   exact ⟨.slice none 0 0, .slice none 0 0, by rw [HR.out, HE.out], by rw [HR.out]; exact OB.nil, by rw [HR.out]; exact OB.nil, hbf⟩
end Go.Proofs.YteapnfdpkjbfhaaGreat
namespace Go.Proofs.YteapnfdpkjbfhaaGreat
set_option linter.unusedVariables false
set_option linter.unusedSimpArgs false
open Go.RowKit Go.ChangeShapes Go.WideShapes Go.ChangeAt
theorem grown_drew {w w' : World} {r : Option Nat} (h : w.drew.grownBy w' r) : w.grownBy w' r := ⟨h.os, h.tape, h.output, h.size, h.block⟩
theorem cut_put {G n c : Nat} (a m : Nat) (h : a + m ≤ n) (hc : n ≤ c) (hm : 0 < m) (x y z : Int) (hx : x = a) (hy : y = (a : Int) + m) (hz : z = (a : Int) + m) (W : World) :
 (Instr.slice 37 (.slice (some ⟨G, 0, none⟩) n c) (some (.int .i64 x)) (some (.int .i64 y)) (some (.int .i64 z))).run Tryz.prog W = .ok (.slice (some ⟨G, a, none⟩) m m) W := by
 subst hx
 subst hy
 subst hz
 rw [run_slice_lhm W 37 _ n c elem_b .i64 .i64 .i64 _ _ _ (by omega) (by omega) (by omega) (by omega), size_b W]
 have e1 : ((a : Int) + m).toNat = a + m := by omega
 simp only [Result.andThen, sliced, Int.toNat_natCast, e1, Option.map_some, Addr.add, Nat.mul_one, Nat.zero_add]
 rw [if_neg (by omega), Nat.add_sub_cancel_left]
 by_cases h0 : a = 0
 ·rw [if_pos h0, h0]
 ·rw [if_neg h0]
theorem num2_bd {g : Nat → Int} (hg : IsB g) (a : Nat) : 0 ≤ num g a 2 ∧ num g a 2 ≤ 65535 := by
 have h := num_bd hg a 2
 have h2 : (256 : Int) ^ 2 = 65536 := by decide
 omega
set_option maxHeartbeats 4000000 in
theorem wturn_any {w : World} {B G n c : Nat} {g : Nat → Int} (O : OB w B (.slice (some ⟨G, 0, none⟩) n c) n g) (hg : IsB g) (a : Nat) (h : a + 2 ≤ n) (hc : n ≤ c) (hn : n ≤ 1000000) (x y : Int) (hx0 : 0 ≤ x) (hx : x ≤ 65535) (hy0 : 0 ≤ y) (hy : y ≤ 65535) :
 Calls Tryz.prog 133 #[.slice (some ⟨G, 0, none⟩) n c, .int .i64 a, .int .i64 x, .int .i64 y] w fun e w' => e = .returned (.tuple #[]) ∧ OB w' B (.slice (some ⟨G, 0, none⟩) n c) n (putF g a 2 (turn (num g a 2) x y)) ∧ w.grownBy w' (some G) := by
 have q2 : IntKind.i64.wrap ((a : Int) + 2) = (a : Int) + 2 := IntWalk.i64_in _ (by omega)
 have CP := fun W => cut_put (G := G) (n := n) (c := c) a 2 h hc (by omega) a (a + 2) (a + 2) rfl rfl rfl W
 have nb := num2_bd hg a
 have HT := hid (fun w => turn_any (num g a 2) x y w nb.1 nb.2 hx0 hx hy0 hy)
 have HP := hid (fun (w' : World) (o : OB w' B (.slice (some ⟨G, 0, none⟩) n c) n g) => re_i64 (pair_any_ (some ⟨G, 0, none⟩) n c g w' o.sl1 hg a (by omega) hc hn) (show pairF g n a = num g a 2 from by unfold pairF; rw [if_neg (by omega)]))
 have HO := hid O
 clear O nb
 go_enter Tryz.func133, Tryz.ntmps133
 go_wp2_with fail
 refine wp_region_held_drew (S := fun _ => True) (by kernel_rfl) trivial (fun hHeld => ?_)
 refine tkq 0 (by assumption) ?_
 refine tkq 1 (by assumption) ?_
 refine tkq 2 (by assumption) ?_
 refine tkq 3 (by assumption) ?_
 refine tkq 4 (by assumption) ?_
 refine tkq 5 (by assumption) ?_
 refine tkq 6 (by assumption) ?_
 refine tkq 7 (by assumption) ?_
 refine tkq 8 (by assumption) ?_
 refine tkq 10 (by assumption) ?_
 refine tkq 11 (by assumption) ?_
 refine only 9 rfl (by kernel_rfl) rfl (fun K hK => ?_)
 go_simp
 refine (HP.out _ (Ow.drew HO.out)).mono ?_
 rintro e' w' ⟨rfl, rfl⟩
 try go_wp2_with fail
 refine hK.out _ _ trivial (fun _ => ?_)
 clear hK
 try simp only [Act.put, List.setIfInBounds_toArray, List.set_cons_zero, List.set_cons_succ]
 refine only 12 rfl (by kernel_rfl) rfl (fun K hK => ?_)
 go_simp
 refine (HT.out _).mono ?_
 rintro e' w' ⟨rfl, rfl⟩
 try go_wp2_with fail
 refine hK.out _ _ trivial (fun _ => ?_)
 clear hK
 try simp only [Act.put, List.setIfInBounds_toArray, List.set_cons_zero, List.set_cons_succ]
 refine only 13 rfl (by kernel_rfl) rfl (fun K hK => ?_)
 go_simp
 refine (put_anyW (Ow.drew HO.out) a 2 2 (turn (num g a 2) x y) h (by omega)).mono ?_
 rintro e' w' ⟨rfl, ho, hw⟩
 try go_wp2_with fail
 refine hK.out _ _ trivial (fun _ => ?_)
 clear hK
 try simp only [Act.put, List.setIfInBounds_toArray, List.set_cons_zero, List.set_cons_succ]
 refine wpAnyH_done (by kernel_rfl) ?_ _
 go_wp2_with fail
 go_end0
 exact ⟨rfl, ho, grown_drew hw⟩
/-- A gram's sum that came out as 0. -/
def fillF (g : Nat → Int) : Nat → Int := if bareF g = true then putF g 22 2 65535 else g
theorem fillF_B {g : Nat → Int} (hg : IsB g) : IsB (fillF g) := by unfold fillF; split; exact putF_B hg _ _ _; exact hg
set_option maxHeartbeats 4000000 in
theorem fill_any {w : World} {B G n c : Nat} {g : Nat → Int} (O : OB w B (.slice (some ⟨G, 0, none⟩) n c) n g) (hg : IsB g) (h0 : 0 < n) (hk : g 0 = 3 ∨ 24 ≤ n) (hc : n ≤ c) (hn : n ≤ 1000000) :
 Calls Tryz.prog 140 #[.slice (some ⟨G, 0, none⟩) n c] w fun e w' => e = .returned (.tuple #[]) ∧ OB w' B (.slice (some ⟨G, 0, none⟩) n c) n (fillF g) ∧ w.grownBy w' (some G) := by
 have HB := hid (isbare_any (some ⟨G, 0, none⟩) n c g w O.sl1 hg h0 hk hc hn)
 have HO := hid O
 have h24 : bareF g = true → 24 ≤ n := by
  intro hb
  rcases hk with h3 | h3
  ·unfold bareF at hb; rw [h3] at hb; cases hb
  ·exact h3
 unfold fillF
 cases hb : bareF g
 ·rw [hb] at HB
  clear h24 O hk
  rw [if_neg (by decide)]
  go_enter Tryz.func140, Tryz.ntmps140
  go_wp2_with fail
  refine HB.out.mono ?_
  rintro x w' ⟨rfl, rfl⟩
  go_wp2_with fail
  go_end0
  exact ⟨rfl, HO.out, World.grownBy.refl _ _⟩
 ·rw [hb] at HB
  have h24 := h24 hb
  have CP := fun W => cut_put (G := G) (n := n) (c := c) 22 2 (by omega) hc (by omega) 22 24 24 rfl rfl rfl W
  have i24 : (24 : Int) ≤ c := by omega
  clear O hk
  rw [if_pos rfl]
  go_enter Tryz.func140, Tryz.ntmps140
  go_wp2_with fail
  refine HB.out.mono ?_
  rintro x w' ⟨rfl, rfl⟩
  go_wp2_with fail
  refine (put_anyW HO.out 22 2 2 65535 (by omega) (by omega)).mono ?_
  rintro x w' ⟨rfl, ho, hw⟩
  go_wp2_with fail
  go_end0
  exact ⟨rfl, ho, hw⟩
end Go.Proofs.YteapnfdpkjbfhaaGreat
namespace Go.Proofs.YteapnfdpkjbfhaaGreat
set_option linter.unusedVariables false
set_option linter.unusedSimpArgs false
open Go.RowKit Go.ChangeShapes Go.WideShapes Go.ChangeAt
/-- What a packet's body's sum is of: how long, which bytes. -/
def endF (g : Nat → Int) (n : Nat) : Nat → Int := fun j => if j = 0 then 0 else if j = 1 then g 0 else if j = 2 then by8 ((n : Int) - 16) 1 else by8 ((n : Int) - 16) 0
def sumN (g : Nat → Int) (n : Nat) : Nat := if g 0 = 3 then n - 12 else n - 4
def sumF (g : Nat → Int) (n : Nat) : Nat → Int := if g 0 = 3 then fun j => if j < 4 then endF g n j else g (12 + j) else fun j => if j < 8 then g (4 + j) else if j < 12 then endF g n (j - 8) else g (4 + j)
theorem endF_B {g : Nat → Int} (hg : IsB g) (n : Nat) : IsB (endF g n) := by
 intro j; unfold endF
 split
 ·omega
 ·split
  ·exact hg 0
  ·split <;> exact by8_bd _ _
theorem sumF_B {g : Nat → Int} (hg : IsB g) (n : Nat) : IsB (sumF g n) := by
 intro j; unfold sumF
 split <;> (dsimp only; repeat' split) <;> first | exact hg _ | exact endF_B hg n _
/-- Is a packet's body right? -/
def wholeB (g : Nat → Int) (n : Nat) : Bool := parseE g n == 0 && (bareF g || norm (tot (sumF g n) (sumN g n)) == 65535)
/-- One pair's change told to the sum at s. -/
def tstep (s L : Nat) (g x : Nat → Int) (i : Nat) : Nat → Int := putF x s 2 (turn (num x s 2) (pairF g L i) (pairF x L i))
def tbody (s L : Nat) (g : Nat → Int) : Nat → Nat → (Nat → Int) → (Nat → Int)
 | 0, _, x => x
 | k + 1, i, x => tbody s L g k (i + 2) (tstep s L g x i)
/-- May these bytes be written? -/
def mayB (g : Nat → Int) (L : Nat) (a m v : Int) : Bool := (m == 1 && decide (v ≤ 255) || m == 2 && decide (v ≤ 65535) || m == 4 && decide (v ≤ 4294967295)) && decide (0 ≤ v) && decide (16 ≤ a) && decide (a ≤ (L : Int) - m) && (decide (a + m ≤ (sumA (g 0) : Int)) || decide ((sumA (g 0) : Int) + 2 ≤ a))
def wrF (g : Nat → Int) (L a m : Nat) (v : Int) : Nat → Int := if bareF g = true then putF g a m v else fillF (tbody (sumA (g 0)) L g ((m + a % 2 + 1) / 2) (a - a % 2) (putF g a m v))
def wrE (g : Nat → Int) (L : Nat) (a m v : Int) : Int := if parseE g L ≠ 0 then parseE g L else if mayB g L a m v = true then 0 else 14
def ageE (g : Nat → Int) (L : Nat) : Int := if parseE g L ≠ 0 then parseE g L else if g 1 ≤ 1 then 7 else 0
def ageF (g : Nat → Int) : Nat → Int := putF (set1 g 1 (g 1 - 1)) 14 2 (turn (num g 14 2) (num g 0 2) (num (set1 g 1 (g 1 - 1)) 0 2))
def natE (g : Nat → Int) (L : Nat) (ad pt : Int) : Int := if parseE g L ≠ 0 then parseE g L else if g 0 = 3 then 2 else if inR ad 4294967295 && inR pt 65535 then 0 else 14
/-- A place laid over. -/
def natP (g : Nat → Int) (s : Bool) (ad pt : Int) : Nat → Int := if s = true then putF (putF g 4 4 ad) 16 2 pt else putF (putF g 8 4 ad) 18 2 pt
def natF (g : Nat → Int) (L : Nat) (s : Bool) (ad pt : Int) : Nat → Int :=
 let a := if s = true then 4 else 8
 let p := if s = true then 16 else 18
 let x := tbody 14 L g 2 a (natP g s ad pt)
 if bareF g = true then x else fillF (tbody 22 L g 1 p (tbody 22 L g 2 a x))
/-- Build. -/
def rangeB (p : Pk) : Bool := inR p.life 255 && inR p.piece 255 && inR p.src 4294967295 && inR p.dst 4294967295 && (if p.kind = 3 then inR p.code 255 else inR p.fp 65535 && inR p.tp 65535 && (if p.kind = 2 then inR p.label 65535 else inR p.flags 15))
def lenP (p : Pk) : Nat := if p.kind = 3 then 20 + p.nd else if p.kind = 2 then 24 + p.nd else 24 + p.no + p.nd
def buildE (p : Pk) : Int := if isK p.kind = false then 2 else if rangeB p = false then 14 else if p.kind = 1 ∧ 40 < p.no then 5 else if p.kind = 3 ∧ p.nd < 24 ∨ 1500 < lenP p then 3 else 0
def bodyF (p : Pk) : Nat → Int := fun j =>
 if p.kind = 3 then (if j = 0 then p.code else if j < 4 then 0 else p.gd (j - 4))
 else if j < 2 then by8 p.fp (1 - j) else if j < 4 then by8 p.tp (3 - j)
 else if p.kind = 2 then (if j < 6 then by8 p.label (5 - j) else if j < 8 then 0 else p.gd (j - 8))
 else if j = 4 then p.flags else if j = 5 then (p.no : Int) else if j < 8 then 0 else if j < 8 + p.no then p.go (j - 8) else p.gd (j - 8 - p.no)
def rawF (p : Pk) : Nat → Int := fun j =>
 if j = 0 then p.kind else if j = 1 then p.life else if j < 4 then by8 (lenP p) (3 - j) else if j < 8 then by8 p.src (7 - j) else if j < 12 then by8 p.dst (11 - j) else if j = 12 then p.piece else if j < 16 then 0 else bodyF p (j - 16)
def hedF (p : Pk) : Nat → Int := putF (rawF p) 14 2 (65535 - norm (tot (rawF p) 16))
def builtF (p : Pk) : Nat → Int := if p.kind = 2 ∧ p.bare = true then hedF p else fillF (putF (hedF p) (sumA p.kind) 2 (65535 - norm (tot (sumF (hedF p) (lenP p)) (sumN (hedF p) (lenP p)))))
end Go.Proofs.YteapnfdpkjbfhaaGreat
namespace Go.Proofs.YteapnfdpkjbfhaaGreat
set_option linter.unusedVariables false
set_option linter.unusedSimpArgs false
open Go.RowKit Go.ChangeShapes Go.WideShapes Go.ChangeAt
theorem putF_lt {g : Nat → Int} {off m j : Nat} {v : Int} (h : j < off) : putF g off m v j = g j := by unfold putF; rw [if_neg (by omega)]
theorem putF_ge {g : Nat → Int} {off m j : Nat} {v : Int} (h : off + m ≤ j) : putF g off m v j = g j := by unfold putF; rw [if_neg (by omega)]
theorem putF_out {g : Nat → Int} {off m j : Nat} {v : Int} (h : j < off ∨ off + m ≤ j) : putF g off m v j = g j := by unfold putF; rw [if_neg (by omega)]
theorem putF_in {g : Nat → Int} {off m j : Nat} {v : Int} (h : off ≤ j) (h' : j < off + m) : putF g off m v j = by8 v (off + m - 1 - j) := by unfold putF; rw [if_pos ⟨h, h'⟩]
theorem num_2 (g : Nat → Int) (a : Nat) : num g a 2 = g a * 256 + g (a + 1) := by simp [num]
theorem num_4 (g : Nat → Int) (a : Nat) : num g a 4 = ((g a * 256 + g (a + 1)) * 256 + g (a + 2)) * 256 + g (a + 3) := by simp [num]
theorem by8_0 (v : Int) : by8 v 0 = v % 256 := by simp [by8]
theorem by8_1 (v : Int) : by8 v 1 = v / 256 % 256 := by simp [by8]
theorem by8_2 (v : Int) : by8 v 2 = v / 65536 % 256 := by simp [by8]
theorem by8_3 (v : Int) : by8 v 3 = v / 16777216 % 256 := by simp [by8]
theorem num_by2 {g : Nat → Int} {a : Nat} {v : Int} (h0 : g a = by8 v 1) (h1 : g (a + 1) = by8 v 0) (hv : 0 ≤ v) (hv' : v ≤ 65535) : num g a 2 = v := by
 rw [num_2, h0, h1, by8_0, by8_1]; omega
theorem num_by4 {g : Nat → Int} {a : Nat} {v : Int} (h0 : g a = by8 v 3) (h1 : g (a + 1) = by8 v 2) (h2 : g (a + 2) = by8 v 1) (h3 : g (a + 3) = by8 v 0) (hv : 0 ≤ v) (hv' : v ≤ 4294967295) : num g a 4 = v := by
 rw [num_4, h0, h1, h2, h3, by8_0, by8_1, by8_2, by8_3]; omega
theorem num_put2 {g : Nat → Int} {a : Nat} {v : Int} (hv : 0 ≤ v) (hv' : v ≤ 65535) : num (putF g a 2 v) a 2 = v :=
 num_by2 (by rw [putF_in (by omega) (by omega), show a + 2 - 1 - a = 1 from by omega]) (by rw [putF_in (by omega) (by omega), show a + 2 - 1 - (a + 1) = 0 from by omega]) hv hv'
theorem num_put4 {g : Nat → Int} {a : Nat} {v : Int} (hv : 0 ≤ v) (hv' : v ≤ 4294967295) : num (putF g a 4 v) a 4 = v :=
 num_by4 (by rw [putF_in (by omega) (by omega), show a + 4 - 1 - a = 3 from by omega]) (by rw [putF_in (by omega) (by omega), show a + 4 - 1 - (a + 1) = 2 from by omega])
  (by rw [putF_in (by omega) (by omega), show a + 4 - 1 - (a + 2) = 1 from by omega]) (by rw [putF_in (by omega) (by omega), show a + 4 - 1 - (a + 3) = 0 from by omega]) hv hv'
theorem num_out {g : Nat → Int} {off m a n : Nat} {v : Int} (h : a + n ≤ off ∨ off + m ≤ a) : num (putF g off m v) a n = num g a n :=
 num_ext fun j h1 h2 => putF_out (by omega)
theorem fillF_out {g : Nat → Int} {j : Nat} (h : j < 22 ∨ 24 ≤ j) : fillF g j = g j := by
 unfold fillF; split
 ·exact putF_out h
 ·rfl
theorem fillF_3 {g : Nat → Int} (h : g 0 ≠ 2) : fillF g = g := by
 unfold fillF; rw [if_neg]; unfold bareF; rw [show (g 0 == 2) = false from by simpa using h]; simp
/-- A sum that was left open comes in: what is right is 0 or 65535. -/
theorem norm_right {t : Int} (h : 0 ≤ t) : norm t = 65535 ↔ t ≠ 0 ∧ t % 65535 = 0 := by unfold norm; split <;> omega
theorem norm_mod (t : Int) : norm t % 65535 = t % 65535 := by unfold norm; split <;> omega
/-- A pair laid over at an even place. -/
theorem tot_put2 (g : Nat → Int) (q : Nat) (v : Int) (hv : 0 ≤ v) (hv' : v ≤ 65535) (n : Nat) (h : 2 * q + 2 ≤ n) : tot (putF g (2 * q) 2 v) n = tot g n + v - num g (2 * q) 2 := by
 obtain ⟨r, rfl⟩ : ∃ r, n = 2 * (q + 1) + r := ⟨n - (2 * q + 2), by omega⟩
 rw [tot_split _ (q + 1), tot_split g (q + 1), show 2 * (q + 1) = 2 * q + 2 from by omega, tot_pair, tot_pair]
 rw [tot_ext (fun j => putF g (2 * q) 2 v (2 * q + 2 + j)) (fun j => g (2 * q + 2 + j)) r (fun j _ => putF_ge (by omega)), tot_ext (putF g (2 * q) 2 v) g (2 * q) (fun j hj => putF_lt hj)]
 have h1 := num_put2 (g := g) (a := 2 * q) hv hv'
 rw [num_2] at h1 ⊢
 omega
theorem tot_pos {g : Nat → Int} (hg : IsB g) {n j : Nat} (hj : j < n) (h : g j ≠ 0) : tot g n ≠ 0 := fun e => h ((tot_zero g hg n).1 e j hj)
theorem rawF_B {p : Pk} (hg : IsB p.gd) (ho : IsB p.go) (hE : buildE p = 0) : IsB (rawF p) := by
 have h := hE
 unfold buildE at h
 split at h
 ·cases h
 ·rename_i h1
  split at h
  ·cases h
  ·rename_i h2
   split at h
   ·cases h
   ·rename_i h3
    split at h
    ·cases h
    ·rename_i h4
     unfold isK at h1
     unfold rangeB inR at h2
     simp at h1 h2
     intro j
     unfold rawF
     split
     ·omega
     ·split
      ·omega
      ·split
       ·exact by8_bd _ _
       ·split
        ·exact by8_bd _ _
        ·split
         ·exact by8_bd _ _
         ·split
          ·omega
          ·split
           ·omega
           ·unfold bodyF
            split
            ·split
             ·rename_i h5 _; rw [if_pos h5] at h2; simp at h2; omega
             ·split
              ·omega
              ·exact hg _
            ·rename_i hk3
             rw [if_neg hk3] at h2
             split
             ·exact by8_bd _ _
             ·split
              ·exact by8_bd _ _
              ·split
               ·split
                ·exact by8_bd _ _
                ·split
                 ·omega
                 ·exact hg _
               ·rename_i hk2
                rw [if_neg hk2] at h2
                simp at h2
                split
                ·omega
                ·split
                 ·omega
                 ·split
                  ·omega
                  ·split
                   ·exact ho _
                   ·exact hg _
/-- What Build asks of a packet. -/
theorem buildE_0 {p : Pk} (h : buildE p = 0) : isK p.kind = true ∧ rangeB p = true ∧ (p.kind = 1 → p.no ≤ 40) ∧ (p.kind = 3 → 24 ≤ p.nd) ∧ lenP p ≤ 1500 ∧ 24 ≤ lenP p := by
 unfold buildE at h
 split at h
 ·cases h
 ·split at h
  ·cases h
  ·split at h
   ·cases h
   ·split at h
    ·cases h
    ·rename_i h1 h2 h3 h4
     refine ⟨by simpa using h1, by simpa using h2, fun e => by omega, fun e => by omega, by omega, ?_⟩
     unfold lenP
     split
     ·omega
     ·split <;> omega
theorem sumA_even (k : Int) : ∃ q, sumA k = 2 * q ∧ 16 ≤ sumA k ∧ sumA k ≤ 22 := by unfold sumA; split; exact ⟨9, rfl, by omega, by omega⟩; exact ⟨11, rfl, by omega, by omega⟩
theorem hedF_B {p : Pk} (hg : IsB p.gd) (ho : IsB p.go) (hE : buildE p = 0) : IsB (hedF p) := putF_B (rawF_B hg ho hE) _ _ _
theorem builtF_B {p : Pk} (hg : IsB p.gd) (ho : IsB p.go) (hE : buildE p = 0) : IsB (builtF p) := by
 unfold builtF; split
 ·exact hedF_B hg ho hE
 ·exact fillF_B (putF_B (hedF_B hg ho hE) _ _ _)
/-- Away from its sums what is built is what is laid. -/
theorem built_raw {p : Pk} {j : Nat} (h : j < 14 ∨ 16 ≤ j) (h' : j < sumA p.kind ∨ sumA p.kind + 2 ≤ j) (h2 : p.kind = 2 ∨ j < 22 ∨ 24 ≤ j ∨ p.kind = 1 ∨ p.kind = 3) : builtF p j = rawF p j := by
 have hh : hedF p j = rawF p j := putF_out h
 unfold builtF
 split
 ·exact hh
 ·by_cases k2 : p.kind = 2
  ·have : sumA p.kind = 22 := by unfold sumA; rw [if_neg (by omega)]
   rw [fillF_out (by omega), putF_out h', hh]
  ·rw [fillF_3, putF_out h', hh]
   have hs := (sumA_even p.kind).choose_spec
   rw [putF_out (by omega)]
   unfold hedF
   rw [putF_out (by omega)]
   show (if (0 : Nat) = 0 then p.kind else _) ≠ 2
   rw [if_pos rfl]
   exact k2
theorem raw_0 (p : Pk) : rawF p 0 = p.kind := by unfold rawF; rw [if_pos rfl]
theorem built_hd {p : Pk} {j : Nat} (h : j < 14) : builtF p j = rawF p j := by
 obtain ⟨q, hq, h1, h2⟩ := sumA_even p.kind
 unfold builtF
 split
 ·exact putF_out (by omega)
 ·rw [fillF_out (by omega), putF_out (by omega)]
  exact putF_out (by omega)
theorem built_hd2 {p : Pk} {j : Nat} (h : j < 16) : builtF p j = hedF p j := by
 obtain ⟨q, hq, h1, h2⟩ := sumA_even p.kind
 unfold builtF
 split
 ·rfl
 ·rw [fillF_out (by omega), putF_out (by omega)]
end Go.Proofs.YteapnfdpkjbfhaaGreat
namespace Go.Proofs.YteapnfdpkjbfhaaGreat
set_option linter.unusedVariables false
set_option linter.unusedSimpArgs false
open Go.RowKit Go.ChangeShapes Go.WideShapes Go.ChangeAt
theorem raw_1 (p : Pk) : rawF p 1 = p.life := by simp [rawF]
theorem raw_12 (p : Pk) : rawF p 12 = p.piece := by simp [rawF]
theorem raw_13 (p : Pk) : rawF p 13 = 0 := by simp [rawF]
theorem raw_len (p : Pk) (h : lenP p ≤ 65535) : num (rawF p) 2 2 = lenP p := num_by2 (by simp [rawF]) (by simp [rawF]) (by omega) (by omega)
theorem raw_src {p : Pk} (h : 0 ≤ p.src) (h' : p.src ≤ 4294967295) : num (rawF p) 4 4 = p.src := num_by4 (by simp [rawF]) (by simp [rawF]) (by simp [rawF]) (by simp [rawF]) h h'
theorem raw_dst {p : Pk} (h : 0 ≤ p.dst) (h' : p.dst ≤ 4294967295) : num (rawF p) 8 4 = p.dst := num_by4 (by simp [rawF]) (by simp [rawF]) (by simp [rawF]) (by simp [rawF]) h h'
theorem raw_body (p : Pk) (j : Nat) : rawF p (16 + j) = bodyF p j := by
 unfold rawF
 rw [if_neg (by omega), if_neg (by omega), if_neg (by omega), if_neg (by omega), if_neg (by omega), if_neg (by omega), if_neg (by omega), show 16 + j - 16 = j from by omega]
theorem built_at {p : Pk} {j : Nat} (h : j < 14 ∨ 16 ≤ j) (h' : j < sumA p.kind ∨ sumA p.kind + 2 ≤ j) : builtF p j = rawF p j := by
 have hk : p.kind = 2 → sumA p.kind = 22 := fun e => by unfold sumA; rw [if_neg (by omega)]
 by_cases k2 : p.kind = 2
 ·have := hk k2
  exact built_raw h h' (.inl k2)
 ·have hh : hedF p j = rawF p j := putF_out h
  have hs := (sumA_even p.kind).choose_spec
  unfold builtF
  rw [if_neg (fun e => k2 e.1), fillF_3, putF_out h', hh]
  rw [putF_out (by omega)]
  unfold hedF
  rw [putF_out (by omega), raw_0]
  exact k2
theorem built_num {p : Pk} {a n : Nat} (h : a + n ≤ 14 ∨ 16 ≤ a) (h' : a + n ≤ sumA p.kind ∨ sumA p.kind + 2 ≤ a) : num (builtF p) a n = num (rawF p) a n :=
 num_ext fun j h1 h2 => built_at (by omega) (by omega)
theorem kind_of {p : Pk} (hE : buildE p = 0) : p.kind = 1 ∨ p.kind = 2 ∨ p.kind = 3 := by
 have := (buildE_0 hE).1
 unfold isK at this; simp at this; omega
/-- The head that is built is right. -/
theorem built_headE {p : Pk} (hg : IsB p.gd) (ho : IsB p.go) (hE : buildE p = 0) : headE (builtF p) (lenP p) = 0 := by
 obtain ⟨h1, h2, h3, h4, h5, h6⟩ := buildE_0 hE
 have hB := rawF_B hg ho hE
 have hA := (sumA_even p.kind).choose_spec
 have e0 : builtF p 0 = p.kind := by rw [built_hd (by omega), raw_0]
 have e13 : builtF p 13 = 0 := by rw [built_hd (by omega), raw_13]
 have e2 : num (builtF p) 2 2 = lenP p := by rw [built_num (by omega) (by omega), raw_len p (by omega)]
 have et : norm (tot (builtF p) 16) = 65535 := by
  rw [tot_ext (builtF p) (hedF p) 16 (fun j hj => built_hd2 hj)]
  have hb := norm_bd (tot (rawF p) 16)
  have hT := tot_put2 (rawF p) 7 (65535 - norm (tot (rawF p) 16)) (by omega) (by omega) 16 (by omega)
  have hz : num (rawF p) 14 2 = 0 := by rw [num_2]; simp [rawF]
  rw [show 2 * 7 = 14 from rfl, hz] at hT
  have hp := tot_nonneg (hedF p) (hedF_B hg ho hE) 16
  have hne : tot (hedF p) 16 ≠ 0 := tot_pos (hedF_B hg ho hE) (j := 0) (by omega) (by
   show putF (rawF p) 14 2 _ 0 ≠ 0
   rw [putF_out (by omega), raw_0]
   have := kind_of hE
   omega)
  refine (norm_right hp).2 ⟨hne, ?_⟩
  show tot (putF (rawF p) 14 2 (65535 - norm (tot (rawF p) 16))) 16 % 65535 = 0
  rw [hT]
  have := norm_mod (tot (rawF p) 16)
  omega
 have hp : pairF (builtF p) (lenP p) 2 = lenP p := by unfold pairF; rw [if_neg (by omega), e2]
 unfold headE
 rw [if_neg (by omega), if_neg (by rw [e0, h1]; decide), e13, hp, et, if_neg (by simp; omega), if_neg (by decide)]
/-- Rows of bytes told alike. -/
structure Pe (p q : Pk) : Prop where
 kind : p.kind = q.kind
 life : p.life = q.life
 piece : p.piece = q.piece
 src : p.src = q.src
 dst : p.dst = q.dst
 fp : p.fp = q.fp
 tp : p.tp = q.tp
 flags : p.flags = q.flags
 label : p.label = q.label
 bare : p.bare = q.bare
 code : p.code = q.code
 no : p.no = q.no
 go : ∀ j, j < p.no → p.go j = q.go j
 nd : p.nd = q.nd
 gd : ∀ j, j < p.nd → p.gd j = q.gd j
/-- Noughts in the fields that its kind has not. -/
structure Clean (p : Pk) : Prop where
 k3 : p.kind = 3 → p.fp = 0 ∧ p.tp = 0
 k1 : p.kind ≠ 1 → p.flags = 0 ∧ p.no = 0
 k2 : p.kind ≠ 2 → p.label = 0 ∧ p.bare = false
 kc : p.kind ≠ 3 → p.code = 0
theorem built_bare {p : Pk} (hE : buildE p = 0) (hk : p.kind = 2) : num (builtF p) 22 2 = 0 ↔ p.bare = true := by
 have hs : sumA p.kind = 22 := by unfold sumA; rw [if_neg (by omega)]
 have hz : num (hedF p) 22 2 = 0 := by
  unfold hedF
  rw [num_out (by omega), num_2, show 22 = 16 + 6 from rfl, show 16 + 6 + 1 = 16 + 7 from rfl, raw_body, raw_body]
  simp [bodyF, hk]
 constructor
 ·intro h
  rcases hb : p.bare with _ | _
  ·exfalso
   unfold builtF at h
   rw [if_neg (by rw [hb]; simp), hs] at h
   have hn : 0 ≤ 65535 - norm (tot (sumF (hedF p) (lenP p)) (sumN (hedF p) (lenP p))) ∧ 65535 - norm (tot (sumF (hedF p) (lenP p)) (sumN (hedF p) (lenP p))) ≤ 65535 := by
    have := norm_bd (tot (sumF (hedF p) (lenP p)) (sumN (hedF p) (lenP p)))
    omega
   generalize 65535 - norm (tot (sumF (hedF p) (lenP p)) (sumN (hedF p) (lenP p))) = s at h hn
   have e : num (putF (hedF p) 22 2 s) 22 2 = s := num_put2 (by omega) (by omega)
   unfold fillF at h
   split at h
   ·rw [num_put2 (by omega) (by omega)] at h; cases h
   ·rename_i hbf
    apply hbf
    unfold bareF
    rw [h, show putF (hedF p) 22 2 s 0 = 2 from by rw [putF_out (by omega)]; unfold hedF; rw [putF_out (by omega), raw_0, hk]]
    rfl
  ·rfl
 ·intro hb
  unfold builtF
  rw [if_pos ⟨hk, hb⟩, hz]
set_option maxHeartbeats 1000000 in
theorem built_bodyE {p : Pk} (hE : buildE p = 0) : bodyE (builtF p) (lenP p) = 0 := by
 obtain ⟨h1, h2, h3, h4, h5, h6⟩ := buildE_0 hE
 have e0 : builtF p 0 = p.kind := by rw [built_hd (by omega), raw_0]
 unfold rangeB inR at h2
 simp at h2
 have hk := kind_of hE
 unfold bodyE
 rw [e0]
 rcases hk with k | k | k
 ·have hs : sumA p.kind = 22 := by unfold sumA; rw [if_neg (by omega)]
  have e20 : builtF p 20 = p.flags := by rw [built_at (by omega) (by omega), show 20 = 16 + 4 from rfl, raw_body]; simp [bodyF, k]
  have e21 : builtF p 21 = p.no := by rw [built_at (by omega) (by omega), show 21 = 16 + 5 from rfl, raw_body]; simp [bodyF, k]
  rw [k] at h2
  simp at h2
  have hl : lenP p = 24 + p.no + p.nd := by unfold lenP; rw [if_neg (by omega), if_neg (by omega)]
  have := h3 k
  rw [if_neg (by omega), if_neg (by omega), if_neg]
  rw [e20, e21]
  omega
 ·rw [if_neg (by omega), if_neg (by omega), if_neg (by omega)]
 ·have hs : sumA p.kind = 18 := by unfold sumA; rw [if_pos k]
  have e17 : builtF p 17 = 0 := by rw [built_at (by omega) (by omega), show 17 = 16 + 1 from rfl, raw_body]; simp [bodyF, k]
  have hl : lenP p = 20 + p.nd := by unfold lenP; rw [if_pos k]
  have := h4 k
  rw [if_pos k, if_neg (by omega), if_neg (by rw [e17]; simp)]
theorem built_parseE {p : Pk} (hg : IsB p.gd) (ho : IsB p.go) (hE : buildE p = 0) : parseE (builtF p) (lenP p) = 0 := by
 unfold parseE
 rw [built_headE hg ho hE, if_pos rfl, built_bodyE hE]
set_option maxHeartbeats 4000000 in
theorem built_parse {p : Pk} (hg : IsB p.gd) (ho : IsB p.go) (hE : buildE p = 0) (hc : Clean p) : Pe (parseR (builtF p) (lenP p)) p := by
 obtain ⟨h1, h2, h3, h4, h5, h6⟩ := buildE_0 hE
 have e0 : builtF p 0 = p.kind := by rw [built_hd (by omega), raw_0]
 have e1 : builtF p 1 = p.life := by rw [built_hd (by omega), raw_1]
 have e12 : builtF p 12 = p.piece := by rw [built_hd (by omega), raw_12]
 have hA := (sumA_even p.kind).choose_spec
 unfold rangeB inR at h2
 simp at h2
 have es : num (builtF p) 4 4 = p.src := by rw [built_num (by omega) (by omega), raw_src (by omega) (by omega)]
 have ed : num (builtF p) 8 4 = p.dst := by rw [built_num (by omega) (by omega), raw_dst (by omega) (by omega)]
 unfold parseR
 rw [built_parseE hg ho hE, if_pos rfl]
 unfold parseP
 rw [e0]
 rcases kind_of hE with k | k | k
 ·have hs : sumA p.kind = 22 := by unfold sumA; rw [if_neg (by omega)]
  have hl : lenP p = 24 + p.no + p.nd := by unfold lenP; rw [if_neg (by omega), if_neg (by omega)]
  have e20 : builtF p 20 = p.flags := by rw [built_at (by omega) (by omega), show 20 = 16 + 4 from rfl, raw_body]; simp [bodyF, k]
  have e21 : builtF p 21 = p.no := by rw [built_at (by omega) (by omega), show 21 = 16 + 5 from rfl, raw_body]; simp [bodyF, k]
  rw [k] at h2
  simp at h2
  have ef : num (builtF p) 16 2 = p.fp := by rw [built_num (by omega) (by omega)]; exact num_by2 (by rw [show 16 = 16 + 0 from rfl, raw_body]; simp [bodyF, k]) (by rw [show 16 + 1 = 16 + 1 from rfl, raw_body]; simp [bodyF, k]) (by omega) (by omega)
  have et : num (builtF p) 18 2 = p.tp := by rw [built_num (by omega) (by omega)]; exact num_by2 (by rw [show 18 = 16 + 2 from rfl, raw_body]; simp [bodyF, k]) (by rw [show 18 + 1 = 16 + 3 from rfl, raw_body]; simp [bodyF, k]) (by omega) (by omega)
  rw [if_neg (by omega), if_neg (by omega)]
  have hn : (builtF p 21).toNat = p.no := by rw [e21]; rfl
  have q2 := hc.k2 (by omega)
  have qc := hc.kc (by omega)
  refine ⟨rfl, e1, e12, es, ed, ef, et, e20, q2.1.symm, q2.2.symm, qc.symm, hn, ?_, by show lenP p - 24 - (builtF p 21).toNat = p.nd; rw [hn]; omega, ?_⟩
  ·intro j hj
   show builtF p (24 + j) = p.go j
   replace hj : j < (builtF p 21).toNat := hj
   rw [hn] at hj
   rw [built_at (by omega) (by omega), show 24 + j = 16 + (8 + j) from by omega, raw_body]
   unfold bodyF
   rw [if_neg (by omega), if_neg (by omega), if_neg (by omega), if_neg (by omega), if_neg (by omega), if_neg (by omega), if_neg (by omega), if_pos (by omega), show 8 + j - 8 = j from by omega]
  ·intro j hj
   show builtF p (24 + (builtF p 21).toNat + j) = p.gd j
   rw [hn, built_at (by omega) (by omega), show 24 + p.no + j = 16 + (8 + p.no + j) from by omega, raw_body]
   unfold bodyF
   rw [if_neg (by omega), if_neg (by omega), if_neg (by omega), if_neg (by omega), if_neg (by omega), if_neg (by omega), if_neg (by omega), if_neg (by omega), show 8 + p.no + j - 8 - p.no = j from by omega]
 ·have hs : sumA p.kind = 22 := by unfold sumA; rw [if_neg (by omega)]
  have hl : lenP p = 24 + p.nd := by unfold lenP; rw [if_neg (by omega), if_pos k]
  rw [k] at h2
  simp at h2
  have ef : num (builtF p) 16 2 = p.fp := by rw [built_num (by omega) (by omega)]; exact num_by2 (by rw [show 16 = 16 + 0 from rfl, raw_body]; simp [bodyF, k]) (by rw [show 16 + 1 = 16 + 1 from rfl, raw_body]; simp [bodyF, k]) (by omega) (by omega)
  have et : num (builtF p) 18 2 = p.tp := by rw [built_num (by omega) (by omega)]; exact num_by2 (by rw [show 18 = 16 + 2 from rfl, raw_body]; simp [bodyF, k]) (by rw [show 18 + 1 = 16 + 3 from rfl, raw_body]; simp [bodyF, k]) (by omega) (by omega)
  have el : num (builtF p) 20 2 = p.label := by rw [built_num (by omega) (by omega)]; exact num_by2 (by rw [show 20 = 16 + 4 from rfl, raw_body]; simp [bodyF, k]) (by rw [show 20 + 1 = 16 + 5 from rfl, raw_body]; simp [bodyF, k]) (by omega) (by omega)
  have hb := built_bare hE k
  rw [if_neg (by omega), if_pos k]
  have q1 := hc.k1 (by omega)
  have qc := hc.kc (by omega)
  refine ⟨rfl, e1, e12, es, ed, ef, et, q1.1.symm, el, ?_, qc.symm, q1.2.symm, fun j hj => absurd hj (by show ¬ j < 0; omega), by show lenP p - 24 = p.nd; omega, ?_⟩
  ·show (num (builtF p) 22 2 == 0) = p.bare
   rcases hbb : p.bare with _ | _
   ·rw [hbb] at hb; simpa using hb
   ·rw [hbb] at hb; simpa using hb
  ·intro j hj
   show builtF p (24 + j) = p.gd j
   rw [built_at (by omega) (by omega), show 24 + j = 16 + (8 + j) from by omega, raw_body]
   unfold bodyF
   rw [if_neg (by omega), if_neg (by omega), if_neg (by omega), if_pos k, if_neg (by omega), if_neg (by omega), show 8 + j - 8 = j from by omega]
 ·have hs : sumA p.kind = 18 := by unfold sumA; rw [if_pos k]
  have hl : lenP p = 20 + p.nd := by unfold lenP; rw [if_pos k]
  have e16 : builtF p 16 = p.code := by rw [built_at (by omega) (by omega), show 16 = 16 + 0 from rfl, raw_body]; simp [bodyF, k]
  rw [if_pos k]
  have q3 := hc.k3 k
  have q1 := hc.k1 (by omega)
  have q2 := hc.k2 (by omega)
  refine ⟨rfl, e1, e12, es, ed, q3.1.symm, q3.2.symm, q1.1.symm, q2.1.symm, q2.2.symm, e16, q1.2.symm, fun j hj => absurd hj (by show ¬ j < 0; omega), by show lenP p - 20 = p.nd; omega, ?_⟩
  intro j hj
  show builtF p (20 + j) = p.gd j
  rw [built_at (by omega) (by omega), show 20 + j = 16 + (4 + j) from by omega, raw_body]
  unfold bodyF
  rw [if_pos k, if_neg (by omega), if_neg (by omega), show 4 + j - 4 = j from by omega]
/-- The summed row's total, of a row laid over at its sum. -/
theorem sum_put {g : Nat → Int} {n : Nat} (hg : IsB g) (v : Int) (hv : 0 ≤ v) (hv' : v ≤ 65535) (hn : 24 ≤ n) : tot (sumF (putF g (sumA (g 0)) 2 v) n) (sumN (putF g (sumA (g 0)) 2 v) n) = tot (sumF g n) (sumN g n) + v - num g (sumA (g 0)) 2 := by
 have hA := (sumA_even (g 0)).choose_spec
 have e0 : putF g (sumA (g 0)) 2 v 0 = g 0 := putF_out (by omega)
 have eE : endF (putF g (sumA (g 0)) 2 v) n = endF g n := by funext j; unfold endF; rw [e0]
 by_cases k : g 0 = 3
 ·have hs : sumA (g 0) = 18 := by unfold sumA; rw [if_pos k]
  have h1 : sumF (putF g (sumA (g 0)) 2 v) n = putF (sumF g n) 6 2 v := by
   funext j
   unfold sumF
   rw [e0, if_pos k, eE, hs, if_pos k]
   unfold putF
   dsimp only
   by_cases c1 : j < 4
   ·rw [if_pos c1, if_neg (by omega), if_pos c1]
   ·rw [if_neg c1, if_neg c1]
    by_cases c2 : 6 ≤ j ∧ j < 6 + 2
    ·rw [if_pos (by omega), if_pos c2, show 18 + 2 - 1 - (12 + j) = 6 + 2 - 1 - j from by omega]
    ·rw [if_neg (by omega), if_neg c2]
  have h2 : sumN (putF g (sumA (g 0)) 2 v) n = sumN g n := by unfold sumN; rw [e0]
  rw [h1, h2, tot_put2 (sumF g n) 3 v hv hv' _ (by unfold sumN; rw [if_pos k]; omega), hs, num_2, num_2]
  unfold sumF
  rw [if_pos k]
  simp
 ·have hs : sumA (g 0) = 22 := by unfold sumA; rw [if_neg k]
  have h1 : sumF (putF g (sumA (g 0)) 2 v) n = putF (sumF g n) 18 2 v := by
   funext j
   unfold sumF
   rw [e0, if_neg k, eE, hs, if_neg k]
   unfold putF
   dsimp only
   by_cases c1 : j < 8
   ·rw [if_pos c1, if_neg (by omega), if_neg (by omega), if_pos c1]
   ·rw [if_neg c1, if_neg c1]
    by_cases c3 : j < 12
    ·rw [if_pos c3, if_neg (by omega), if_pos c3]
    ·rw [if_neg c3, if_neg c3]
     by_cases c2 : 18 ≤ j ∧ j < 18 + 2
     ·rw [if_pos (by omega), if_pos c2, show 22 + 2 - 1 - (4 + j) = 18 + 2 - 1 - j from by omega]
     ·rw [if_neg (by omega), if_neg c2]
  have h2 : sumN (putF g (sumA (g 0)) 2 v) n = sumN g n := by unfold sumN; rw [e0]
  rw [h1, h2, tot_put2 (sumF g n) 9 v hv hv' _ (by unfold sumN; rw [if_neg k]; omega), hs, num_2, num_2]
  unfold sumF
  rw [if_neg k]
  simp
theorem sum_ne {g : Nat → Int} {n : Nat} (hg : IsB g) (h0 : g 0 ≠ 0) (hn : 24 ≤ n) : tot (sumF g n) (sumN g n) ≠ 0 := by
 by_cases k : g 0 = 3
 ·refine tot_pos (sumF_B hg n) (j := 1) (by unfold sumN; rw [if_pos k]; omega) ?_
  unfold sumF; rw [if_pos k]
  simpa [endF] using h0
 ·refine tot_pos (sumF_B hg n) (j := 9) (by unfold sumN; rw [if_neg k]; omega) ?_
  unfold sumF; rw [if_neg k]
  simpa [endF] using h0
/-- A row's body is right just if its total is nought, round about. -/
theorem whole_iff {g : Nat → Int} {n : Nat} (hg : IsB g) (h0 : g 0 ≠ 0) (hn : 24 ≤ n) : (norm (tot (sumF g n) (sumN g n)) == 65535) = true ↔ tot (sumF g n) (sumN g n) % 65535 = 0 := by
 have h1 := tot_nonneg (sumF g n) (sumF_B hg n) (sumN g n)
 have h2 := sum_ne hg h0 hn
 rw [beq_iff_eq, norm_right h1]
 exact ⟨fun h => h.2, fun h => ⟨h2, h⟩⟩
theorem fill_sum {g : Nat → Int} {n : Nat} (hg : IsB g) (hn : 24 ≤ n) : tot (sumF (fillF g) n) (sumN (fillF g) n) % 65535 = tot (sumF g n) (sumN g n) % 65535 := by
 unfold fillF
 by_cases hb : bareF g = true
 ·rw [if_pos hb]
  unfold bareF at hb
  simp at hb
  have hs : sumA (g 0) = 22 := by unfold sumA; rw [if_neg (by omega)]
  have := sum_put hg (n := n) 65535 (by omega) (by omega) hn
  rw [hs] at this
  rw [this, hb.2]
  omega
 ·rw [if_neg hb]
theorem built_whole {p : Pk} (hg : IsB p.gd) (ho : IsB p.go) (hE : buildE p = 0) : wholeB (builtF p) (lenP p) = true := by
 unfold wholeB
 rw [built_parseE hg ho hE]
 obtain ⟨h1, h2, h3, h4, h5, h6⟩ := buildE_0 hE
 have e0 : builtF p 0 = p.kind := by rw [built_hd (by omega), raw_0]
 by_cases hb : p.kind = 2 ∧ p.bare = true
 ·have := (built_bare hE hb.1).2 hb.2
  unfold bareF
  rw [e0, this, hb.1]
  rfl
 ·have : (norm (tot (sumF (builtF p) (lenP p)) (sumN (builtF p) (lenP p))) == 65535) = true := by
   rw [whole_iff (builtF_B hg ho hE) (by rw [e0]; have := kind_of hE; omega) h6]
   unfold builtF
   rw [if_neg hb]
   have hhB := hedF_B hg ho hE
   have hn := norm_bd (tot (sumF (hedF p) (lenP p)) (sumN (hedF p) (lenP p)))
   have h0 : hedF p 0 = p.kind := by unfold hedF; rw [putF_out (by omega), raw_0]
   have hS := sum_put hhB (n := lenP p) (65535 - norm (tot (sumF (hedF p) (lenP p)) (sumN (hedF p) (lenP p)))) (by omega) (by omega) h6
   rw [h0] at hS
   rw [fill_sum (putF_B hhB _ _ _) h6, hS]
   have hz : num (hedF p) (sumA p.kind) 2 = 0 := by
    have hA := (sumA_even p.kind).choose_spec
    unfold hedF
    rw [num_out (by omega)]
    rcases kind_of hE with k | k | k
    ·rw [show sumA p.kind = 22 from by unfold sumA; rw [if_neg (by omega)], num_2, show 22 = 16 + 6 from rfl, show 16 + 6 + 1 = 16 + 7 from rfl, raw_body, raw_body]
     simp [bodyF, k]
    ·rw [show sumA p.kind = 22 from by unfold sumA; rw [if_neg (by omega)], num_2, show 22 = 16 + 6 from rfl, show 16 + 6 + 1 = 16 + 7 from rfl, raw_body, raw_body]
     simp [bodyF, k]
    ·rw [show sumA p.kind = 18 from by unfold sumA; rw [if_pos (by omega)], num_2, show 18 = 16 + 2 from rfl, show 16 + 2 + 1 = 16 + 3 from rfl, raw_body, raw_body]
     simp [bodyF, k]
   have := norm_mod (tot (sumF (hedF p) (lenP p)) (sumN (hedF p) (lenP p)))
   rw [hz]
   omega
  rw [this]
  simp
end Go.Proofs.YteapnfdpkjbfhaaGreat
namespace Go.Proofs.YteapnfdpkjbfhaaGreat
set_option linter.unusedVariables false
set_option linter.unusedSimpArgs false
open Go.RowKit Go.ChangeShapes Go.WideShapes Go.ChangeAt
/-- Differences of pairs, from the a-th on. -/
def dS (d : Nat → Int) : Nat → Nat → Int
 | _, 0 => 0
 | a, k + 1 => d a + dS d (a + 1) k
theorem dS_add (d : Nat → Int) : ∀ (k a l : Nat), dS d a (k + l) = dS d a k + dS d (a + k) l
 | 0, a, l => by simp [dS]
 | k + 1, a, l => by
   rw [show k + 1 + l = (k + l) + 1 from by omega]
   show d a + dS d (a + 1) (k + l) = d a + dS d (a + 1) k + dS d (a + (k + 1)) l
   rw [dS_add d k (a + 1) l, show a + 1 + k = a + (k + 1) from by omega]
   omega
theorem dS_zero {d : Nat → Int} : ∀ (k a : Nat), (∀ q, a ≤ q → q < a + k → d q = 0) → dS d a k = 0
 | 0, a, _ => rfl
 | k + 1, a, h => by
   show d a + dS d (a + 1) k = 0
   rw [h a (by omega) (by omega), dS_zero k (a + 1) (fun q h1 h2 => h q (by omega) (by omega))]
   rfl
theorem dS_ext {d d' : Nat → Int} : ∀ (k a : Nat), (∀ q, a ≤ q → q < a + k → d q = d' q) → dS d a k = dS d' a k
 | 0, a, _ => rfl
 | k + 1, a, h => by
   show d a + dS d (a + 1) k = d' a + dS d' (a + 1) k
   rw [h a (by omega) (by omega), dS_ext k (a + 1) (fun q h1 h2 => h q (by omega) (by omega))]
def dP (g x : Nat → Int) (L : Nat) : Nat → Int := fun q => pairF x L (2 * q) - pairF g L (2 * q)
theorem pairF_ext {x y : Nat → Int} {L a : Nat} (h0 : x a = y a) (h1 : a + 1 < L → x (a + 1) = y (a + 1)) (ha : a < L) : pairF x L a = pairF y L a := by
 unfold pairF
 split
 ·rw [h0]
 ·rw [num_2, num_2, h0, h1 (by omega)]
theorem tot_dS (g x : Nat → Int) (L : Nat) : ∀ n, 2 * n ≤ L + 1 → tot x (min (2 * n) L) - tot g (min (2 * n) L) = dS (dP g x L) 0 n
 | 0, _ => by simp [tot, dS]
 | n + 1, h => by
   rw [dS_add _ n 0 1, ← tot_dS g x L n (by omega), show min (2 * n) L = 2 * n from by omega]
   show _ = _ + (dP g x L (0 + n) + 0)
   rw [Nat.zero_add]
   unfold dP pairF
   by_cases e : 2 * n + 1 = L
   ·rw [if_pos e, if_pos e, show min (2 * (n + 1)) L = 2 * n + 1 from by omega, tot_last, tot_last]
    omega
   ·rw [if_neg e, if_neg e, show min (2 * (n + 1)) L = 2 * n + 2 from by omega, tot_pair, tot_pair, num_2, num_2]
    omega
/-- All that differs lies in k pairs from the a-th on. -/
theorem tot_diff {g x : Nat → Int} {L a k n : Nat} (hn : 2 * n ≤ L + 1) (hk : a + k ≤ n) (h : ∀ j, j < 2 * a ∨ 2 * (a + k) ≤ j → x j = g j) : tot x (min (2 * n) L) - tot g (min (2 * n) L) = dS (dP g x L) a k := by
 have hz : ∀ q, q < a ∨ a + k ≤ q → q < n → dP g x L q = 0 := fun q hq hn' => by
  unfold dP
  rw [pairF_ext (x := x) (y := g) (h _ (by omega)) (fun _ => h _ (by omega)) (by omega)]
  omega
 rw [tot_dS g x L n hn, show n = a + (k + (n - a - k)) from by omega, dS_add, dS_add, Nat.zero_add, dS_zero a 0 (fun q _ h2 => hz q (by omega) (by omega)), dS_zero (n - a - k) (a + k) (fun q h1 h2 => hz q (by omega) (by omega))]
 omega
theorem tstep_B {s L : Nat} {g x : Nat → Int} (hx : IsB x) (i : Nat) : IsB (tstep s L g x i) := putF_B hx _ _ _
theorem tbody_B {s L : Nat} {g : Nat → Int} : ∀ (k i : Nat) (x : Nat → Int), IsB x → IsB (tbody s L g k i x)
 | 0, i, x, h => h
 | k + 1, i, x, h => tbody_B k (i + 2) _ (tstep_B h i)
theorem tbody_out {s L : Nat} {g : Nat → Int} {j : Nat} (hj : j < s ∨ s + 2 ≤ j) : ∀ (k i : Nat) (x : Nat → Int), tbody s L g k i x j = x j
 | 0, i, x => rfl
 | k + 1, i, x => by
   show tbody s L g k (i + 2) (tstep s L g x i) j = x j
   rw [tbody_out hj k (i + 2)]
   exact putF_out hj
/-- What counts the sum's pair as it counts all: turned, it is as good. -/
theorem tbody_sum {F : (Nat → Int) → Int} {s L : Nat} {g : Nat → Int} (hg : IsB g) (σ : Nat) (hs : s = 2 * σ) (hsL : s + 2 ≤ L)
 (R : (Nat → Int) → Prop) (hR : ∀ x v, R x → R (putF x s 2 v)) (hF : ∀ x v, IsB x → R x → 0 ≤ v → v ≤ 65535 → F (putF x s 2 v) = F x + v - num x s 2) :
 ∀ (k a : Nat) (x : Nat → Int), IsB x → R x → (∀ q, a ≤ q → q < a + k → q ≠ σ ∧ 2 * q < L) → F (tbody s L g k (2 * a) x) % 65535 = (F x - dS (dP g x L) a k) % 65535
 | 0, a, x, _, _, _ => by simp [tbody, dS]
 | k + 1, a, x, hx, hr, hq => by
   have hpx := pairF_bd hx L (2 * a)
   have hpg := pairF_bd hg L (2 * a)
   have hn := num2_bd hx s
   have ht := turn_bd (num x s 2) (pairF g L (2 * a)) (pairF x L (2 * a)) hn.1 hn.2 hpg.1 hpg.2 hpx.1 hpx.2
   have hm := turn_mod (num x s 2) (pairF g L (2 * a)) (pairF x L (2 * a))
   have ih := tbody_sum hg σ hs hsL R hR hF k (a + 1) (tstep s L g x (2 * a)) (tstep_B hx _) (hR _ _ hr) (fun q h1 h2 => hq q (by omega) (by omega))
   have hd : dS (dP g (tstep s L g x (2 * a)) L) (a + 1) k = dS (dP g x L) (a + 1) k := dS_ext k (a + 1) (fun q h1 h2 => by
    have := hq q (by omega) (by omega)
    unfold dP
    rw [pairF_ext (x := tstep s L g x (2 * a)) (y := x) (putF_out (by omega)) (fun _ => putF_out (by omega)) this.2])
   have hf := hF x (turn (num x s 2) (pairF g L (2 * a)) (pairF x L (2 * a))) hx hr ht.1 ht.2
   show F (tbody s L g k (2 * a + 2) (tstep s L g x (2 * a))) % 65535 = (F x - (dP g x L a + dS (dP g x L) (a + 1) k)) % 65535
   rw [show 2 * a + 2 = 2 * (a + 1) from by omega, ih, hd]
   show (F (putF x s 2 (turn (num x s 2) (pairF g L (2 * a)) (pairF x L (2 * a)))) - _) % 65535 = _
   rw [hf]
   show _ = (F x - ((pairF x L (2 * a) - pairF g L (2 * a)) + dS (dP g x L) (a + 1) k)) % 65535
   omega
/-- The summed row's total, out of the whole row's. -/
theorem sum_tot3 {g : Nat → Int} {n : Nat} (k : g 0 = 3) (hn : 16 ≤ n) (hn' : n ≤ 1500) : tot (sumF g n) (sumN g n) = tot g n - tot g 16 + g 0 + ((n : Int) - 16) := by
 have e1 : sumN g n = 2 * 2 + (n - 16) := by unfold sumN; rw [if_pos k]; omega
 have e2 : tot g n = tot g 16 + tot (fun j => g (2 * 8 + j)) (n - 16) := by
  have h := tot_split g 8 (n - 16)
  rw [show 2 * 8 + (n - 16) = n from by omega] at h
  exact h
 rw [e1, tot_split, e2]
 have e3 : tot (fun j => sumF g n (2 * 2 + j)) (n - 16) = tot (fun j => g (2 * 8 + j)) (n - 16) := tot_ext _ _ _ (fun j _ => by
  unfold sumF; rw [if_pos k, if_neg (by omega), show 12 + (2 * 2 + j) = 2 * 8 + j from by omega])
 rw [e3]
 have e4 : tot (sumF g n) (2 * 2) = g 0 + ((n : Int) - 16) := by
  unfold sumF
  rw [if_pos k]
  simp [tot, endF, by8_0, by8_1]
  omega
 rw [e4]
 omega
theorem sum_tot {g : Nat → Int} {n : Nat} (k : g 0 ≠ 3) (hn : 16 ≤ n) (hn' : n ≤ 1500) : tot (sumF g n) (sumN g n) = tot g n - tot g 4 - (tot g 16 - tot g 12) + g 0 + ((n : Int) - 16) := by
 have e1 : sumN g n = 2 * 6 + (n - 16) := by unfold sumN; rw [if_neg k]; omega
 have e2 : tot g n = tot g 16 + tot (fun j => g (2 * 8 + j)) (n - 16) := by
  have h := tot_split g 8 (n - 16)
  rw [show 2 * 8 + (n - 16) = n from by omega] at h
  exact h
 rw [e1, tot_split, e2]
 have e3 : tot (fun j => sumF g n (2 * 6 + j)) (n - 16) = tot (fun j => g (2 * 8 + j)) (n - 16) := tot_ext _ _ _ (fun j _ => by
  unfold sumF; rw [if_neg k, if_neg (by omega), if_neg (by omega), show 4 + (2 * 6 + j) = 2 * 8 + j from by omega])
 rw [e3]
 have e4 : tot (sumF g n) (2 * 6) = tot (fun j => g (2 * 2 + j)) 8 + g 0 + ((n : Int) - 16) := by
  unfold sumF
  rw [if_neg k, show 2 * 6 = 2 * 4 + 4 from rfl, tot_split]
  rw [tot_ext (fun j => if j < 8 then g (4 + j) else if j < 12 then endF g n (j - 8) else g (4 + j)) (fun j => g (2 * 2 + j)) (2 * 4) (fun j hj => by rw [if_pos (by omega)])]
  simp [tot, endF, by8_0, by8_1]
  omega
 have e5 : tot g 12 = tot g 4 + tot (fun j => g (2 * 2 + j)) 8 := tot_split g 2 8
 rw [e4, e5]
 omega
theorem wholeB_of {g x : Nat → Int} {L : Nat} (hg : IsB g) (hx : IsB x) (h0 : x 0 = g 0) (hn0 : g 0 ≠ 0) (hL : 24 ≤ L) (hp : parseE x L = 0) (hp' : parseE g L = 0) (hb : bareF x = bareF g)
 (hT : bareF g = false → tot (sumF x L) (sumN x L) % 65535 = tot (sumF g L) (sumN g L) % 65535) : wholeB x L = wholeB g L := by
 unfold wholeB
 rw [hp, hp', hb]
 cases hbb : bareF g
 ·have h1 := whole_iff hx (n := L) (by rw [h0]; exact hn0) hL
  have h2 := whole_iff hg (n := L) hn0 hL
  rw [hT hbb, ← h2] at h1
  rw [Bool.eq_iff_iff.2 h1]
 ·rfl
theorem bare_fill (g : Nat → Int) : bareF (fillF g) = false := by
 unfold fillF
 split
 ·unfold bareF; rw [num_put2 (by omega) (by omega)]; simp
 ·rename_i h
  simpa using h
theorem bare_ext {g x : Nat → Int} (h0 : x 0 = g 0) (h1 : x 22 = g 22) (h2 : x 23 = g 23) : bareF x = bareF g := by unfold bareF; rw [h0, num_2, num_2, h1, h2]
theorem headE_ext {g x : Nat → Int} {n : Nat} (h : ∀ j, j < 16 → x j = g j) : headE x n = headE g n := by
 unfold headE
 by_cases h16 : n < 16
 ·rw [if_pos h16, if_pos h16]
 ·rw [if_neg h16, if_neg h16, h 0 (by omega), h 13 (by omega), tot_ext x g 16 h, pairF_ext (x := x) (y := g) (h 2 (by omega)) (fun _ => h 3 (by omega)) (by omega)]
theorem bodyE_ext {g x : Nat → Int} {n : Nat} (h0 : x 0 = g 0) (h17 : x 17 = g 17) (h20 : g 0 ≠ 3 → x 20 = g 20) (h21 : g 0 ≠ 3 → x 21 = g 21) : bodyE x n = bodyE g n := by
 unfold bodyE
 rw [h0, h17]
 by_cases k : g 0 = 3
 ·rw [if_pos k, if_pos k]
 ·rw [if_neg k, if_neg k, h20 k, h21 k]
theorem parseE_0 {g : Nat → Int} {n : Nat} (h : parseE g n = 0) : headE g n = 0 ∧ bodyE g n = 0 := by
 unfold parseE at h
 split at h
 ·exact ⟨by assumption, h⟩
 ·contradiction
theorem mayB_iff {g : Nat → Int} {L : Nat} {a m v : Int} (h : mayB g L a m v = true) : (m = 1 ∧ v ≤ 255 ∨ m = 2 ∧ v ≤ 65535 ∨ m = 4 ∧ v ≤ 4294967295) ∧ 0 ≤ v ∧ 16 ≤ a ∧ a ≤ (L : Int) - m ∧ (a + m ≤ (sumA (g 0) : Int) ∨ (sumA (g 0) : Int) + 2 ≤ a) := by
 unfold mayB at h
 simp only [Bool.and_eq_true, Bool.or_eq_true, decide_eq_true_eq, beq_iff_eq] at h
 omega
/-- What Write leaves as it was. -/
theorem wr_out {g : Nat → Int} {L a m : Nat} {v : Int} {j : Nat} (h : j < a ∨ a + m ≤ j) (h' : j < sumA (g 0) ∨ sumA (g 0) + 2 ≤ j) (ha : 16 ≤ a) : wrF g L a m v j = g j := by
 have hA := (sumA_even (g 0)).choose_spec
 unfold wrF
 split
 ·exact putF_out h
 ·have e0 : tbody (sumA (g 0)) L g ((m + a % 2 + 1) / 2) (a - a % 2) (putF g a m v) 0 = g 0 := by rw [tbody_out (by omega), putF_out (by omega)]
  by_cases k2 : g 0 = 2
  ·have hs : sumA (g 0) = 22 := by unfold sumA; rw [if_neg (by omega)]
   rw [fillF_out (by omega), tbody_out (by omega), putF_out h]
  ·rw [fillF_3 (by rw [e0]; exact k2), tbody_out (by omega), putF_out h]
theorem wr_B {g : Nat → Int} (hg : IsB g) (L a m : Nat) (v : Int) : IsB (wrF g L a m v) := by
 unfold wrF
 split
 ·exact putF_B hg _ _ _
 ·exact fillF_B (tbody_B _ _ _ (putF_B hg _ _ _))
theorem wr_bare {g : Nat → Int} {L a m : Nat} {v : Int} (ha : 16 ≤ a) (hs : a + m ≤ sumA (g 0) ∨ sumA (g 0) + 2 ≤ a) : bareF (wrF g L a m v) = bareF g := by
 unfold wrF
 split
 ·rename_i hb
  have k : g 0 = 2 := by unfold bareF at hb; simp at hb; exact hb.1
  have h22 : sumA (g 0) = 22 := by unfold sumA; rw [if_neg (by omega)]
  exact bare_ext (putF_out (by omega)) (putF_out (by omega)) (putF_out (by omega))
 ·rename_i hb
  rw [bare_fill]
  simpa using hb
/-- Behind Write the summed row's total is as good. -/
theorem wr_sum {g : Nat → Int} {L a m : Nat} {v : Int} (hg : IsB g) (hL : 24 ≤ L) (hL' : L ≤ 1500) (ha : 16 ≤ a) (hm : a + m ≤ L) (hm0 : 0 < m) (hs : a + m ≤ sumA (g 0) ∨ sumA (g 0) + 2 ≤ a) (hb : bareF g = false) :
 tot (sumF (wrF g L a m v) L) (sumN (wrF g L a m v) L) % 65535 = tot (sumF g L) (sumN g L) % 65535 := by
 obtain ⟨σ, hσ, h1, h2⟩ := sumA_even (g 0)
 have hx := putF_B hg a m v
 have hx0 : putF g a m v 0 = g 0 := putF_out (by omega)
 unfold wrF
 rw [if_neg (by rw [hb]; decide), fill_sum (tbody_B _ _ _ hx) hL]
 have hi : a - a % 2 = 2 * (a / 2) := by omega
 rw [hi]
 have hmain := tbody_sum (F := fun x => tot (sumF x L) (sumN x L)) (s := sumA (g 0)) (L := L) hg σ hσ (by omega) (fun x => x 0 = g 0) (fun x v h => by rw [putF_out (by omega)]; exact h)
  (fun x v hB hr hv hv' => by have := sum_put hB (n := L) v hv hv' hL; rw [hr] at this; exact this) ((m + a % 2 + 1) / 2) (a / 2) (putF g a m v) hx hx0 (fun q h3 h4 => by omega)
 rw [hmain]
 have hd := tot_diff (g := g) (x := putF g a m v) (L := L) (a := a / 2) (k := (m + a % 2 + 1) / 2) (n := (L + 1) / 2) (by omega) (by omega) (fun j hj => putF_out (by omega))
 rw [show min (2 * ((L + 1) / 2)) L = L from by omega] at hd
 have ex : ∀ N, N ≤ 16 → tot (putF g a m v) N = tot g N := fun N hN => tot_ext _ _ _ (fun j hj => putF_out (by omega))
 by_cases k : g 0 = 3
 ·rw [sum_tot3 (by rw [hx0]; exact k) (by omega) hL', sum_tot3 k (by omega) hL', hx0, ex 16 (by omega)]
  omega
 ·rw [sum_tot (by rw [hx0]; exact k) (by omega) hL', sum_tot k (by omega) hL', hx0, ex 16 (by omega), ex 4 (by omega), ex 12 (by omega)]
  omega
theorem sumA_or (k : Int) : sumA k = 18 ∨ sumA k = 22 := by unfold sumA; split; exact .inl rfl; exact .inr rfl
theorem wr_parse {g : Nat → Int} {L a m : Nat} {v : Int} (ha : 24 ≤ a) (hp : parseE g L = 0) : parseE (wrF g L a m v) L = 0 := by
 obtain ⟨h1, h2⟩ := parseE_0 hp
 have hA := sumA_or (g 0)
 have e : ∀ j, j < 24 → (j < sumA (g 0) ∨ sumA (g 0) + 2 ≤ j) → wrF g L a m v j = g j := fun j hj h => wr_out (by omega) h (by omega)
 unfold parseE
 rw [headE_ext (g := g) (fun j hj => e j (by omega) (by omega)), if_pos h1, bodyE_ext (g := g) (e 0 (by omega) (by omega)) (e 17 (by omega) (by omega))
  (fun k => e 20 (by omega) (by rw [show sumA (g 0) = 22 from by unfold sumA; rw [if_neg k]]; omega)) (fun k => e 21 (by omega) (by rw [show sumA (g 0) = 22 from by unfold sumA; rw [if_neg k]]; omega)), h2]
theorem parse_facts {g : Nat → Int} {L : Nat} (hp : parseE g L = 0) : 24 ≤ L ∧ L ≤ 1500 ∧ g 0 ≠ 0 ∧ isK (g 0) = true := by
 obtain ⟨h1, h2⟩ := parseE_0 hp
 have h3 := headE_0 h1
 have h4 := bodyE_0 h2 h3.2.1
 have h5 := h3.2.1
 unfold isK at h5
 simp at h5
 exact ⟨h4.1, h3.2.2.2.1, by omega, h3.2.1⟩
theorem wr_whole {g : Nat → Int} {L a m : Nat} {v : Int} (hg : IsB g) (ha : 24 ≤ a) (hm : a + m ≤ L) (hm0 : 0 < m) (hp : parseE g L = 0) : wholeB (wrF g L a m v) L = wholeB g L := by
 obtain ⟨h1, h2, h3, _⟩ := parse_facts hp
 have hA := (sumA_even (g 0)).choose_spec
 exact wholeB_of hg (wr_B hg _ _ _ _) (wr_out (by omega) (by omega) (by omega)) h3 h1 (wr_parse ha hp) hp (wr_bare (by omega) (by omega)) (fun hb => wr_sum hg h1 h2 (by omega) hm hm0 (by omega) hb)
end Go.Proofs.YteapnfdpkjbfhaaGreat
namespace Go.Proofs.YteapnfdpkjbfhaaGreat
set_option linter.unusedVariables false
set_option linter.unusedSimpArgs false
open Go.RowKit Go.ChangeShapes Go.WideShapes Go.ChangeAt
theorem headE_of {x : Nat → Int} {n : Nat} (h16 : 16 ≤ n) (hk : isK (x 0) = true) (hp : pairF x n 2 = n) (hn : n ≤ 1500) (h13 : x 13 = 0) (ht : norm (tot x 16) = 65535) : headE x n = 0 := by
 unfold headE
 rw [if_neg (by omega), if_neg (by rw [hk]; decide), hp, h13, ht, if_neg (by simp; omega), if_neg (by decide)]
/-- A head whose sum is as good is right. -/
theorem head_same {g x : Nat → Int} {n : Nat} (hx : IsB x) (hg : IsB g) (h : headE g n = 0) (h0 : x 0 = g 0) (h2 : x 2 = g 2) (h3 : x 3 = g 3) (h13 : x 13 = g 13) (ht : tot x 16 % 65535 = tot g 16 % 65535) : headE x n = 0 := by
 obtain ⟨a1, a2, a3, a4, a5, a6⟩ := headE_0 h
 refine headE_of a1 (by rw [h0]; exact a2) (by rw [pairF_ext (x := x) (y := g) h2 (fun _ => h3) (by omega)]; exact a3) a4 (by rw [h13]; exact a5) ?_
 have k0 : x 0 ≠ 0 := by rw [h0]; unfold isK at a2; simp at a2; omega
 have g1 := (norm_right (tot_nonneg g hg 16)).1 a6
 exact (norm_right (tot_nonneg x hx 16)).2 ⟨tot_pos hx (j := 0) (by omega) k0, by rw [ht]; exact g1.2⟩
theorem sumF_ext {g x : Nat → Int} {n : Nat} (h0 : x 0 = g 0) (h4 : ∀ j, 4 ≤ j → j < 12 → x j = g j) (h16 : ∀ j, 16 ≤ j → x j = g j) : tot (sumF x n) (sumN x n) = tot (sumF g n) (sumN g n) := by
 have e1 : sumN x n = sumN g n := by unfold sumN; rw [h0]
 rw [e1]
 refine tot_ext _ _ _ fun j _ => ?_
 have e2 : endF x n = endF g n := by funext j; unfold endF; rw [h0]
 unfold sumF
 rw [h0, e2]
 by_cases k : g 0 = 3
 ·rw [if_pos k, if_pos k]
  split
  ·rfl
  ·exact h16 _ (by omega)
 ·rw [if_neg k, if_neg k]
  split
  ·exact h4 _ (by omega) (by omega)
  ·split
   ·rfl
   ·exact h16 _ (by omega)
theorem age_out {g : Nat → Int} {j : Nat} (h : j ≠ 1) (h' : j < 14 ∨ 16 ≤ j) : ageF g j = g j := by
 unfold ageF
 rw [putF_out h']
 unfold set1
 rw [if_neg h]
theorem ageE_0 {g : Nat → Int} {L : Nat} (h : ageE g L = 0) : parseE g L = 0 ∧ 1 < g 1 := by
 unfold ageE at h
 split at h
 ·contradiction
 ·rename_i hp
  split at h
  ·cases h
  ·exact ⟨by simpa using hp, by omega⟩
theorem age_tot {g : Nat → Int} (hg : IsB g) (h1 : 1 < g 1) : tot (ageF g) 16 % 65535 = tot g 16 % 65535 := by
 have hx : IsB (set1 g 1 (g 1 - 1)) := fun j => by have := hg 1; unfold set1; split; omega; exact hg j
 have b1 := num2_bd hg 14
 have b2 := num2_bd hg 0
 have b3 := num2_bd hx 0
 have ht := turn_bd (num g 14 2) (num g 0 2) (num (set1 g 1 (g 1 - 1)) 0 2) b1.1 b1.2 b2.1 b2.2 b3.1 b3.2
 have hm := turn_mod (num g 14 2) (num g 0 2) (num (set1 g 1 (g 1 - 1)) 0 2)
 have e := tot_put2 (set1 g 1 (g 1 - 1)) 7 (turn (num g 14 2) (num g 0 2) (num (set1 g 1 (g 1 - 1)) 0 2)) ht.1 ht.2 16 (by omega)
 have e1 := tot_set1 g 1 (g 1 - 1) 16 (by omega)
 have e2 : num (set1 g 1 (g 1 - 1)) (2 * 7) 2 = num g 14 2 := num_ext fun j h1 h2 => by unfold set1; rw [if_neg (by omega)]
 have e3 : num (set1 g 1 (g 1 - 1)) 0 2 = num g 0 2 - 1 := by rw [num_2, num_2, Nat.zero_add]; unfold set1; rw [if_neg (by omega), if_pos rfl]; omega
 rw [if_neg (by decide)] at e1
 unfold ageF
 rw [show putF (set1 g 1 (g 1 - 1)) 14 2 (turn (num g 14 2) (num g 0 2) (num (set1 g 1 (g 1 - 1)) 0 2)) = putF (set1 g 1 (g 1 - 1)) (2 * 7) 2 (turn (num g 14 2) (num g 0 2) (num (set1 g 1 (g 1 - 1)) 0 2)) from rfl, e, e1, e2]
 rw [e3] at hm ⊢
 omega
theorem age_isB {g : Nat → Int} {L : Nat} (hg : IsB g) (h : ageE g L = 0) : IsB (ageF g) := by
 have h1 := (ageE_0 h).2
 have h2 := hg 1
 unfold ageF
 exact putF_B (fun j => by unfold set1; split; omega; exact hg j) _ _ _
theorem age_parse {g : Nat → Int} {L : Nat} (hg : IsB g) (h : ageE g L = 0) : parseE (ageF g) L = 0 := by
 obtain ⟨hp, h1⟩ := ageE_0 h
 obtain ⟨p1, p2⟩ := parseE_0 hp
 unfold parseE
 rw [head_same (age_isB hg h) hg p1 (age_out (by omega) (by omega)) (age_out (by omega) (by omega)) (age_out (by omega) (by omega)) (age_out (by omega) (by omega)) (age_tot hg h1), if_pos rfl,
  bodyE_ext (g := g) (age_out (by omega) (by omega)) (age_out (by omega) (by omega)) (fun _ => age_out (by omega) (by omega)) (fun _ => age_out (by omega) (by omega)), p2]
theorem age_whole {g : Nat → Int} {L : Nat} (hg : IsB g) (h : ageE g L = 0) : wholeB (ageF g) L = wholeB g L := by
 obtain ⟨hp, h1⟩ := ageE_0 h
 have pf := parse_facts hp
 exact wholeB_of hg (age_isB hg h) (age_out (by omega) (by omega)) pf.2.2.1 pf.1 (age_parse hg h) hp (bare_ext (age_out (by omega) (by omega)) (age_out (by omega) (by omega)) (age_out (by omega) (by omega)))
  (fun _ => by rw [sumF_ext (age_out (by omega) (by omega)) (fun j h1 h2 => age_out (by omega) (by omega)) (fun j h1 => age_out (by omega) (by omega))])
end Go.Proofs.YteapnfdpkjbfhaaGreat
namespace Go.Proofs.YteapnfdpkjbfhaaGreat
set_option linter.unusedVariables false
set_option linter.unusedSimpArgs false
open Go.RowKit Go.ChangeShapes Go.WideShapes Go.ChangeAt
/-- Where a place stands. -/
def aA (s : Bool) : Nat := if s = true then 4 else 8
def pA (s : Bool) : Nat := if s = true then 16 else 18
theorem natP_eq (g : Nat → Int) (s : Bool) (ad po : Int) : natP g s ad po = putF (putF g (aA s) 4 ad) (pA s) 2 po := by cases s <;> rfl
theorem aA_or (s : Bool) : aA s = 4 ∧ pA s = 16 ∨ aA s = 8 ∧ pA s = 18 := by cases s; exact .inr ⟨rfl, rfl⟩; exact .inl ⟨rfl, rfl⟩
theorem natF_eq (g : Nat → Int) (L : Nat) (s : Bool) (ad po : Int) : natF g L s ad po = if bareF g = true then tbody 14 L g 2 (aA s) (natP g s ad po) else fillF (tbody 22 L g 1 (pA s) (tbody 22 L g 2 (aA s) (tbody 14 L g 2 (aA s) (natP g s ad po)))) := by cases s <;> rfl
theorem natE_0 {g : Nat → Int} {L : Nat} {ad po : Int} (h : natE g L ad po = 0) : parseE g L = 0 ∧ g 0 ≠ 3 ∧ inR ad 4294967295 = true ∧ inR po 65535 = true := by
 unfold natE at h
 split at h
 ·contradiction
 ·rename_i hp
  split at h
  ·cases h
  ·rename_i h3
   split at h
   ·rename_i hr
    simp at hr
    exact ⟨by simpa using hp, h3, hr.1, hr.2⟩
   ·cases h
theorem natP_isB {g : Nat → Int} (hg : IsB g) (s : Bool) (ad po : Int) : IsB (natP g s ad po) := by rw [natP_eq]; exact putF_B (putF_B hg _ _ _) _ _ _
theorem nat_isB {g : Nat → Int} (hg : IsB g) (L : Nat) (s : Bool) (ad po : Int) : IsB (natF g L s ad po) := by
 rw [natF_eq]
 split
 ·exact tbody_B _ _ _ (natP_isB hg _ _ _)
 ·exact fillF_B (tbody_B _ _ _ (tbody_B _ _ _ (tbody_B _ _ _ (natP_isB hg _ _ _))))
/-- Away from its sums it is as laid. -/
theorem nat_at {g : Nat → Int} {L : Nat} {s : Bool} {ad po : Int} {j : Nat} (h : j < 14 ∨ 16 ≤ j) (h' : j < 22 ∨ 24 ≤ j) : natF g L s ad po j = natP g s ad po j := by
 rw [natF_eq]
 split
 ·exact tbody_out h _ _ _
 ·rw [fillF_out h', tbody_out h', tbody_out h', tbody_out h]
theorem natP_out {g : Nat → Int} {s : Bool} {ad po : Int} {j : Nat} (h : j < aA s ∨ aA s + 4 ≤ j) (h' : j < pA s ∨ pA s + 2 ≤ j) : natP g s ad po j = g j := by rw [natP_eq, putF_out h', putF_out h]
theorem dP_ext {g x y : Nat → Int} {L q : Nat} (h0 : x (2 * q) = y (2 * q)) (h1 : 2 * q + 1 < L → x (2 * q + 1) = y (2 * q + 1)) (hq : 2 * q < L) : dP g x L q = dP g y L q := by
 unfold dP
 rw [pairF_ext (x := x) (y := y) h0 h1 hq]
theorem nat_head {g : Nat → Int} {L : Nat} {s : Bool} {ad po : Int} (hg : IsB g) (hL : 24 ≤ L) : tot (natF g L s ad po) 16 % 65535 = tot g 16 % 65535 := by
 have ha := aA_or s
 have hx := natP_isB hg s ad po
 have e1 : tot (natF g L s ad po) 16 = tot (tbody 14 L g 2 (aA s) (natP g s ad po)) 16 := tot_ext _ _ _ fun j hj => by
  rw [natF_eq]
  split
  ·rfl
  ·rw [fillF_out (by omega), tbody_out (by omega), tbody_out (by omega)]
 obtain ⟨q, hq⟩ : ∃ q, aA s = 2 * q := ⟨aA s / 2, by omega⟩
 rw [e1, hq]
 have hmain := tbody_sum (F := fun x => tot x 16) (s := 14) (L := L) hg 7 rfl (by omega) (fun _ => True) (fun _ _ _ => trivial) (fun x v hB _ hv hv' => by
  have := tot_put2 x 7 v hv hv' 16 (by omega); exact this) 2 q (natP g s ad po) hx trivial (fun q' h1 h2 => by omega)
 rw [hmain]
 have e2 : tot (natP g s ad po) 16 = tot (putF g (aA s) 4 ad) 16 := tot_ext _ _ _ fun j hj => by rw [natP_eq, putF_out (by omega)]
 have e3 : dS (dP g (natP g s ad po) L) q 2 = dS (dP g (putF g (aA s) 4 ad) L) q 2 := dS_ext 2 q fun q' h1 h2 => dP_ext (by rw [natP_eq, putF_out (by omega)]) (fun _ => by rw [natP_eq, putF_out (by omega)]) (by omega)
 have hd := tot_diff (g := g) (x := putF g (aA s) 4 ad) (L := L) (a := q) (k := 2) (n := 8) (by omega) (by omega) (fun j hj => putF_out (by omega))
 rw [show min (2 * 8) L = 16 from by omega] at hd
 rw [e2, e3]
 omega
theorem nat_parse {g : Nat → Int} {L : Nat} {s : Bool} {ad po : Int} (hg : IsB g) (h : natE g L ad po = 0) : parseE (natF g L s ad po) L = 0 := by
 obtain ⟨hp, h3, _, _⟩ := natE_0 h
 obtain ⟨p1, p2⟩ := parseE_0 hp
 have pf := parse_facts hp
 have ha := aA_or s
 have o : ∀ j, (j < 4 ∨ j = 13 ∨ j = 20 ∨ j = 21) → natF g L s ad po j = g j := fun j hj => by rw [nat_at (by omega) (by omega), natP_out (by omega) (by omega)]
 have hb : bodyE (natF g L s ad po) L = bodyE g L := by
  unfold bodyE
  rw [o 0 (by omega), if_neg h3, if_neg h3, o 20 (by omega), o 21 (by omega)]
 unfold parseE
 rw [head_same (nat_isB hg _ _ _ _) hg p1 (o 0 (by omega)) (o 2 (by omega)) (o 3 (by omega)) (o 13 (by omega)) (nat_head hg pf.1), if_pos rfl, hb, p2]
end Go.Proofs.YteapnfdpkjbfhaaGreat
namespace Go.Proofs.YteapnfdpkjbfhaaGreat
set_option linter.unusedVariables false
set_option linter.unusedSimpArgs false
open Go.RowKit Go.ChangeShapes Go.WideShapes Go.ChangeAt
end Go.Proofs.YteapnfdpkjbfhaaGreat
