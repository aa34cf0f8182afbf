/- Keys, rings, blocks of cells. Pools as plain functions, in blocks of memory. A pool is itself. -/
import Derived.Test.YtlfionfnpieoiaaGreatGa
import Derived.Test.YtlfionfnpieoiaaGreatGk
import Derived.Deep.RegionHeld3
import Derived.Deep.Cut
import Derived.BigQuiet
import Derived.Deep.MidRow
import Derived.Laws.Tables
import Derived.Laws.StructEq
namespace Go.Proofs.YtlfionfnpieoiaaGreat
set_option linter.unusedVariables false
set_option linter.unusedSimpArgs false
open Go.RowKit Go.ChangeShapes Go.WideShapes Go.ChangeAt
end Go.Proofs.YtlfionfnpieoiaaGreat
namespace Go.Proofs.YtlfionfnpieoiaaGreat
set_option linter.unusedVariables false
set_option linter.unusedSimpArgs false
open Go.RowKit Go.ChangeShapes Go.WideShapes Go.ChangeAt
structure Sp where
 st : Int
 ad : Int
 po : Int
 we : Int
 si : Int
structure Pl where
 v : Int
 a : Int
 p : Int
 s : Nat → Sp
 r : Rg
structure En where
 k : Int
 s : Int
 a : Int
 p : Int
 w : Int
 y : Ky
def spc (s : Sp) (k : Nat) : Value := match k with | 0 => .int .i64 s.st | 1 => .int .i64 s.ad | 2 => .int .i64 s.po | 3 => .int .i64 s.we | _ => .int .i64 s.si
def rgc (r : Rg) (k : Nat) : Value := match k with | 0 => .int .i64 r.e | 1 => .int .u64 r.p.a | 2 => .int .u64 r.p.b | 3 => .int .u64 r.c.a | 4 => .int .u64 r.c.b | 5 => .int .u64 r.n.a | _ => .int .u64 r.n.b
def pc (p : Pl) (j : Nat) : Value := if j < 3 then (if j = 0 then .int .i64 p.v else if j = 1 then .int .i64 p.a else .int .i64 p.p) else if j < 323 then spc (p.s ((j - 3) / 5)) ((j - 3) % 5) else rgc p.r (j - 323)
def PL (p : Pl) : List Value := (List.range 330).map (pc p)
def PA (p : Pl) : Array Value := (PL p).toArray
def SL (f : Nat → Sp) : List Value := (List.range 320).map fun j => spc (f (j / 5)) (j % 5)
def SA (f : Nat → Sp) : Array Value := (SL f).toArray
def plV (p : Pl) : Value := .agg (PA p)
def spV (s : Sp) : Value := .agg #[.int .i64 s.st, .int .i64 s.ad, .int .i64 s.po, .int .i64 s.we, .int .i64 s.si]
def enV (e : En) : Value := .agg #[.int .i64 e.k, .int .i64 e.s, .int .i64 e.a, .int .i64 e.p, .int .i64 e.w, .int .u64 e.y.a, .int .u64 e.y.b]
def zKy : Ky := ⟨0, 0⟩
def zSp : Sp := ⟨0, 0, 0, 0, 0⟩
def zRg : Rg := ⟨0, zKy, zKy, zKy⟩
def zPl : Pl := ⟨0, 0, 0, fun _ => zSp, zRg⟩
theorem pl_len (p : Pl) : (PL p).length = 330 := by unfold PL; simp
theorem pa_size (p : Pl) : (PA p).size = 330 := by unfold PA; simp [pl_len]
theorem pl_at (p : Pl) (j : Nat) (h : j < 330) : (PL p)[j]? = some (pc p j) := by unfold PL; simp [h]
theorem pa_at (p : Pl) (j : Nat) (h : j < 330) : (PA p)[j]? = some (pc p j) := by unfold PA; simp [pl_at p j h]
theorem sl_len (f : Nat → Sp) : (SL f).length = 320 := by unfold SL; simp
theorem sl_at (f : Nat → Sp) (j : Nat) (h : j < 320) : (SL f)[j]? = some (spc (f (j / 5)) (j % 5)) := by unfold SL; simp [h]
theorem pa_ne (p : Pl) : (PA p = #[]) = False := by
 refine eq_false fun h => ?_
 have := pa_size p
 rw [h] at this
 cases this
theorem spc_one (s : Sp) (k : Nat) : (spc s k).oneCell' = true := by unfold spc; split <;> rfl
theorem rgc_one (r : Rg) (k : Nat) : (rgc r k).oneCell' = true := by unfold rgc; split <;> rfl
theorem pc_one (p : Pl) (j : Nat) : (pc p j).oneCell' = true := by
 unfold pc
 split
 ·split
  ·rfl
  ·split <;> rfl
 ·split
  ·exact spc_one _ _
  ·exact rgc_one _ _
theorem pa_one (p : Pl) : (PA p).all (·.oneCell') = true := by
 unfold PA
 refine all_oneCell_toArray fun v hv => ?_
 unfold PL at hv
 simp only [List.mem_map] at hv
 obtain ⟨j, _, rfl⟩ := hv
 exact pc_one p j
theorem pc_slot (p : Pl) (i k : Nat) (hi : i < 64) (hk : k < 5) : pc p (3 + i * 5 + k) = spc (p.s i) k := by
 unfold pc
 rw [if_neg (by omega), if_pos (by omega), show (3 + i * 5 + k - 3) / 5 = i by omega, show (3 + i * 5 + k - 3) % 5 = k by omega]
theorem pc_ring (p : Pl) (k : Nat) (hk : k < 7) : pc p (323 + k) = rgc p.r k := by
 unfold pc
 rw [if_neg (by omega), if_neg (by omega), show 323 + k - 323 = k by omega]
def setS (f : Nat → Sp) (i : Nat) (s : Sp) : Nat → Sp := fun j => if j = i then s else f j
/-- Block b is a pool, that may be written. -/
def PoolAt (w : World) (b : Nat) (p : Pl) : Prop := b < w.heap.size ∧ (∀ j, j < 330 → w.cell? ⟨b, j, none⟩ = some (pc p j)) ∧ ∀ j, w.frozen? ⟨b, j, none⟩ = false
section
variable {w w' : World} {b : Nat} {p : Pl}
theorem PoolAt.below (h : PoolAt w b p) (hb : Below w.heap.size w w') : PoolAt w' b p :=
 ⟨Nat.lt_of_lt_of_le h.1 hb.size, fun j hj => (hb.cell (p := ⟨b, j, none⟩) h.1).trans (h.2.1 j hj), fun j => (World.frozen?_of_block (a := ⟨b, j, none⟩) (hb.block b h.1)).trans (h.2.2 j)⟩
theorem PoolAt.alloc (h : PoolAt w b p) (o : Obj) : PoolAt (w.alloc o) b p := h.below ((Below.refl _ _).alloc (Nat.le_refl _) o)
theorem PoolAt.drewN (h : PoolAt w b p) (k : Nat) : PoolAt (w.drewN k) b p := h
theorem PoolAt.drew (h : PoolAt w b p) : PoolAt w.drew b p := h
theorem PoolAt.grown {row : Option Nat} (h : PoolAt w b p) (hg : w.grownBy w' row) (hne : row ≠ some b) : PoolAt w' b p :=
 have hb := hg.block b h.1 (fun e => hne e.symm)
 ⟨Nat.lt_of_lt_of_le h.1 hg.size, fun j hj => (World.cell?_of_block (a := ⟨b, j, none⟩) hb).trans (h.2.1 j hj), fun j => (World.frozen?_of_block (a := ⟨b, j, none⟩) hb).trans (h.2.2 j)⟩
theorem PoolAt.made {T : TypeId} {g : Nat} (hg : w.heap.size = g) : PoolAt (w.alloc (.cells (PA p) T)) g p := by
 subst hg
 have h : (w.alloc (.cells (PA p) T)).heap[w.heap.size]? = some (.cells (PA p) T (0, 0)) := heap_alloc_new w _
 refine ⟨by simp, fun j hj => ?_, fun j => frozen_of_row _ _ _ _ _ h⟩
 rw [cell_of_row _ w.heap.size j _ T (0, 0) h, pa_at p j hj]
theorem PoolAt.other (h : PoolAt w b p) {c j : Nat} {v : Value} (hne : c ≠ b) : PoolAt (w.setCell ⟨c, j, none⟩ v) b p :=
 ⟨by simpa using h.1, fun i hi => by rw [World.cell?_setCell_other _ _ _ _ (fun e => hne (by cases e; rfl))]; exact h.2.1 i hi, fun i => by rw [World.frozen?_setCell]; exact h.2.2 i⟩
theorem PoolAt.others (h : PoolAt w b p) {c o : Nat} {vs : List Value} (hne : c ≠ b) : PoolAt (w.setCells c o vs) b p := by
 refine ⟨?_, fun i hi => ?_, fun i => by rw [World.frozen?_setCells]; exact h.2.2 i⟩
 ·have := h.2.1 0 (by omega)
  have h2 : (w.setCells c o vs).cell? ⟨b, 0, none⟩ = some (pc p 0) := by rw [World.cell?_setCells_out c vs o w _ (fun e _ => absurd e.symm hne)]; exact this
  exact World.block_lt_of_cell? _ _ h2
 ·rw [World.cell?_setCells_out c vs o w _ (fun e _ => absurd e.symm hne)]; exact h.2.1 i hi
/-- Cells from o on, so many, are written: the block is what the new ones make. -/
theorem PoolAt.set (h : PoolAt w b p) (q : Pl) (o : Nat) (vs : List Value) (ho : o + vs.length ≤ 330) (hin : ∀ j (hj : j < vs.length), vs[j] = pc q (o + j)) (hout : ∀ j, j < 330 → j < o ∨ o + vs.length ≤ j → pc q j = pc p j) :
 PoolAt (w.setCells b o vs) b q := by
 have hc : ∀ j, j < 330 → (w.setCells b o vs).cell? ⟨b, j, none⟩ = some (pc q j) := by
  intro j hj
  by_cases hjo : o ≤ j ∧ j < o + vs.length
  ·have := World.cell?_setCells_in b vs o w (fun i hi => by rw [h.2.1 (o + i) (by omega)]; rfl) (j - o) (by omega)
   rw [show o + (j - o) = j by omega] at this
   rw [this, hin (j - o) (by omega), show o + (j - o) = j by omega]
  ·rw [World.cell?_setCells_out b vs o w _ (fun _ _ => by simp only; omega), h.2.1 j hj, hout j hj (by omega)]
 exact ⟨World.block_lt_of_cell? _ _ (hc 0 (by omega)), hc, fun i => by rw [World.frozen?_setCells]; exact h.2.2 i⟩
theorem PoolAt.whole (h : PoolAt w b p) (q : Pl) : PoolAt (w.setCells b 0 (PA q).toList) b q := by
 have e : (PA q).toList = PL q := rfl
 rw [e]
 refine h.set q 0 (PL q) (by rw [pl_len]; omega) (fun j hj => ?_) (fun j hj ho => ?_)
 ·have hj' := hj
  rw [pl_len] at hj'
  have := pl_at q j hj'
  rw [List.getElem?_eq_getElem hj] at this
  rw [Nat.zero_add]
  exact Option.some.inj this
 ·rw [pl_len] at ho; omega
theorem PoolAt.ver (h : PoolAt w b p) (v : Int) : PoolAt (w.setCell ⟨b, 0, none⟩ (.int .i64 v)) b { p with v := v } := by
 refine h.set { p with v := v } 0 [.int .i64 v] (by simp) (fun j hj => ?_) (fun j hj ho => ?_)
 ·have : j = 0 := by simp at hj; omega
  subst this; rfl
 ·simp only [List.length_singleton] at ho
  unfold pc
  by_cases h3 : j < 3
  ·have h0 : j ≠ 0 := by omega
   simp only [h3, h0, if_true, if_false]
  ·simp only [h3, if_false]
theorem PoolAt.slot (h : PoolAt w b p) (i : Nat) (hi : i < 64) (s : Sp) : PoolAt (w.setCells b (3 + i * 5) [.int .i64 s.st, .int .i64 s.ad, .int .i64 s.po, .int .i64 s.we, .int .i64 s.si]) b { p with s := setS p.s i s } := by
 refine h.set { p with s := setS p.s i s } _ _ (by simp; omega) (fun j hj => ?_) (fun j hj ho => ?_)
 ·have h5 : j < 5 := by simpa using hj
  rw [pc_slot _ i j hi h5]
  unfold setS
  simp only [if_true]
  rcases j with _ | _ | _ | _ | _ | j
  ·rfl
  ·rfl
  ·rfl
  ·rfl
  ·rfl
  ·omega
 ·simp only [List.length_cons, List.length_nil] at ho
  unfold pc
  by_cases h3 : j < 3
  ·rw [if_pos h3, if_pos h3]
  ·rw [if_neg h3, if_neg h3]
   by_cases h4 : j < 323
   ·rw [if_pos h4, if_pos h4]
    unfold setS
    simp only
    rw [if_neg (by omega)]
   ·rw [if_neg h4, if_neg h4]
theorem PoolAt.ring (h : PoolAt w b p) (r : Rg) : PoolAt (w.setCells b 323 [.int .i64 r.e, .int .u64 r.p.a, .int .u64 r.p.b, .int .u64 r.c.a, .int .u64 r.c.b, .int .u64 r.n.a, .int .u64 r.n.b]) b { p with r := r } := by
 refine h.set { p with r := r } _ _ (by simp) (fun j hj => ?_) (fun j hj ho => ?_)
 ·have h5 : j < 7 := by simpa using hj
  rw [pc_ring _ j h5]
  rcases j with _ | _ | _ | _ | _ | _ | _ | j
  ·rfl
  ·rfl
  ·rfl
  ·rfl
  ·rfl
  ·rfl
  ·rfl
  ·omega
 ·simp only [List.length_cons, List.length_nil] at ho
  unfold pc
  by_cases h3 : j < 3
  ·rw [if_pos h3, if_pos h3]
  ·rw [if_neg h3, if_neg h3, if_pos (by omega), if_pos (by omega)]
theorem PoolAt.c0 (h : PoolAt w b p) : w.cell? ⟨b, 0, none⟩ = some (.int .i64 p.v) := h.2.1 0 (by omega)
theorem PoolAt.c1 (h : PoolAt w b p) : w.cell? ⟨b, 1, none⟩ = some (.int .i64 p.a) := h.2.1 1 (by omega)
theorem PoolAt.c2 (h : PoolAt w b p) : w.cell? ⟨b, 2, none⟩ = some (.int .i64 p.p) := h.2.1 2 (by omega)
theorem PoolAt.cs (h : PoolAt w b p) (i k : Nat) (hi : i < 64) (hk : k < 5) : w.cell? ⟨b, 3 + i * 5 + k, none⟩ = some (spc (p.s i) k) := by rw [h.2.1 _ (by omega), pc_slot p i k hi hk]
theorem PoolAt.cr (h : PoolAt w b p) (k : Nat) (hk : k < 7) : w.cell? ⟨b, 323 + k, none⟩ = some (rgc p.r k) := by rw [h.2.1 _ (by omega), pc_ring p k hk]
theorem PoolAt.load (h : PoolAt w b p) : (Instr.loadAt 34 (.pointer (some ⟨b, 0, none⟩))).run Tryz.prog w = .ok (plV p) w := by
 refine run_loadAt_mid w b 0 34 (PL p) _ (fun j v hj => ?_) Tryz.underlying34 rfl ?_
 ·have hl : j < 330 := by
   have := (List.getElem?_eq_some_iff.1 hj).1
   rwa [pl_len] at this
  rw [pl_at p j hl] at hj
  rw [Nat.zero_add, h.2.1 j hl, hj]
 ·rw [pl_len]; kernel_rfl
theorem PoolAt.loadS (h : PoolAt w b p) : (Instr.loadAt 27 (.pointer (some ⟨b, 3, none⟩))).run Tryz.prog w = .ok (.agg (SA p.s)) w := by
 refine run_loadAt_mid w b 3 27 (SL p.s) _ (fun j v hj => ?_) Tryz.underlying27 rfl ?_
 ·have hl : j < 320 := by
   have := (List.getElem?_eq_some_iff.1 hj).1
   rwa [sl_len] at this
  rw [sl_at p.s j hl] at hj
  have h1 := h.cs (j / 5) (j % 5) (by omega) (by omega)
  rw [show 3 + j / 5 * 5 + j % 5 = 3 + j by omega] at h1
  rw [h1, hj]
 ·rw [sl_len]; kernel_rfl
theorem PoolAt.store (h : PoolAt w b p) (q : Pl) : (Instr.storeAt 34 (.pointer (some ⟨b, 0, none⟩)) (plV q)).run Tryz.prog w = .ok () (w.setCells b 0 (PA q).toList) := by
 refine run_storeAt_mid w b 0 34 (PA q) (fun j hj => ?_) ?_ (pa_one q)
 ·rw [pa_size] at hj
  rw [Nat.zero_add, h.2.1 j hj]
  exact ⟨rfl, h.2.2 j⟩
 ·rw [pa_size]; kernel_rfl
end
theorem zero_pl (w : World) : (zeroValue 34).run Tryz.prog w = .ok (plV zPl) w := by kernel_rfl
theorem build_z (w : World) : (Instr.build 34 #[]).run Tryz.prog w = .ok (plV zPl) w := run_build w _ _ _ (by kernel_rfl)
theorem index_sl (f : Nat → Sp) (i : Nat) (hi : i < 64) (w : World) : (Instr.index 27 (.agg (SA f)) (.int .i64 (i : Int))).run Tryz.prog w = .ok (spV (f i)) w := by
 have hagg : (isAgg 26).run Tryz.prog w = .ok true w := by kernel_rfl
 have hsz : (sizeOf 26).run Tryz.prog w = .ok 5 w := by kernel_rfl
 have hx : (SA f).extract (i * 5) (i * 5 + 5) = #[.int .i64 (f i).st, .int .i64 (f i).ad, .int .i64 (f i).po, .int .i64 (f i).we, .int .i64 (f i).si] := by
  apply Array.ext
  ·unfold SA; simp [sl_len]; omega
  ·intro k h1 h2
   have hk : k < 5 := by simpa using h2
   have hs : (SA f).size = 320 := by unfold SA; simp [sl_len]
   rw [Array.getElem_extract]
   have : (SA f)[i * 5 + k]? = some (spc (f i) k) := by
    unfold SA
    rw [List.getElem?_toArray, sl_at f _ (by omega), show (i * 5 + k) / 5 = i by omega, show (i * 5 + k) % 5 = k by omega]
   rw [Array.getElem?_eq_getElem (by omega)] at this
   rw [Option.some.inj this]
   rcases k with _ | _ | _ | _ | _ | k
   ·rfl
   ·rfl
   ·rfl
   ·rfl
   ·rfl
   ·omega
 have hu := run_underlying (P := Tryz.prog) Tryz.underlying27 w
 simp only [Instr.index, asIntOf, Sem.run_bind, Sem.run_pure, Result.andThen_ok, hu]
 rw [if_pos (by omega)]
 simp only [Sem.run_bind, hsz, Result.andThen_ok, part, hagg, if_true, Int.toNat_natCast, Sem.run_pure, hx]
 rfl
end Go.Proofs.YtlfionfnpieoiaaGreat
namespace Go.Proofs.YtlfionfnpieoiaaGreat
set_option linter.unusedVariables false
set_option linter.unusedSimpArgs false
open Go.RowKit Go.ChangeShapes Go.WideShapes Go.ChangeAt
section
variable {P : Program}
theorem run_equalIn_arr (w : World) (d : Nat) (t elem : TypeId) (len n : Nat) (xs : Array Value) (hu : P.underlying t = some (.array len elem)) (hs : (sizeOf elem).run P w = .ok n w) (f : Nat → Value)
 (hp : ∀ i, i < len → (part elem xs (i * n)).run P w = .ok (f i) w) (he : ∀ i, i < len → (Op.equalIn d elem (f i) (f i)).run P w = .ok true w) : (Op.equalIn (d + 1) t (.agg xs) (.agg xs)).run P w = .ok true w := by
 simp only [Op.equalIn, Sem.run_bind, run_underlying hu, Result.andThen_ok, hs]
 rw [Std.Legacy.Range.forIn_eq_forIn_range']
 have hl : ∀ j ∈ List.range' 0 len 1, j < len := fun j hj => by simp at hj; omega
 simp only [Std.Legacy.Range.size, Nat.sub_zero, Nat.add_sub_cancel, Nat.div_one]
 revert hl
 generalize List.range' 0 len 1 = l
 intro hl
 induction l with
 | nil => simp
 | cons j l ih =>
   have hj := hl j (List.mem_cons_self ..)
   simp only [List.forIn_cons, Sem.run_bind, hp j hj, Result.andThen_ok, he j hj, Bool.not_true, Bool.false_eq_true, if_false, Sem.run_pure]
   exact ih (fun i hi => hl i (List.mem_cons_of_mem _ hi))
end
theorem eq_sp (d : Nat) (s : Sp) (w : World) : (Op.equalIn (d + 3) 26 (spV s) (spV s)).run Tryz.prog w = .ok true w := by
 unfold spV
 simp [go_sem]
theorem eq_rg (d : Nat) (r : Rg) (w : World) : (Op.equalIn (d + 4) 32 (rgV r) (rgV r)).run Tryz.prog w = .ok true w := by
 unfold rgV
 simp [go_sem]
theorem part_sl (f : Nat → Sp) (i : Nat) (hi : i < 64) (w : World) : (part 26 (SA f) (i * 5)).run Tryz.prog w = .ok (spV (f i)) w := by
 have h := index_sl f i hi w
 have hu := run_underlying (P := Tryz.prog) Tryz.underlying27 w
 have hsz : (sizeOf 26).run Tryz.prog w = .ok 5 w := by kernel_rfl
 simp only [Instr.index, asIntOf, Sem.run_bind, Sem.run_pure, Result.andThen_ok, hu] at h
 rw [if_pos (by omega)] at h
 simpa only [Sem.run_bind, hsz, Result.andThen_ok, Int.toNat_natCast] using h
theorem eq_sl (d : Nat) (f : Nat → Sp) (w : World) : (Op.equalIn (d + 4) 27 (.agg (SA f)) (.agg (SA f))).run Tryz.prog w = .ok true w :=
 run_equalIn_arr w (d + 3) 27 26 64 5 (SA f) Tryz.underlying27 (by kernel_rfl) (fun i => spV (f i)) (fun i hi => part_sl f i hi w) (fun i _ => eq_sp d (f i) w)
theorem part_pl (p : Pl) (w : World) : (part 3 (PA p) 0).run Tryz.prog w = .ok (.int .i64 p.v) w ∧ (part 3 (PA p) 1).run Tryz.prog w = .ok (.int .i64 p.a) w ∧ (part 3 (PA p) 2).run Tryz.prog w = .ok (.int .i64 p.p) w ∧
 (part 27 (PA p) 3).run Tryz.prog w = .ok (.agg (SA p.s)) w ∧ (part 32 (PA p) 323).run Tryz.prog w = .ok (rgV p.r) w := by
 have ai : (isAgg 3).run Tryz.prog w = .ok false w := by kernel_rfl
 have aa : (isAgg 27).run Tryz.prog w = .ok true w := by kernel_rfl
 have ar : (isAgg 32).run Tryz.prog w = .ok true w := by kernel_rfl
 have sa : (sizeOf 27).run Tryz.prog w = .ok 320 w := by kernel_rfl
 have sr : (sizeOf 32).run Tryz.prog w = .ok 7 w := by kernel_rfl
 have e0 := pa_at p 0 (by omega)
 have e1 := pa_at p 1 (by omega)
 have e2 := pa_at p 2 (by omega)
 have hs := pa_size p
 have x1 : (PA p).extract 3 (3 + 320) = SA p.s := by
  apply Array.ext
  ·simp [hs, SA, sl_len]
  ·intro j h1 h2
   have hj : j < 320 := by simpa [SA, sl_len] using h2
   rw [Array.getElem_extract]
   have h3 := pa_at p (3 + j) (by omega)
   rw [Array.getElem?_eq_getElem (by omega)] at h3
   rw [Option.some.inj h3]
   have h4 : (SA p.s)[j]? = some (spc (p.s (j / 5)) (j % 5)) := by unfold SA; rw [List.getElem?_toArray, sl_at p.s j hj]
   rw [Array.getElem?_eq_getElem h2] at h4
   rw [Option.some.inj h4]
   have := pc_slot p (j / 5) (j % 5) (by omega) (by omega)
   rw [show 3 + j / 5 * 5 + j % 5 = 3 + j by omega] at this
   exact this
 have x2 : (PA p).extract 323 (323 + 7) = #[.int .i64 p.r.e, .int .u64 p.r.p.a, .int .u64 p.r.p.b, .int .u64 p.r.c.a, .int .u64 p.r.c.b, .int .u64 p.r.n.a, .int .u64 p.r.n.b] := by
  apply Array.ext
  ·simp [hs]
  ·intro j h1 h2
   have hj : j < 7 := by simpa using h2
   rw [Array.getElem_extract]
   have h3 := pa_at p (323 + j) (by omega)
   rw [Array.getElem?_eq_getElem (by omega)] at h3
   rw [Option.some.inj h3, pc_ring p j hj]
   rcases j with _ | _ | _ | _ | _ | _ | _ | j
   ·rfl
   ·rfl
   ·rfl
   ·rfl
   ·rfl
   ·rfl
   ·rfl
   ·omega
 refine ⟨?_, ?_, ?_, ?_, ?_⟩
 ·simp only [part, Sem.run_bind, ai, Result.andThen_ok, Bool.false_eq_true, if_false, e0]; rfl
 ·simp only [part, Sem.run_bind, ai, Result.andThen_ok, Bool.false_eq_true, if_false, e1]; rfl
 ·simp only [part, Sem.run_bind, ai, Result.andThen_ok, Bool.false_eq_true, if_false, e2]; rfl
 ·simp only [part, Sem.run_bind, aa, Result.andThen_ok, if_true, sa, x1, Sem.run_pure]
 ·simp only [part, Sem.run_bind, ar, Result.andThen_ok, if_true, sr, x2, Sem.run_pure]; rfl
theorem eqF_step {P : Program} {w : World} {d : Nat} {xs ys : Array Value} {f : Field} {fs : List Field} {a b : Value} {r : Bool} (hn : f.name ≠ "_") (ha : (part f.type xs f.offset).run P w = .ok a w) (hb : (part f.type ys f.offset).run P w = .ok b w) (he : (Op.equalIn d f.type a b).run P w = .ok true w)
 (hr : (Op.eqFields d xs ys fs).run P w = .ok r w) : (Op.eqFields d xs ys (f :: fs)).run P w = .ok r w := by
 simp only [Op.eqFields]
 rw [if_pos hn]
 simp only [Sem.run_bind, ha, hb, he, Result.andThen_ok, Bool.not_true, Bool.false_eq_true, if_false]
 exact hr
theorem eq_pl (p : Pl) (w : World) : (Op.equalIn 10000 34 (.agg (PA p)) (.agg (PA p))).run Tryz.prog w = .ok true w := by
 obtain ⟨q0, q1, q2, q3, q4⟩ := part_pl p w
 have hu := Tryz.underlying34
 have hS : ∀ d, (Op.equalIn (d + 4) 27 (.agg (SA p.s)) (.agg (SA p.s))).run Tryz.prog w = .ok true w := fun d => eq_sl d p.s w
 have hR : ∀ d, (Op.equalIn (d + 4) 32 (rgV p.r) (rgV p.r)).run Tryz.prog w = .ok true w := fun d => eq_rg d p.r w
 have hS1 := hS 9995
 have hR1 := hR 9995
 have hi : ∀ x : Int, (Op.equalIn 9999 3 (.int .i64 x) (.int .i64 x)).run Tryz.prog w = .ok true w := fun x => by
  rw [run_equalIn_int w 9998 3 .i64 .i64 x x Tryz.underlying3, beq_self_eq_true]
 rw [run_equalIn_struct w 9999 34 (PA p) (PA p) (by unfold Program.fieldsOf; rw [hu]) (by kernel_rfl)]
 unfold Program.fieldsOf
 rw [hu]
 show (Op.eqFields 9999 (PA p) (PA p) (_ :: _ :: _ :: _ :: _ :: [])).run Tryz.prog w = .ok true w
 refine eqF_step (by decide) q0 q0 (hi _) ?_
 refine eqF_step (by decide) q1 q1 (hi _) ?_
 refine eqF_step (by decide) q2 q2 (hi _) ?_
 refine eqF_step (by decide) q3 q3 hS1 ?_
 refine eqF_step (by decide) q4 q4 hR1 ?_
 rfl
theorem eqg_pl (op : BinOp) (x y : Operand) (p q : Pl) (w : World) : (eqGuard op 34 x y (.agg (PA p)) (.agg (PA q))).run Tryz.prog w = .ok () w := run_eqGuard_agg w _ _ _ _ _ _ (by kernel_rfl)
/-- Two pools that are one: they are told to be the same. -/
theorem ex_eql {o : Oper} {f : Operand → Value} (x y : Operand) (ho : o.op = .binOp .eql 34 x y 34) (p : Pl) (hx : f x = .agg (PA p)) (hy : f y = .agg (PA p)) (w : World) : (execOp f o).run Tryz.prog w = .ok (.value (.bool true)) w := by
 unfold execOp
 simp only [ho, hx, hy, Sem.run_bind, eqg_pl, Result.andThen_ok, run_eql_struct, eq_pl, Sem.run_pure]
end Go.Proofs.YtlfionfnpieoiaaGreat
