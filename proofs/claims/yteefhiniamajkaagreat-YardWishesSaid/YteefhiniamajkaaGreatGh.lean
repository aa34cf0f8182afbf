/- What was heard of units: a map of the call's own, as a plain function. What a head holds, and does. Blocks of cells told by a function; what changes in some blocks alone. Things that lie in blocks of their own, and what each operation does to them. A head in memory; notes. A head as a thing. -/
import Derived.Test.YteefhiniamajkaaGreatGa
import Derived.Maps.OwnSet
import Derived.Maps.OwnOps
import Derived.Maps.Keyed
import Derived.Maps.Views
import Derived.Maps.Own
import Derived.Test.YteefhiniamajkaaGreatGt
import Derived.Deep.Upon
import Derived.BigQuiet
import Derived.Deep.RegionHeld3
import Derived.Deep.Cut
import Derived.Conc.LoneSelectN
namespace Go.Proofs.YteefhiniamajkaaGreat
set_option linter.unusedVariables false
set_option linter.unusedSimpArgs false
open Go.RowKit Go.ChangeShapes Go.WideShapes Go.ChangeAt

/-- boot, version. -/
structure Wd where
  b : Int
  v : Int
def IHd (x : Int) : Prop := -9223372036854775808 ≤ x ∧ x ≤ 9223372036854775807
def wdV (l : Wd) : Value := .agg #[.int .i64 l.b, .int .i64 l.v]
def wdD (l : Wd) : DataW Unit := .agg [.lit (.int .i64 l.b), .lit (.int .i64 l.v)]
def wdL : List Value → Option Wd
  | [.int .i64 a, .int .i64 n] => some ⟨a, n⟩
  | _ => none
def wdR : Value → Option (DataW Unit × List MemPlace)
  | .agg cs => (wdL cs.toList).map fun l => (wdD l, [])
  | _ => none
theorem wdL_of {cs : List Value} {l : Wd} (h : wdL cs = some l) : cs = [.int .i64 l.b, .int .i64 l.v] := by
  unfold wdL at h
  split at h
  · injection h with h; subst h; rfl
  · cases h
theorem wdD_inj {a b : Wd} (h : wdD a = wdD b) : a = b := by
  obtain ⟨a1, a2⟩ := a
  obtain ⟨b1, b2⟩ := b
  simp only [wdD, DataW.agg.injEq, List.cons.injEq, DataW.lit.injEq, Lit.int.injEq] at h
  obtain ⟨⟨_, r1⟩, ⟨_, r2⟩, _⟩ := h
  subst r1; subst r2
  rfl
theorem wdR_at (l : Wd) : wdR (wdV l) = some (wdD l, []) := rfl
theorem wdR_of {v : Value} {l : Wd} {ps : List MemPlace} (h : wdR v = some (wdD l, ps)) : v = wdV l := by
  unfold wdR at h
  split at h
  · rename_i cs
    cases hl : wdL cs.toList with
    | none => rw [hl] at h; cases h
    | some x =>
      rw [hl] at h
      simp only [Option.map_some, Option.some.injEq, Prod.mk.injEq] at h
      have hx := wdD_inj h.1
      subst hx
      have hc := wdL_of hl
      obtain ⟨cl⟩ := cs
      simp only at hc
      subst hc
      rfl
  · cases h
def zWd : Wd := ⟨0, 0⟩
def hkey (k : Int) : Lit := .int .i64 k
/-- The map in block b reads as M. -/
def HMap (w : World) (b n : Nat) (M : Int → Option Wd) : Prop :=
  ∃ D : DataW Unit, w.ownsMap Tryz.prog 3 wdR b n D ∧ Maps.IsMap D ∧ ∀ k, Maps.has D (hkey k) = (M k).isSome ∧ ∀ z, D.atKey (hkey k) z = match M k with | some l => wdD l | none => z
def hupd (M : Int → Option Wd) (s : Int) (o : Option Wd) : Int → Option Wd := fun k => if k = s then o else M k
theorem hkey_ne {a b : Int} (h : a ≠ b) : hkey a ≠ hkey b := fun e => h (by injection e)
theorem keyedW : Maps.Keyed Tryz.prog 3 := Maps.int_keyed Tryz.underlying3
theorem hkey_of {k : Int} (h : IHd k) : keyOf Tryz.prog 3 (.int .i64 k) = some (hkey k) := Maps.keyOf_int_mk Tryz.underlying3 (by unfold IHd at h; simp [Lit.wf, IntKind.min, IntKind.max, IntKind.signed, IntKind.bits]; omega)
theorem HMap.put_ {w : World} {b n : Nat} {M : Int → Option Wd} {D : DataW Unit} (hm : Maps.IsMap D) (h : ∀ k, Maps.has D (hkey k) = (M k).isSome ∧ ∀ z, D.atKey (hkey k) z = match M k with | some l => wdD l | none => z)
    (s : Int) (l : Wd) (hown : w.ownsMap Tryz.prog 3 wdR b n (D.put (hkey s) (wdD l))) : HMap w b n (hupd M s (some l)) := by
  refine ⟨_, hown, hm.put _ _, fun k => ?_⟩
  unfold hupd
  by_cases e : k = s
  · subst e
    rw [if_pos rfl]
    exact ⟨by rw [Maps.has_put_same hm (by trivial)]; rfl, fun z => by rw [Maps.atKey_put_same hm (by trivial)]⟩
  · rw [if_neg e]
    exact ⟨by rw [Maps.has_put_other (hkey_ne e)]; exact (h k).1, fun z => by rw [Maps.atKey_put_other (hkey_ne e)]; exact (h k).2 z⟩
theorem HMap.del_ {w : World} {b n : Nat} {M : Int → Option Wd} {D : DataW Unit} (hm : Maps.IsMap D) (h : ∀ k, Maps.has D (hkey k) = (M k).isSome ∧ ∀ z, D.atKey (hkey k) z = match M k with | some l => wdD l | none => z)
    (s : Int) (hown : w.ownsMap Tryz.prog 3 wdR b n (D.del (hkey s))) : HMap w b n (hupd M s none) := by
  refine ⟨_, hown, hm.del _, fun k => ?_⟩
  unfold hupd
  by_cases e : k = s
  · subst e
    rw [if_pos rfl]
    exact ⟨by rw [Maps.has_del_same]; rfl, fun z => by rw [Maps.atKey_del_same]⟩
  · rw [if_neg e]
    exact ⟨by rw [Maps.has_del_other (hkey_ne e)]; exact (h k).1, fun z => by rw [Maps.atKey_del_other (hkey_ne e)]; exact (h k).2 z⟩
theorem HMap.kept {w w' : World} {b n : Nat} {M : Int → Option Wd} {row : Option Nat} (h : HMap w b n M) (hg : w.grownBy w' row) (hne : some b ≠ row) : HMap w' b n M := by
  obtain ⟨D, h1, h2, h3⟩ := h
  exact ⟨D, h1.kept hg hne, h2, h3⟩
theorem HMap.lt {w : World} {b n : Nat} {M : Int → Option Wd} (h : HMap w b n M) : b < w.heap.size := by
  obtain ⟨D, h1, _⟩ := h
  exact h1.lt
theorem HMap.made (w : World) : HMap (w.alloc (.map #[] 0)) w.heap.size 0 (fun _ => none) :=
  ⟨_, World.ownsMap_made _ _ _ _, Maps.isMap_empty, fun k => ⟨rfl, fun z => rfl⟩⟩
theorem HMap.look {w : World} {b n : Nat} {M : Int → Option Wd} (h : HMap w b n M) {T : TypeId} (ht : Tryz.prog.underlying T = some (.map 3 112)) (hz : (zeroValue 112).run Tryz.prog w = .ok (wdV zWd) w) {s : Int} (hs : IHd s) :
    (Instr.lookup T (.map (some b)) (.int .i64 s) false).run Tryz.prog w = .ok (wdV ((M s).getD zWd)) w := by
  obtain ⟨D, h1, h2, h3⟩ := h
  obtain ⟨v, ps, hrun, hv⟩ := h1.lookup keyedW ht hz (wdR_at zWd) (hkey_of hs)
  rw [hrun]
  rw [(h3 s).2] at hv
  cases hm : M s with
  | none => rw [hm] at hv; simp only at hv; rw [wdR_of hv]; rfl
  | some l => rw [hm] at hv; simp only at hv; rw [wdR_of hv]; rfl
theorem HMap.look_ok {w : World} {b n : Nat} {M : Int → Option Wd} (h : HMap w b n M) {T : TypeId} (ht : Tryz.prog.underlying T = some (.map 3 112)) (hz : (zeroValue 112).run Tryz.prog w = .ok (wdV zWd) w) {s : Int} (hs : IHd s) :
    (Instr.lookup T (.map (some b)) (.int .i64 s) true).run Tryz.prog w = .ok (.tuple #[wdV ((M s).getD zWd), .bool (M s).isSome]) w := by
  obtain ⟨D, h1, h2, h3⟩ := h
  obtain ⟨v, ps, hrun, hv⟩ := h1.look_ok keyedW ht hz (wdR_at zWd) (hkey_of hs)
  rw [hrun, (h3 s).1]
  rw [(h3 s).2] at hv
  cases hm : M s with
  | none => rw [hm] at hv; simp only at hv; rw [wdR_of hv]; rfl
  | some l => rw [hm] at hv; simp only at hv; rw [wdR_of hv]; rfl
theorem zero_wd (w : World) : (zeroValue 112).run Tryz.prog w = .ok (wdV zWd) w := by kernel_rfl
theorem hbelow_grown {w w' : World} (h : Below w.heap.size w w') (row : Option Nat) : w.grownBy w' row := ⟨h.os, h.tape, h.output, h.size, fun k hk _ => h.block k hk⟩
end Go.Proofs.YteefhiniamajkaaGreat
namespace Go.Proofs.YteefhiniamajkaaGreat
set_option linter.unusedVariables false
set_option linter.unusedSimpArgs false
open Go.RowKit Go.ChangeShapes Go.WideShapes Go.ChangeAt

/-- A note. -/
structure Nt where
  u : Int
  b : Int
  v : Int
  wh : Bool
  ak : Bool
  e : En
  p : Pl
/-- A head: the pool behind what is published, behind all that waits; what waits, what came last, how many units; what each said. -/
structure Hd where
  pl : Pl
  ah : Pl
  q : List En
  la : En
  un : Nat
  wd : Nat → Wd
def newH (p : Pl) (u : Nat) : Hd := ⟨p, p, [], zEn, u, fun _ => ⟨0, -1⟩⟩
def allB (h : Hd) : Bool := (List.range h.un).all fun i => (h.wd i).v == h.pl.v
/-- The first of what waits is published. -/
def pubH (h : Hd) : Hd := match h.q with
  | [] => h
  | e :: t => if (apR h.pl e).2 = 0 then { h with pl := (apR h.pl e).1, la := e, q := t } else { h with q := t }
def sendH (h : Hd) : Hd := if allB h = true then pubH h else h
/-- Is just the entry sent? -/
def oneB (h : Hd) (i : Nat) : Bool := (h.la.k != 0) && ((h.wd i).v == h.pl.v - 1)
def noteH (h : Hd) (i : Nat) : Nt := if oneB h i = true then ⟨i, (h.wd i).b, h.pl.v, false, false, h.la, zPl⟩ else ⟨i, (h.wd i).b, h.pl.v, true, false, zEn, h.pl⟩
/-- The notes to the first k units. -/
def notesK (h : Hd) (k : Nat) : List Nt := ((List.range k).filter fun i => decide ((h.wd i).v < h.pl.v)).map (noteH h)
def setW (f : Nat → Wd) (i : Nat) (x : Wd) : Nat → Wd := fun j => if j = i then x else f j
def mx (v : Int) : Int := if v < -1 then -1 else v
/-- A word counts: of a later boot, or of this one, a later version. -/
def cntB (x y : Wd) : Bool := decide (x.b < y.b) || ((y.b == x.b) && decide (x.v < y.v))
def earB (h : Hd) (n : Nt) : Bool := n.ak && decide (0 ≤ n.u) && decide (n.u < h.un)
def heardH (h : Hd) (n : Nt) : Hd := if earB h n = true then (if cntB (h.wd n.u.toNat) ⟨n.b, mx n.v⟩ = true then { h with wd := setW h.wd n.u.toNat ⟨n.b, mx n.v⟩ } else h) else h
theorem notesK_succ (h : Hd) (k : Nat) : notesK h (k + 1) = if (h.wd k).v < h.pl.v then notesK h k ++ [noteH h k] else notesK h k := by
  unfold notesK
  rw [List.range_succ, List.filter_append, List.map_append]
  by_cases hk : (h.wd k).v < h.pl.v
  · rw [if_pos hk]; simp [hk]
  · rw [if_neg hk]; simp [hk]
theorem notesK_len (h : Hd) : ∀ k : Nat, (notesK h k).length ≤ k
  | 0 => by simp [notesK]
  | k + 1 => by
    have := notesK_len h k
    rw [notesK_succ]
    split <;> simp <;> omega
end Go.Proofs.YteefhiniamajkaaGreat
namespace Go.Proofs.YteefhiniamajkaaGreat
set_option linter.unusedVariables false
set_option linter.unusedSimpArgs false
open Go.RowKit Go.ChangeShapes Go.WideShapes Go.ChangeAt

def FL (n : Nat) (f : Nat → Value) : List Value := (List.range n).map f
def FA (n : Nat) (f : Nat → Value) : Array Value := (FL n f).toArray
theorem fl_len (n : Nat) (f : Nat → Value) : (FL n f).length = n := by unfold FL; simp
theorem fa_size (n : Nat) (f : Nat → Value) : (FA n f).size = n := by unfold FA; simp [fl_len]
theorem fl_at {n : Nat} (f : Nat → Value) {j : Nat} (h : j < n) : (FL n f)[j]? = some (f j) := by unfold FL; simp [h]
theorem fa_one {n : Nat} {f : Nat → Value} (h : ∀ j, (f j).oneCell' = true) : (FA n f).all (·.oneCell') = true := by
  unfold FA
  refine all_oneCell_toArray fun v hv => ?_
  unfold FL at hv
  simp only [List.mem_map] at hv
  obtain ⟨j, _, rfl⟩ := hv
  exact h j
/-- Block b's first n cells are told by f; they may be written. -/
def Fb (w : World) (b n : Nat) (f : Nat → Value) : Prop := b < w.heap.size ∧ (∀ j, j < n → w.cell? ⟨b, j, none⟩ = some (f j)) ∧ ∀ j, w.frozen? ⟨b, j, none⟩ = false
def patch (f : Nat → Value) (o k : Nat) (g : Nat → Value) (j : Nat) : Value := if o ≤ j ∧ j < o + k then g (j - o) else f j
theorem lt_of_same {w w' : World} {b : Nat} (h : b < w.heap.size) (e : w'.heap[b]? = w.heap[b]?) : b < w'.heap.size := by
  rcases Nat.lt_or_ge b w'.heap.size with h2 | h2
  · exact h2
  · rw [Array.getElem?_eq_none h2, Array.getElem?_eq_getElem h] at e; cases e
section
variable {w w' : World} {b n : Nat} {f g : Nat → Value}
theorem Fb.same (h : Fb w b n f) (e : w'.heap[b]? = w.heap[b]?) : Fb w' b n f :=
  ⟨lt_of_same h.1 e, fun j hj => (World.cell?_of_block (a := ⟨b, j, none⟩) e).trans (h.2.1 j hj), fun j => (World.frozen?_of_block (a := ⟨b, j, none⟩) e).trans (h.2.2 j)⟩
theorem Fb.below (h : Fb w b n f) (hb : Below w.heap.size w w') : Fb w' b n f := h.same (hb.block b h.1)
theorem Fb.alloc (h : Fb w b n f) (o : Obj) : Fb (w.alloc o) b n f := h.below ((Below.refl _ _).alloc (Nat.le_refl _) o)
theorem Fb.drewN (h : Fb w b n f) (k : Nat) : Fb (w.drewN k) b n f := h
theorem Fb.drew (h : Fb w b n f) : Fb w.drew b n f := h
theorem Fb.as (h : Fb w b n f) (hg : ∀ j, j < n → f j = g j) : Fb w b n g := ⟨h.1, fun j hj => by rw [h.2.1 j hj, hg j hj], h.2.2⟩
theorem Fb.made {T : TypeId} {x : Nat} (hx : w.heap.size = x) : Fb (w.alloc (.cells (FA n f) T)) x n f := by
  subst hx
  have h : (w.alloc (.cells (FA n f) T)).heap[w.heap.size]? = some (.cells (FA n f) T (0, 0)) := heap_alloc_new w _
  refine ⟨by simp, fun j hj => ?_, fun j => frozen_of_row _ _ _ _ _ h⟩
  rw [cell_of_row _ w.heap.size j _ T (0, 0) h]
  unfold FA
  rw [List.getElem?_toArray, fl_at f hj]
theorem Fb.other (h : Fb w b n f) {c o : Nat} {vs : List Value} (hne : c ≠ b) : Fb (w.setCells c o vs) b n f :=
  ⟨by rw [size_setCells]; exact h.1, fun i hi => by rw [World.cell?_setCells_out c vs o w _ (fun e _ => absurd e.symm hne)]; exact h.2.1 i hi, fun i => by rw [World.frozen?_setCells]; exact h.2.2 i⟩
theorem Fb.set (h : Fb w b n f) (o k : Nat) (g : Nat → Value) (ho : o + k ≤ n) : Fb (w.setCells b o (FL k g)) b n (patch f o k g) := by
  refine ⟨by rw [size_setCells]; exact h.1, fun j hj => ?_, fun i => by rw [World.frozen?_setCells]; exact h.2.2 i⟩
  unfold patch
  by_cases hjo : o ≤ j ∧ j < o + k
  · rw [if_pos hjo]
    have := World.cell?_setCells_in b (FL k g) o w (fun i hi => by rw [fl_len] at hi; rw [h.2.1 (o + i) (by omega)]; rfl) (j - o) (by rw [fl_len]; omega)
    rw [show o + (j - o) = j by omega] at this
    rw [this]
    have h3 := fl_at g (show j - o < k by omega)
    rw [List.getElem?_eq_getElem (by rw [fl_len]; omega)] at h3
    exact h3
  · rw [if_neg hjo, World.cell?_setCells_out b (FL k g) o w _ (fun _ _ => by rw [fl_len] at *; simp only; omega), h.2.1 j hj]
theorem Fb.set1 (h : Fb w b n f) (o : Nat) (v : Value) (ho : o < n) : Fb (w.setCell ⟨b, o, none⟩ v) b n (patch f o 1 fun _ => v) := h.set o 1 (fun _ => v) ho
theorem Fb.load {T : TypeId} {d : TypeDesc} (h : Fb w b n f) (o k : Nat) (g : Nat → Value) (hok : o + k ≤ n) (hg : ∀ j, j < k → f (o + j) = g j) (hu : Tryz.prog.underlying T = some d) (hd : d.isRow = true) (hi : (Tryz.prog.info? T).map (·.size) = some k) :
    (Instr.loadAt T (.pointer (some ⟨b, o, none⟩))).run Tryz.prog w = .ok (.agg (FA k g)) w := by
  refine run_loadAt_mid w b o T (FL k g) _ (fun j v hj => ?_) hu hd (by rw [fl_len]; exact hi)
  have hl : j < k := by
    have := (List.getElem?_eq_some_iff.1 hj).1
    rwa [fl_len] at this
  rw [fl_at g hl] at hj
  rw [h.2.1 (o + j) (by omega), hg j hl, hj]
theorem Fb.loadV {T : TypeId} {d : TypeDesc} (h : Fb w b n f) (o k : Nat) (g : Nat → Value) (hok : o + k ≤ n) (hg : ∀ j, j < k → f (o + j) = g j) (hu : Tryz.prog.underlying T = some d) (hd : d.isRow = true) (hi : (Tryz.prog.info? T).map (·.size) = some k) :
    (loadVar T ⟨b, o, none⟩).run Tryz.prog w = .ok (.agg (FA k g)) w := by
  refine run_loadVar_mid w b o T (FL k g) _ (fun j v hj => ?_) hu hd (by rw [fl_len]; exact hi)
  have hl : j < k := by
    have := (List.getElem?_eq_some_iff.1 hj).1
    rwa [fl_len] at this
  rw [fl_at g hl] at hj
  rw [h.2.1 (o + j) (by omega), hg j hl, hj]
theorem Fb.store {T : TypeId} (h : Fb w b n f) (o k : Nat) (g : Nat → Value) (hok : o + k ≤ n) (hi : (Tryz.prog.info? T).map (·.size) = some k) (h1 : ∀ j, (g j).oneCell' = true) :
    (Instr.storeAt T (.pointer (some ⟨b, o, none⟩)) (.agg (FA k g))).run Tryz.prog w = .ok () (w.setCells b o (FL k g)) := by
  refine run_storeAt_mid w b o T (FA k g) (fun j hj => ?_) (by rw [fa_size]; exact hi) (fa_one h1)
  rw [fa_size] at hj
  rw [h.2.1 (o + j) (by omega)]
  exact ⟨rfl, h.2.2 _⟩
theorem Fb.sl (h : Fb w b n f) : Sl w (some ⟨b, 0, none⟩) n f := Sl.mk h.1 fun j hj => by rw [Nat.zero_add]; exact h.2.1 j hj
theorem Fb.ce (h : Fb w b n f) {l : List Value} (hl : ∀ j v, l[j]? = some v → j < n ∧ f j = v) : Ce w b l := ⟨h.1, fun j v hj => by obtain ⟨h1, h2⟩ := hl j v hj; rw [h.2.1 j h1, h2], h.2.2⟩
end
/-- All is as it was, but in these blocks, and new ones. -/
def Ch (S : List Nat) (w w' : World) : Prop := (w'.os = w.os ∧ w'.tape = w.tape ∧ w'.output = w.output) ∧ w.heap.size ≤ w'.heap.size ∧ ∀ k, k < w.heap.size → k ∉ S → w'.heap[k]? = w.heap[k]?
section
variable {w w' w2 : World} {S : List Nat}
theorem Ch.refl (S : List Nat) (w : World) : Ch S w w := ⟨⟨rfl, rfl, rfl⟩, Nat.le_refl _, fun _ _ _ => rfl⟩
theorem Ch.trans (h : Ch S w w') (k : Ch S w' w2) : Ch S w w2 :=
  ⟨⟨k.1.1.trans h.1.1, k.1.2.1.trans h.1.2.1, k.1.2.2.trans h.1.2.2⟩, Nat.le_trans h.2.1 k.2.1, fun i hi hs => (k.2.2 i (Nat.lt_of_lt_of_le hi h.2.1) hs).trans (h.2.2 i hi hs)⟩
theorem Ch.of_below (h : Below w.heap.size w w') : Ch S w w' := ⟨⟨h.os, h.tape, h.output⟩, h.size, fun k hk _ => h.block k hk⟩
theorem Ch.step {T : List Nat} (h : Ch S w w') (k : Ch T w' w2) (hT : ∀ i, i ∈ T → i ∈ S ∨ w.heap.size ≤ i) : Ch S w w2 :=
  ⟨⟨k.1.1.trans h.1.1, k.1.2.1.trans h.1.2.1, k.1.2.2.trans h.1.2.2⟩, Nat.le_trans h.2.1 k.2.1, fun i hi hs => (k.2.2 i (Nat.lt_of_lt_of_le hi h.2.1) (fun hm => by rcases hT i hm with h1 | h1; exact hs h1; omega)).trans (h.2.2 i hi hs)⟩
theorem Ch.then (h : Ch S w w') (k : Below w'.heap.size w' w2) : Ch S w w2 := h.trans (.of_below k)
theorem Ch.drewN (h : Ch S w w') (k : Nat) : Ch S w (w'.drewN k) := h
theorem Ch.drew (h : Ch S w w') : Ch S w w'.drew := h
theorem Ch.alloc (h : Ch S w w') (o : Obj) : Ch S w (w'.alloc o) := h.then ((Below.refl _ _).alloc (Nat.le_refl _) o)
theorem Ch.below {B : Nat} (h : Ch S w w') (hS : ∀ k, k ∈ S → B ≤ k) (hB : B ≤ w.heap.size) : Below B w w' :=
  ⟨h.1.1, h.1.2.1, h.1.2.2, h.2.1, fun k hk => h.2.2 k (by omega) (fun hs => by have := hS k hs; omega)⟩
theorem Ch.mono {S2 : List Nat} (h : Ch S w w') (hS : ∀ k, k ∈ S → k ∈ S2 ∨ w.heap.size ≤ k) : Ch S2 w w' :=
  ⟨h.1, h.2.1, fun k hk hs => h.2.2 k hk (fun hm => by rcases hS k hm with h1 | h1; exact hs h1; omega)⟩
theorem Ch.sets (h : Ch S w w') {c o : Nat} {vs : List Value} (hc : c ∈ S ∨ w.heap.size ≤ c) : Ch S w (w'.setCells c o vs) := by
  have k := keeps_setCells c vs o w' c (Nat.le_refl _)
  refine ⟨⟨k.os.trans h.1.1, k.tape.trans h.1.2.1, k.output.trans h.1.2.2⟩, by rw [size_setCells]; exact h.2.1, fun i hi hs => ?_⟩
  have hne : i ≠ c := fun e => by subst e; rcases hc with h1 | h1; exact hs h1; omega
  rw [World.heap_setCells_other w' c o vs (Nat.lt_of_lt_of_le hi h.2.1) hne]
  exact h.2.2 i hi hs
theorem Ch.set1 (h : Ch S w w') {c o : Nat} {v : Value} (hc : c ∈ S ∨ w.heap.size ≤ c) : Ch S w (w'.setCell ⟨c, o, none⟩ v) := h.sets (vs := [v]) hc
theorem Ch.grown (h : Ch S w w') {row : Option Nat} (hg : w'.grownBy w2 row) (hr : ∀ c, row = some c → c ∈ S ∨ w.heap.size ≤ c) : Ch S w w2 := by
  refine ⟨⟨hg.os.trans h.1.1, hg.tape.trans h.1.2.1, hg.output.trans h.1.2.2⟩, Nat.le_trans h.2.1 hg.size, fun i hi hs => ?_⟩
  rw [hg.block i (Nat.lt_of_lt_of_le hi h.2.1) (fun e => by rcases hr i e.symm with h1 | h1; exact hs h1; omega)]
  exact h.2.2 i hi hs
theorem Ch.fb (h : Ch S w w') {b n : Nat} {f : Nat → Value} (hf : Fb w b n f) (hb : b ∉ S) : Fb w' b n f := hf.same (h.2.2 b hf.1 hb)
theorem Ch.pool (h : Ch S w w') {b : Nat} {p : Pl} (hf : PoolAt w b p) (hb : b ∉ S) : PoolAt w' b p := Fb.same (n := 330) (f := pc p) hf (h.2.2 b hf.1 hb)
theorem Ch.ce (h : Ch S w w') {b : Nat} {l : List Value} (hf : Ce w b l) (hb : b ∉ S) : Ce w' b l :=
  have e := h.2.2 b hf.1 hb
  ⟨lt_of_same hf.1 e, fun j v hj => (World.cell?_of_block (a := ⟨b, j, none⟩) e).trans (hf.2.1 j v hj), fun j => (World.frozen?_of_block (a := ⟨b, j, none⟩) e).trans (hf.2.2 j)⟩
theorem Ch.sl (h : Ch S w w') {A : Option Addr} {n : Nat} {f : Nat → Value} (hf : Sl w A n f) (hA : ∀ ad, A = some ad → 0 < n → ad.block ∉ S) : Sl w' A n f := by
  intro hn
  obtain ⟨b, off, rfl, hlt, hc⟩ := hf hn
  have e := h.2.2 b hlt (hA _ rfl hn)
  exact ⟨b, off, rfl, lt_of_same hlt e, fun j hj => (World.cell?_of_block (a := ⟨b, off + j, none⟩) e).trans (hc j hj)⟩
theorem Ch.ow (h : Ch S w w') {B n size : Nat} {e : TypeId} {v : Value} {f : Nat → Value} (hf : Ow w B e size v n f) (hv : ∀ k, v.ownBlock = some k → k ∉ S) : Ow w' B e size v n f := by
  refine ⟨hf.1, ?_⟩
  rcases hf.2 with hn | ⟨g, cap, cur, rfl, hb, hgg, rest⟩
  · exact .inl hn
  · refine .inr ⟨g, cap, cur, rfl, hb, ?_, rest⟩
    rw [h.2.2 g (Array.getElem?_eq_some_iff.1 hgg).1 (hv g rfl)]
    exact hgg
end
end Go.Proofs.YteefhiniamajkaaGreat
namespace Go.Proofs.YteefhiniamajkaaGreat
set_option linter.unusedVariables false
set_option linter.unusedSimpArgs false
open Go.RowKit Go.ChangeShapes Go.WideShapes Go.ChangeAt

/-- A thing: what is known of it in a world, by its blocks alone. -/
structure Th where
  at_ : World → Prop
  bs : List Nat
  keep : ∀ w w' : World, at_ w → (∀ b, b ∈ bs → w'.heap[b]? = w.heap[b]?) → at_ w'
  lt : ∀ w : World, at_ w → ∀ b, b ∈ bs → b < w.heap.size
def thB (b n : Nat) (f : Nat → Value) : Th := ⟨fun w => Fb w b n f, [b], fun _ _ h e => h.same (e b (by simp)), fun _ h x hx => by simp at hx; subst hx; exact h.1⟩
def thC (b : Nat) (l : List Value) : Th := ⟨fun w => Ce w b l, [b], fun _ _ h e => ⟨lt_of_same h.1 (e b (by simp)), fun j v hj => (World.cell?_of_block (a := ⟨b, j, none⟩) (e b (by simp))).trans (h.2.1 j v hj), fun j => (World.frozen?_of_block (a := ⟨b, j, none⟩) (e b (by simp))).trans (h.2.2 j)⟩, fun _ h x hx => by simp at hx; subst hx; exact h.1⟩
/-- Things, all apart; all else is as it was, but for new blocks and those of S. -/
def HS (S : List Nat) (W w : World) (L : List Th) : Prop := (∀ t, t ∈ L → t.at_ w) ∧ Ch S W w ∧ (L.flatMap Th.bs).Nodup ∧ ∀ b, b ∈ L.flatMap Th.bs → b ∈ S ∨ W.heap.size ≤ b
section
variable {S : List Nat} {W w w' : World} {L A B : List Th} {t t' : Th}
theorem HS.start : HS S W W [] := ⟨fun _ h => (by cases h), Ch.refl _ _, by simp, fun _ h => (by simp at h)⟩
theorem HS.start1 (t : Th) (ht : t.at_ W) (hn : t.bs.Nodup) (hS : ∀ b, b ∈ t.bs → b ∈ S) : HS S W W [t] :=
  ⟨fun x hx => by simp at hx; subst hx; exact ht, Ch.refl _ _, by simpa using hn, fun b hb => .inl (hS b (by simpa using hb))⟩
theorem HS.ch (h : HS S W w L) : Ch S W w := h.2.1
theorem HS.nth (h : HS S W w L) (k : Nat) (hk : L[k]? = some t) : t.at_ w := h.1 t (List.mem_of_getElem? hk)
theorem HS.fb {b n : Nat} {f : Nat → Value} (h : HS S W w L) (k : Nat) (hk : L[k]? = some (thB b n f)) : Fb w b n f := h.nth k hk
theorem HS.below (h : HS S W w L) (hb : Below w.heap.size w w') : HS S W w' L :=
  ⟨fun t ht => t.keep w w' (h.1 t ht) fun b hbb => hb.block b (t.lt w (h.1 t ht) b hbb), h.2.1.then hb, h.2.2⟩
theorem HS.alloc (h : HS S W w L) (o : Obj) : HS S W (w.alloc o) L := h.below ((Below.refl _ _).alloc (Nat.le_refl _) o)
theorem HS.drew (h : HS S W w L) : HS S W w.drew L := h.below ⟨rfl, rfl, rfl, Nat.le_refl _, fun _ _ => rfl⟩
theorem HS.drewN (h : HS S W w L) (k : Nat) : HS S W (w.drewN k) L := h.below ⟨rfl, rfl, rfl, Nat.le_refl _, fun _ _ => rfl⟩
theorem HS.bl (h : HS [] W w L) : Below W.heap.size W w := h.2.1.below (by simp) (Nat.le_refl _)
theorem HS.wsize (h : HS S W w L) : W.heap.size ≤ w.heap.size := h.2.1.2.1
theorem HS.new (h : HS S W w L) (t : Th) (hb : Below w.heap.size w w') (ht : t.at_ w') (hn : t.bs.Nodup) (hg : ∀ b, b ∈ t.bs → w.heap.size ≤ b) : HS S W w' (t :: L) := by
  have h' := h.below hb
  refine ⟨fun x hx => ?_, h'.2.1, ?_, fun b hbb => ?_⟩
  · rcases List.mem_cons.1 hx with rfl | hx
    · exact ht
    · exact h'.1 x hx
  · rw [List.flatMap_cons, List.nodup_append]
    refine ⟨hn, h.2.2.1, fun a ha b hbb e => ?_⟩
    subst e
    obtain ⟨x, hx, hxa⟩ := List.mem_flatMap.1 hbb
    have h1 := x.lt w (h.1 x hx) a hxa
    have h2 := hg a ha
    omega
  · rw [List.flatMap_cons] at hbb
    rcases List.mem_append.1 hbb with h1 | h1
    · exact .inr (Nat.le_trans h.wsize (hg b h1))
    · exact h.2.2.2 b h1
theorem HS.upd (h : HS S W w (A ++ t :: B)) (t' : Th) (hbs : t'.bs = t.bs) (hc : Ch t.bs w w') (ht : t'.at_ w') : HS S W w' (A ++ t' :: B) := by
  obtain ⟨h1, h2, h3, h4⟩ := h
  have hb2 : (A ++ t' :: B).flatMap Th.bs = (A ++ t :: B).flatMap Th.bs := by simp [hbs]
  have hd : ∀ x, x ∈ A ++ B → ∀ b, b ∈ x.bs → b ∉ t.bs := by
    intro x hx b hb hbt
    rw [List.flatMap_append, List.flatMap_cons, List.nodup_append] at h3
    obtain ⟨_, h5, h6⟩ := h3
    rcases List.mem_append.1 hx with hx | hx
    · exact h6 b (List.mem_flatMap.2 ⟨x, hx, hb⟩) b (List.mem_append.2 (.inl hbt)) rfl
    · rw [List.nodup_append] at h5
      exact h5.2.2 b hbt b (List.mem_flatMap.2 ⟨x, hx, hb⟩) rfl
  have hk : ∀ x, x ∈ A ++ B → x.at_ w → x.at_ w' := fun x hx hat => x.keep w w' hat fun b hb => hc.2.2 b (x.lt w hat b hb) (hd x hx b hb)
  refine ⟨fun x hx => ?_, ?_, by rw [hb2]; exact h3, by rw [hb2]; exact h4⟩
  · rcases List.mem_append.1 hx with hx | hx
    · exact hk x (List.mem_append.2 (.inl hx)) (h1 x (List.mem_append.2 (.inl hx)))
    · rcases List.mem_cons.1 hx with rfl | hx
      · exact ht
      · exact hk x (List.mem_append.2 (.inr hx)) (h1 x (List.mem_append.2 (.inr (List.mem_cons_of_mem _ hx))))
  · exact h2.step hc fun k hk => h4 k (List.mem_flatMap.2 ⟨t, by simp, hk⟩)
/-- A block is written. -/
theorem HS.set {b n : Nat} {f : Nat → Value} (h : HS S W w (A ++ thB b n f :: B)) (o k : Nat) (g : Nat → Value) (ho : o + k ≤ n) (f' : Nat → Value) (hf : ∀ j, j < n → patch f o k g j = f' j) : HS S W (w.setCells b o (FL k g)) (A ++ thB b n f' :: B) := by
  have hF : Fb w b n f := h.1 (thB b n f) (by simp)
  exact h.upd (thB b n f') rfl ((Ch.refl _ _).sets (.inl (by simp [thB]))) ((hF.set o k g ho).as hf)
theorem HS.cells (h : HS S W w L) (l : List Value) {T : TypeId} : HS S W (w.alloc (.cells l.toArray T)) (thC w.heap.size l :: L) :=
  h.new (thC w.heap.size l) ((Below.refl _ _).alloc (Nat.le_refl _) _) (Ce.made rfl) (by simp [thC]) (fun b hb => by simp [thC] at hb; omega)
theorem HS.ce {b : Nat} {l : List Value} (h : HS S W w L) (k : Nat) (hk : L[k]? = some (thC b l)) : Ce w b l := h.nth k hk
theorem HS.setC {b : Nat} {l : List Value} (h : HS S W w (A ++ thC b l :: B)) (j : Nat) (v : Value) (hj : j < l.length) : HS S W (w.setCell ⟨b, j, none⟩ v) (A ++ thC b (l.set j v) :: B) := by
  have hF : Ce w b l := h.1 (thC b l) (by simp)
  exact h.upd (thC b (l.set j v)) rfl ((Ch.refl _ _).set1 (.inl (by simp [thC]))) (Ce.set hF j v hj)
theorem HS.drop (h : HS S W w (A ++ t :: B)) : HS S W w (A ++ B) := by
  obtain ⟨h1, h2, h3, h4⟩ := h
  have hm : ∀ x, x ∈ A ++ B → x ∈ A ++ t :: B := fun x hx => by
    rcases List.mem_append.1 hx with hx | hx
    · exact List.mem_append.2 (.inl hx)
    · exact List.mem_append.2 (.inr (List.mem_cons_of_mem _ hx))
  refine ⟨fun x hx => h1 x (hm x hx), h2, ?_, fun b hb => ?_⟩
  · refine h3.sublist ?_
    rw [List.flatMap_append, List.flatMap_append, List.flatMap_cons]
    exact List.Sublist.append (List.Sublist.refl _) (List.sublist_append_right _ _)
  · obtain ⟨x, hx, hxb⟩ := List.mem_flatMap.1 hb
    exact h4 b (List.mem_flatMap.2 ⟨x, hm x hx, hxb⟩)
theorem HS.tail (h : HS S W w (t :: L)) : HS S W w L := HS.drop (A := []) h
theorem HS.drop2 {a b : Th} (h : HS S W w (a :: b :: t :: L)) : HS S W w (a :: b :: L) := HS.drop (A := [a, b]) h
theorem HS.drop1 {a : Th} (h : HS S W w (a :: t :: L)) : HS S W w (a :: L) := HS.drop (A := [a]) h
theorem patch_all (f : Nat → Value) (k : Nat) (g : Nat → Value) (j : Nat) (hj : j < k) : patch f 0 k g j = g j := by unfold patch; rw [if_pos ⟨by omega, by omega⟩]; rfl
theorem HS.cons_ne {b n : Nat} {f : Nat → Value} (h : HS S W w (thB b n f :: L)) : ∀ x, x ∈ L.flatMap Th.bs → b ≠ x := by
  intro x hx e
  subst e
  have h3 := h.2.2.1
  rw [List.flatMap_cons, List.nodup_append] at h3
  exact h3.2.2 b (by simp [thB]) b hx rfl
end
section
variable {S : List Nat} {W w : World} {L A B : List Th} {ops : Array Oper} {rest : List Oper} {Q : Exit → Act → World → Prop} {o : Oper} {a : Act} {K : Act → World → Prop}
theorem wl_ow (hw : Region.wanted o (yielded ops a.tmps) = true) (h : o.wp Tryz.prog a w (wpList Tryz.prog ops Q rest) Q) : wpList Tryz.prog ops Q (o :: rest) a w := by
  unfold wpList
  rw [if_pos hw]
  exact .inl h
theorem ow_val {v : Value} {w' : World} (he : (execOp a.eval o).run Tryz.prog w = .ok (.value v) w') (h : K (a.put o.dst v) w') : o.wp Tryz.prog a w K Q := by
  unfold Oper.wp; rw [he]; exact h
theorem ow_skip {w' : World} (he : (execOp a.eval o).run Tryz.prog w = .ok .skip w') (h : K (a.put o.dst undef) w') : o.wp Tryz.prog a w K Q := by
  unfold Oper.wp; rw [he]; exact h
theorem ex_alloc {T : TypeId} {n : Nat} {f : Nat → Value} (ho : o.op = .alloc T) (hz : (zeroValue T).run Tryz.prog w = .ok (.agg (FA n f)) w) (hn : 0 < n) : (execOp a.eval o).run Tryz.prog w = .ok (.value (.pointer (some ⟨w.heap.size, 0, none⟩))) (w.alloc (.cells (FA n f) T)) := by
  have h1 : (FA n f).size = n := fa_size _ _
  have h2 : (FA n f = #[]) = False := eq_false fun h => by rw [h] at h1; simp at h1; omega
  unfold execOp
  simp only [ho]
  go_simp
theorem ex_box {T : TypeId} {x : Operand} {n : Nat} {f : Nat → Value} (ho : o.op = .box T x) (hx : a.eval x = .agg (FA n f)) (hn : 0 < n) : (execOp a.eval o).run Tryz.prog w = .ok (.value (.pointer (some ⟨w.heap.size, 0, none⟩))) (w.alloc (.cells (FA n f) T)) := by
  have h1 : (FA n f).size = n := fa_size _ _
  have h2 : (FA n f = #[]) = False := eq_false fun h => by rw [h] at h1; simp at h1; omega
  unfold execOp
  simp only [ho, hx]
  go_simp
theorem ow_alloc {T : TypeId} {n : Nat} {f : Nat → Value} (ho : o.op = .alloc T) (hz : (zeroValue T).run Tryz.prog w = .ok (.agg (FA n f)) w) (hn : 0 < n) (hS : HS S W w L)
    (h : ∀ U w', HS S W w' (thB U n f :: L) → W.heap.size ≤ U → K (a.put o.dst (.pointer (some ⟨U, 0, none⟩))) w') : o.wp Tryz.prog a w K Q :=
  ow_val (ex_alloc ho hz hn) (h _ _ (hS.new (thB w.heap.size n f) ((Below.refl _ _).alloc (Nat.le_refl _) _) (Fb.made rfl) (by simp [thB]) (fun b hb => by simp [thB] at hb; omega)) hS.wsize)
theorem ow_box {T : TypeId} {x : Operand} {n : Nat} {f : Nat → Value} (ho : o.op = .box T x) (hx : a.eval x = .agg (FA n f)) (hn : 0 < n) (hS : HS S W w L)
    (h : ∀ U w', HS S W w' (thB U n f :: L) → W.heap.size ≤ U → K (a.put o.dst (.pointer (some ⟨U, 0, none⟩))) w') : o.wp Tryz.prog a w K Q :=
  ow_val (ex_box ho hx hn) (h _ _ (hS.new (thB w.heap.size n f) ((Below.refl _ _).alloc (Nat.le_refl _) _) (Fb.made rfl) (by simp [thB]) (fun b hb => by simp [thB] at hb; omega)) hS.wsize)
theorem ow_load {T : TypeId} {x : Operand} {d : TypeDesc} {b n : Nat} {f : Nat → Value} (i : Nat) (hLi : L[i]? = some (thB b n f)) (off k : Nat) (g : Nat → Value) (ho : o.op = .load T x) (hx : a.eval x = .pointer (some ⟨b, off, none⟩)) (hS : HS S W w L) (hok : off + k ≤ n) (hg : ∀ j, j < k → f (off + j) = g j)
    (hu : Tryz.prog.underlying T = some d) (hd : d.isRow = true) (hi : (Tryz.prog.info? T).map (·.size) = some k) (h : K (a.put o.dst (.agg (FA k g))) w) : o.wp Tryz.prog a w K Q :=
  ov_val (ex_load ho hx ((hS.fb i hLi).load off k g hok hg hu hd hi)) h
theorem ow_store {T : TypeId} {x y : Operand} {b n : Nat} {f : Nat → Value} (off k : Nat) (g f' : Nat → Value) (ho : o.op = .store T x y) (hx : a.eval x = .pointer (some ⟨b, off, none⟩)) (hy : a.eval y = .agg (FA k g)) (hS : HS S W w (A ++ thB b n f :: B)) (hok : off + k ≤ n) (hf : ∀ j, j < n → patch f off k g j = f' j)
    (hi : (Tryz.prog.info? T).map (·.size) = some k) (h1 : ∀ j, (g j).oneCell' = true) (h : ∀ w', HS S W w' (A ++ thB b n f' :: B) → K (a.put o.dst undef) w') : o.wp Tryz.prog a w K Q :=
  have hF : Fb w b n f := hS.1 (thB b n f) (by simp)
  ov_store ho hx hy (hF.store off k g hok hi h1) (h _ (hS.set off k g hok f' hf))
end
end Go.Proofs.YteefhiniamajkaaGreat
namespace Go.Proofs.YteefhiniamajkaaGreat
set_option linter.unusedVariables false
set_option linter.unusedSimpArgs false
open Go.RowKit Go.ChangeShapes Go.WideShapes Go.ChangeAt

/-- The cells of a note. -/
def ntc (n : Nt) (j : Nat) : Value := if j < 12 then (match j with | 0 => .int .i64 n.u | 1 => .int .i64 n.b | 2 => .int .i64 n.v | 3 => .bool n.wh | 4 => .bool n.ak | _ => enc n.e (j - 5)) else pc n.p (j - 12)
def NA (n : Nt) : Array Value := FA 342 (ntc n)
def zNt : Nt := ⟨0, 0, 0, false, false, zEn, zPl⟩
theorem ntc_one (n : Nt) (j : Nat) : (ntc n j).oneCell' = true := by
  unfold ntc
  split
  · split
    · rfl
    · rfl
    · rfl
    · rfl
    · rfl
    · exact enc_one _ _
  · exact pc_one _ _
theorem na_size (n : Nt) : (NA n).size = 342 := fa_size _ _
theorem na_ne (n : Nt) : (NA n = #[]) = False := by
  refine eq_false fun h => ?_
  have := na_size n
  rw [h] at this
  cases this
theorem zero_nt (w : World) : (zeroValue 94).run Tryz.prog w = .ok (.agg (NA zNt)) w := by kernel_rfl
theorem info_nt : (Tryz.prog.info? 94).map (·.size) = some 342 := by kernel_rfl
/-- The cells of a head. -/
def hdc (p a : Pl) (c : Nat) (l : En) (u : Int) (m : Nat) (j : Nat) : Value :=
  if j < 330 then pc p j else if j < 660 then pc a (j - 330) else if j = 660 then .chan (some c) else if j < 668 then enc l (j - 661) else if j = 668 then .int .i64 u else .map (some m)
def HA (p a : Pl) (c : Nat) (l : En) (u : Int) (m : Nat) : Array Value := FA 670 (hdc p a c l u m)
theorem hdc_one (p a : Pl) (c : Nat) (l : En) (u : Int) (m j : Nat) : (hdc p a c l u m j).oneCell' = true := by
  unfold hdc
  split
  · exact pc_one _ _
  · split
    · exact pc_one _ _
    · split
      · rfl
      · split
        · exact enc_one _ _
        · split <;> rfl
theorem build_hd (p a : Pl) (c : Nat) (u : Int) (m : Nat) (w : World) : (Instr.build 110 #[(0, .agg (PA p)), (1, .agg (PA a)), (2, .chan (some c)), (4, .int .i64 u), (5, .map (some m))]).run Tryz.prog w = .ok (.agg (HA p a c zEn u m)) w := run_build w _ _ _ (by kernel_rfl)
theorem build_nt3 (u b v : Int) (w : World) : (Instr.build 94 #[(0, .int .i64 u), (1, .int .i64 b), (2, .int .i64 v)]).run Tryz.prog w = .ok (.agg (NA ⟨u, b, v, false, false, zEn, zPl⟩)) w := run_build w _ _ _ (by kernel_rfl)
theorem build_nt04 (u : Int) (w : World) : (Instr.build 94 #[(0, .int .i64 u), (4, .bool true)]).run Tryz.prog w = .ok (.agg (NA ⟨u, 0, 0, false, true, zEn, zPl⟩)) w := run_build w _ _ _ (by kernel_rfl)
/-- A head at block b, its channel at c, its map at m, in which at most n words were laid. -/
def HeadAt (w : World) (b c m n : Nat) (h : Hd) : Prop :=
  Fb w b 670 (hdc h.pl h.ah c h.la h.un m) ∧ (∃ s r, w.heap[c]? = some (.chan 200 (h.q.map enV).toArray false s r false)) ∧ (∃ M, HMap w m n M ∧ ∀ i : Nat, i < h.un → M i = some (h.wd i)) ∧ b ≠ c ∧ b ≠ m ∧ c ≠ m
section
variable {w w' : World} {b c m n : Nat} {h : Hd} {S : List Nat}
theorem chan_lt {c cap s r : Nat} {buf : Array Value} {cl tm : Bool} (h : w.heap[c]? = some (.chan cap buf cl s r tm)) : c < w.heap.size := by
  rcases Nat.lt_or_ge c w.heap.size with h2 | h2
  · exact h2
  · rw [Array.getElem?_eq_none h2] at h; cases h
theorem HMap.same {b n : Nat} {M : Int → Option Wd} (h : HMap w b n M) (e : w'.heap[b]? = w.heap[b]?) : HMap w' b n M := by
  obtain ⟨D, ⟨es, clock, hb, F⟩, h2, h3⟩ := h
  exact ⟨D, ⟨es, clock, e.trans hb, F⟩, h2, h3⟩
theorem HeadAt.ch (hH : HeadAt w b c m n h) (hc : Ch S w w') (h1 : b ∉ S) (h2 : c ∉ S) (h3 : m ∉ S) : HeadAt w' b c m n h := by
  obtain ⟨hF, ⟨s, r, hC⟩, ⟨M, hM, hMw⟩, n1, n2, n3⟩ := hH
  exact ⟨hc.fb hF h1, ⟨s, r, (hc.2.2 c (chan_lt hC) h2).trans hC⟩, ⟨M, hM.same (hc.2.2 m hM.lt h3), hMw⟩, n1, n2, n3⟩
theorem HeadAt.same (hH : HeadAt w b c m n h) (e1 : w'.heap[b]? = w.heap[b]?) (e2 : w'.heap[c]? = w.heap[c]?) (e3 : w'.heap[m]? = w.heap[m]?) : HeadAt w' b c m n h := by
  obtain ⟨hF, ⟨s, r, hC⟩, ⟨M, hM, hMw⟩, n1, n2, n3⟩ := hH
  exact ⟨hF.same e1, ⟨s, r, e2.trans hC⟩, ⟨M, hM.same e3, hMw⟩, n1, n2, n3⟩
theorem HeadAt.below (hH : HeadAt w b c m n h) (hb : Below w.heap.size w w') : HeadAt w' b c m n h := hH.ch (S := []) (.of_below hb) (by simp) (by simp) (by simp)
theorem HeadAt.alloc (hH : HeadAt w b c m n h) (o : Obj) : HeadAt (w.alloc o) b c m n h := hH.below ((Below.refl _ _).alloc (Nat.le_refl _) o)
theorem HeadAt.drewN (hH : HeadAt w b c m n h) (k : Nat) : HeadAt (w.drewN k) b c m n h := hH
theorem HeadAt.drew (hH : HeadAt w b c m n h) : HeadAt w.drew b c m n h := hH
theorem HeadAt.fb (hH : HeadAt w b c m n h) : Fb w b 670 (hdc h.pl h.ah c h.la h.un m) := hH.1
theorem HeadAt.pool (hH : HeadAt w b c m n h) : PoolAt w b h.pl := by
  refine ⟨hH.1.1, fun j hj => ?_, hH.1.2.2⟩
  rw [hH.1.2.1 j (by omega)]
  unfold hdc
  rw [if_pos hj]
theorem HeadAt.c0 (hH : HeadAt w b c m n h) : w.cell? ⟨b, 0, none⟩ = some (.int .i64 h.pl.v) := hH.pool.c0
theorem HeadAt.c660 (hH : HeadAt w b c m n h) : w.cell? ⟨b, 660, none⟩ = some (.chan (some c)) := hH.1.2.1 660 (by omega)
theorem HeadAt.c661 (hH : HeadAt w b c m n h) : w.cell? ⟨b, 661, none⟩ = some (.int .i64 h.la.k) := hH.1.2.1 661 (by omega)
theorem HeadAt.c668 (hH : HeadAt w b c m n h) : w.cell? ⟨b, 668, none⟩ = some (.int .i64 h.un) := hH.1.2.1 668 (by omega)
theorem HeadAt.c669 (hH : HeadAt w b c m n h) : w.cell? ⟨b, 669, none⟩ = some (.map (some m)) := hH.1.2.1 669 (by omega)
theorem HeadAt.lt (hH : HeadAt w b c m n h) : b < w.heap.size := hH.1.1
theorem HeadAt.ltc (hH : HeadAt w b c m n h) : c < w.heap.size := by obtain ⟨s, r, hC⟩ := hH.2.1; exact chan_lt hC
theorem HeadAt.ltm (hH : HeadAt w b c m n h) : m < w.heap.size := by obtain ⟨M, hM, _⟩ := hH.2.2.1; exact hM.lt
theorem HeadAt.loadP (hH : HeadAt w b c m n h) : (Instr.loadAt 33 (.pointer (some ⟨b, 0, none⟩))).run Tryz.prog w = .ok (.agg (PA h.pl)) w := hH.pool.loadA
theorem HeadAt.loadH (hH : HeadAt w b c m n h) : (Instr.loadAt 33 (.pointer (some ⟨b, 330, none⟩))).run Tryz.prog w = .ok (.agg (PA h.ah)) w :=
  hH.1.load 330 330 (pc h.ah) (by omega) (fun j hj => by unfold hdc; rw [if_neg (by omega), if_pos (by omega), show 330 + j - 330 = j by omega]) Tryz.underlying33 rfl (by kernel_rfl)
theorem HeadAt.loadL (hH : HeadAt w b c m n h) : (Instr.loadAt 44 (.pointer (some ⟨b, 661, none⟩))).run Tryz.prog w = .ok (enV h.la) w :=
  hH.1.load 661 7 (enc h.la) (by omega) (fun j hj => by unfold hdc; rw [if_neg (by omega), if_neg (by omega), if_neg (by omega), if_pos (by omega), show 661 + j - 661 = j by omega]) Tryz.underlying44 rfl (by kernel_rfl)
theorem HeadAt.look (hH : HeadAt w b c m n h) (i : Nat) (hi : i < h.un) (hu : h.un ≤ 1000) : (Instr.lookup 108 (.map (some m)) (.int .i64 (i : Int)) false).run Tryz.prog w = .ok (wdV (h.wd i)) w := by
  obtain ⟨M, hM, hMw⟩ := hH.2.2.1
  have := hM.look Tryz.underlying108 (zero_wd w) (s := (i : Int)) ⟨by omega, by omega⟩
  rw [hMw i hi] at this
  exact this
end
theorem hd_pool (p a : Pl) (c : Nat) (l : En) (u : Int) (m : Nat) (q : Pl) (j : Nat) (hj : j < 670) : patch (hdc p a c l u m) 0 330 (pc q) j = hdc q a c l u m j := by
  unfold patch hdc
  by_cases h : j < 330
  · rw [if_pos ⟨by omega, by omega⟩, if_pos h]; rfl
  · rw [if_neg (by omega), if_neg h, if_neg h]
theorem hd_ahead (p a : Pl) (c : Nat) (l : En) (u : Int) (m : Nat) (q : Pl) (j : Nat) (hj : j < 670) : patch (hdc p a c l u m) 330 330 (pc q) j = hdc p q c l u m j := by
  unfold patch hdc
  by_cases h : j < 330
  · rw [if_neg (by omega), if_pos h, if_pos h]
  · by_cases h2 : j < 660
    · rw [if_pos ⟨by omega, by omega⟩, if_neg h, if_pos h2]
    · rw [if_neg (by omega), if_neg h, if_neg h, if_neg h2, if_neg h2]
theorem hd_last (p a : Pl) (c : Nat) (l : En) (u : Int) (m : Nat) (e : En) (j : Nat) (hj : j < 670) : patch (hdc p a c l u m) 661 7 (enc e) j = hdc p a c e u m j := by
  unfold patch hdc
  by_cases h : j < 330
  · rw [if_neg (by omega), if_pos h, if_pos h]
  · by_cases h2 : j < 660
    · rw [if_neg (by omega), if_neg h, if_neg h, if_pos h2, if_pos h2]
    · by_cases h3 : j = 660
      · rw [if_neg (by omega), if_neg h, if_neg h, if_neg h2, if_neg h2, if_pos h3, if_pos h3]
      · by_cases h4 : j < 668
        · rw [if_pos ⟨by omega, by omega⟩, if_neg h, if_neg h2, if_neg h3, if_pos h4]
        · rw [if_neg (by omega), if_neg h, if_neg h, if_neg h2, if_neg h2, if_neg h3, if_neg h3, if_neg h4, if_neg h4]
/-- A row of notes of the call's own. -/
def ntf (l : List Nt) (j : Nat) : Value := ntc (l.getD (j / 342) zNt) (j % 342)
def OwN (w : World) (B : Nat) (v : Value) (l : List Nt) : Prop := Ow w B 94 342 v l.length (ntf l)
end Go.Proofs.YteefhiniamajkaaGreat
namespace Go.Proofs.YteefhiniamajkaaGreat
set_option linter.unusedVariables false
set_option linter.unusedSimpArgs false
open Go.RowKit Go.ChangeShapes Go.WideShapes Go.ChangeAt

def thH (b c m n : Nat) (h : Hd) : Th := ⟨fun w => HeadAt w b c m n h, [b, c, m], fun _ _ h e => h.same (e b (by simp)) (e c (by simp)) (e m (by simp)), fun _ h x hx => by
  simp at hx
  rcases hx with rfl | rfl | rfl
  · exact h.lt
  · exact h.ltc
  · exact h.ltm⟩
theorem HeadAt.nd {w : World} {b c m n : Nat} {h : Hd} (hH : HeadAt w b c m n h) : [b, c, m].Nodup := by
  obtain ⟨_, _, _, n1, n2, n3⟩ := hH
  simp [n1, n2, n3]
theorem HeadAt.hs {w : World} {b c m n : Nat} {h : Hd} (hH : HeadAt w b c m n h) : HS [b, c, m] w w [thH b c m n h] := HS.start1 _ hH hH.nd (fun _ h => h)
theorem HeadAt.chan {w : World} {b c m n : Nat} {h : Hd} (hH : HeadAt w b c m n h) (q : List En) (s r : Nat) : HeadAt (w.setChan c 200 (q.map enV).toArray false s r false) b c m n { h with q := q } := by
  have hlc := hH.ltc
  obtain ⟨hF, _, ⟨M, hM, hMw⟩, n1, n2, n3⟩ := hH
  have ne : ∀ k, k ≠ c → (w.setChan c 200 (q.map enV).toArray false s r false).heap[k]? = w.heap[k]? := fun k hk => by
    simp only [World.setChan]
    rw [Array.getElem?_setIfInBounds_ne (Ne.symm hk)]
  exact ⟨hF.same (ne b n1), ⟨s, r, Go.Conc.heap_setChan _ _ _ _ _ _ _ _ hlc⟩, ⟨M, hM.same (ne m (Ne.symm n3)), hMw⟩, n1, n2, n3⟩
theorem ch_chan (w : World) (c cap : Nat) (buf : Array Value) (cl : Bool) (s r : Nat) (tm : Bool) {S : List Nat} (hc : c ∈ S) : Ch S w (w.setChan c cap buf cl s r tm) :=
  ⟨⟨rfl, rfl, rfl⟩, by rw [Go.Conc.size_setChan]; exact Nat.le_refl _, fun k _ hk => by
    simp only [World.setChan]
    rw [Array.getElem?_setIfInBounds_ne (fun e => hk (by rw [← e]; exact hc))]⟩
theorem HeadAt.setPool {w : World} {b c m n : Nat} {h : Hd} (hH : HeadAt w b c m n h) (q : Pl) : HeadAt (w.setCells b 0 (FL 330 (pc q))) b c m n { h with pl := q } := by
  have hC := (Ch.refl [b] w).sets (c := b) (o := 0) (vs := FL 330 (pc q)) (.inl (by simp))
  obtain ⟨hF, ⟨s, r, hCh⟩, ⟨M, hM, hMw⟩, n1, n2, n3⟩ := hH
  exact ⟨(hF.set 0 330 (pc q) (by omega)).as fun j hj => hd_pool _ _ _ _ _ _ q j hj, ⟨s, r, (hC.2.2 c (chan_lt hCh) (by simp [Ne.symm n1])).trans hCh⟩, ⟨M, hM.same (hC.2.2 m hM.lt (by simp [Ne.symm n2])), hMw⟩, n1, n2, n3⟩
theorem HeadAt.setAhead {w : World} {b c m n : Nat} {h : Hd} (hH : HeadAt w b c m n h) (q : Pl) : HeadAt (w.setCells b 330 (FL 330 (pc q))) b c m n { h with ah := q } := by
  have hC := (Ch.refl [b] w).sets (c := b) (o := 330) (vs := FL 330 (pc q)) (.inl (by simp))
  obtain ⟨hF, ⟨s, r, hCh⟩, ⟨M, hM, hMw⟩, n1, n2, n3⟩ := hH
  exact ⟨(hF.set 330 330 (pc q) (by omega)).as fun j hj => hd_ahead _ _ _ _ _ _ q j hj, ⟨s, r, (hC.2.2 c (chan_lt hCh) (by simp [Ne.symm n1])).trans hCh⟩, ⟨M, hM.same (hC.2.2 m hM.lt (by simp [Ne.symm n2])), hMw⟩, n1, n2, n3⟩
theorem HeadAt.setLast {w : World} {b c m n : Nat} {h : Hd} (hH : HeadAt w b c m n h) (e : En) : HeadAt (w.setCells b 661 (FL 7 (enc e))) b c m n { h with la := e } := by
  have hC := (Ch.refl [b] w).sets (c := b) (o := 661) (vs := FL 7 (enc e)) (.inl (by simp))
  obtain ⟨hF, ⟨s, r, hCh⟩, ⟨M, hM, hMw⟩, n1, n2, n3⟩ := hH
  exact ⟨(hF.set 661 7 (enc e) (by omega)).as fun j hj => hd_last _ _ _ _ _ _ e j hj, ⟨s, r, (hC.2.2 c (chan_lt hCh) (by simp [Ne.symm n1])).trans hCh⟩, ⟨M, hM.same (hC.2.2 m hM.lt (by simp [Ne.symm n2])), hMw⟩, n1, n2, n3⟩
theorem info_en : (Tryz.prog.info? 44).map (·.size) = some 7 := by kernel_rfl
theorem HeadAt.storeL {w : World} {b c m n : Nat} {h : Hd} (hH : HeadAt w b c m n h) (e : En) : (Instr.storeAt 44 (.pointer (some ⟨b, 661, none⟩)) (.agg #[.int .i64 e.k, .int .i64 e.s, .int .i64 e.a, .int .i64 e.p, .int .i64 e.w, .int .u64 e.y.a, .int .u64 e.y.b])).run Tryz.prog w = .ok () (w.setCells b 661 (FL 7 (enc e))) :=
  hH.fb.store 661 7 (enc e) (by omega) info_en (enc_one e)
theorem pa_fa (p : Pl) : Value.agg (PA p) = .agg (FA 330 (pc p)) := rfl
theorem HeadAt.loadF {w : World} {b c m n : Nat} {h : Hd} (hH : HeadAt w b c m n h) : (Instr.loadAt 33 (.pointer (some ⟨b, 0, none⟩))).run Tryz.prog w = .ok (.agg (FA 330 (pc h.pl))) w := hH.loadP
theorem HeadAt.loadG {w : World} {b c m n : Nat} {h : Hd} (hH : HeadAt w b c m n h) : (Instr.loadAt 33 (.pointer (some ⟨b, 330, none⟩))).run Tryz.prog w = .ok (.agg (FA 330 (pc h.ah))) w := hH.loadH
theorem na_fa (p : Nt) : Value.agg (NA p) = .agg (FA 342 (ntc p)) := rfl
theorem zpl_fa (w : World) : (zeroValue 33).run Tryz.prog w = .ok (.agg (FA 330 (pc zPl))) w := zero_pl w
theorem znt_fa (w : World) : (zeroValue 94).run Tryz.prog w = .ok (.agg (FA 342 (ntc zNt))) w := zero_nt w
theorem info_pl : (Tryz.prog.info? 33).map (·.size) = some 330 := by kernel_rfl
theorem apply_fa (p : Pl) (e : En) (hp : PB p) (w : World) : Calls Tryz.prog 72 #[.agg (FA 330 (pc p)), .agg #[.int .i64 e.k, .int .i64 e.s, .int .i64 e.a, .int .i64 e.p, .int .i64 e.w, .int .u64 e.y.a, .int .u64 e.y.b]] w fun x w' => x = .returned (.tuple #[.agg (FA 330 (pc (apR p e).1)), .int .i64 (apR p e).2]) ∧ Below w.heap.size w w' := apply_any p e hp w
theorem fb_pool {w : World} {b : Nat} {p : Pl} : PoolAt w b p = Fb w b 330 (pc p) := rfl
end Go.Proofs.YteefhiniamajkaaGreat
