/- What all texts of this seat share: slices that read as functions, and the last step of a law's row. The laws' helper within; rows of numbers written out. A region whose order is open, walked step by step: what may be taken first is; a call is met where it alone may come up; behind it more may be said of the world. A select of one case with a default, and what comes ahead of it and behind, in a walk. A send into a buffer with room, a select of two receives, in a walk. -/
import Derived.Test.YteefhiniamajkaaGreatRows
import Derived.WalkKit
import Derived.ProofKit
import Derived.OpenShut
import Derived.Handy
import Derived.Maps.AppendAt
import Derived.Deep.QuietTactic
import Derived.BigQuiet
import Derived.SizedLaws
import Derived.Deep.RegionHeld3
import Derived.Deep.DrawnRows
import Derived.Conc.LoneSelect
import Derived.Conc.LoneSelectN
import Derived.Conc.LoneCalls
namespace Go.Proofs.YteefhiniamajkaaGreat
set_option linter.unusedVariables false
open Go.RowKit Go.ChangeShapes Go.WideShapes Go.ChangeAt

theorem hid {p : Prop} (h : p) : Hid p := h

theorem ret_i64 {a b : Int} (h : a = b) : Ending.returned (.int .i64 a) = .returned (.int .i64 b) := by rw [h]
theorem ret_bool {a b : Bool} (h : a = b) : Ending.returned (.bool a) = .returned (.bool b) := by rw [h]
theorem re_i64 {P : Program} {F : FuncId} {args : Array Value} {w : World} {R : World → Prop} {a b : Int} (h : Calls P F args w fun e w' => e = .returned (.int .i64 a) ∧ R w') (he : a = b) :
    Calls P F args w fun e w' => e = .returned (.int .i64 b) ∧ R w' := by subst he; exact h
theorem re_bool {P : Program} {F : FuncId} {args : Array Value} {w : World} {R : World → Prop} {a b : Bool} (h : Calls P F args w fun e w' => e = .returned (.bool a) ∧ R w') (he : a = b) :
    Calls P F args w fun e w' => e = .returned (.bool b) ∧ R w' := by subst he; exact h
theorem own_ : ownKnob Tryz.prog.godebug = none := by kernel_rfl
theorem laid_ : laidOutB Tryz.prog = true := by kernel_rfl

/-- The first m cells from A on hold f 0, f 1 .. -/
def Sl (w : World) (A : Option Addr) (m : Nat) (f : Nat → Value) : Prop :=
  0 < m → ∃ b off : Nat, A = some ⟨b, off, none⟩ ∧ b < w.heap.size ∧ ∀ j, j < m → w.cell? ⟨b, off + j, none⟩ = some (f j)

section
variable {w w' : World} {A : Option Addr} {m : Nat} {f : Nat → Value}

theorem Sl.nil (w : World) (A : Option Addr) (f : Nat → Value) : Sl w A 0 f := fun h => absurd h (by omega)
theorem Sl.below {B : Nat} (h : Sl w A m f) (hb : Below B w w') (hB : w.heap.size ≤ B) : Sl w' A m f := by
  intro hm
  obtain ⟨b, off, rfl, hlt, hc⟩ := h hm
  exact ⟨b, off, rfl, Nat.lt_of_lt_of_le hlt hb.size, fun j hj => (hb.cell (p := ⟨b, off + j, none⟩) (Nat.lt_of_lt_of_le hlt hB)).trans (hc j hj)⟩
theorem Sl.drewN (h : Sl w A m f) (k : Nat) : Sl (w.drewN k) A m f := h
theorem Sl.drew (h : Sl w A m f) : Sl w.drew A m f := h
theorem Sl.alloc (h : Sl w A m f) (o : Obj) : Sl (w.alloc o) A m f := h.below ((Below.refl w.heap.size w).alloc (Nat.le_refl _) o) (Nat.le_refl _)
theorem Sl.setCell (h : Sl w A m f) {B : Nat} {p : Addr} (v : Value) (hA : ∀ ad, A = some ad → ad.block < B) (hp : B ≤ p.block) : Sl (w.setCell p v) A m f := by
  intro hm
  obtain ⟨b, off, rfl, hlt, hc⟩ := h hm
  have h1 := hA _ rfl
  refine ⟨b, off, rfl, by simpa [World.setCell] using hlt, fun j hj => ?_⟩
  rw [World.cell?_setCell_other _ _ _ _ (fun e => by subst e; simp only at h1 hp; omega)]
  exact hc j hj
theorem Sl.less {k : Nat} (h : Sl w A m f) (hk : k ≤ m) : Sl w A k f := by
  intro h0
  obtain ⟨b, off, rfl, hlt, hc⟩ := h (by omega)
  exact ⟨b, off, rfl, hlt, fun j hj => hc j (by omega)⟩
theorem Sl.as {g : Nat → Value} (h : Sl w A m f) (hg : ∀ j, j < m → f j = g j) : Sl w A m g := by
  intro h0
  obtain ⟨b, off, rfl, hlt, hc⟩ := h h0
  exact ⟨b, off, rfl, hlt, fun j hj => by rw [hc j hj, hg j hj]⟩
theorem Sl.mk {b off : Nat} (hlt : b < w.heap.size) (hc : ∀ j, j < m → w.cell? ⟨b, off + j, none⟩ = some (f j)) : Sl w (some ⟨b, off, none⟩) m f :=
  fun _ => ⟨b, off, rfl, hlt, hc⟩
theorem Sl.at_ {b off : Nat} (h : Sl w (some ⟨b, off, none⟩) m f) {j : Nat} (hj : j < m) : w.cell? ⟨b, off + j, none⟩ = some (f j) := by
  obtain ⟨b', off', e, _, hc⟩ := h (by omega)
  injection e with e
  injection e with e1 e2
  subst e1; subst e2
  exact hc j hj
theorem Sl.lt {b off : Nat} (h : Sl w (some ⟨b, off, none⟩) m f) (hj : 0 < m) : b < w.heap.size := by
  obtain ⟨b', off', e, hl, _⟩ := h hj
  injection e with e
  injection e with e1 e2
  subst e1
  exact hl
theorem Sl.addr (h : Sl w A m f) (hj : 0 < m) : ∃ b off : Nat, A = some ⟨b, off, none⟩ := by
  obtain ⟨b, off, e, _⟩ := h hj
  exact ⟨b, off, e⟩
/-- A cut from place i on, of i less than all. -/
theorem Sl.cut {b off i : Nat} (h : Sl w (some ⟨b, off, none⟩) m f) (k : Nat) (hk : i + k ≤ m) : Sl w (some ⟨b, off + i, none⟩) k (fun j => f (i + j)) := by
  intro h0
  refine ⟨b, off + i, rfl, h.lt (by omega), fun j hj => ?_⟩
  have := h.at_ (j := i + j) (by omega)
  rw [Nat.add_assoc]
  exact this
/-- A cut as the model makes it: at the capacity the elder address is kept. -/
theorem Sl.cutFrom {i c n : Nat} (h : Sl w A n f) (hi : i ≤ n) (hc : n ≤ c) : Sl w (if c = i then A else A.map (·.add i)) (n - i) (fun j => f (i + j)) := by
  intro h0
  obtain ⟨b, off, rfl, hlt, hcell⟩ := h (by omega)
  rw [if_neg (by omega)]
  exact ⟨b, off + i, by simp [Addr.add], hlt, fun j hj => by rw [Nat.add_assoc]; exact hcell _ (by omega)⟩
theorem Sl.of_own {B : Nat} {e : TypeId} {n c : Nat} {xs : List Value} (h : w.ownsRow B e 1 (.slice A n c) n xs) (hf : ∀ j, j < n → xs[j]? = some (f j)) : Sl w A n f := by
  intro hn
  rcases h.2 with ⟨_, h0⟩ | ⟨g, cap, cur, hv, _, hh, hnc, _⟩
  · omega
  · injection hv with hA _ hcap
    subst hA
    subst hcap
    have hg : g < w.heap.size := by
      rcases Nat.lt_or_ge g w.heap.size with hlt | hge
      · exact hlt
      · rw [Array.getElem?_eq_none hge] at hh; cases hh
    refine ⟨g, 0, rfl, hg, fun j hj => ?_⟩
    rw [Nat.zero_add, h.cellAt j (by omega)]
    exact hf j hj
end

section
variable {P : Program} {F : FuncId} {args : Array Value} {w : World} {v : Value}
/-- Calls inside a region that only reads: of a callee that leaves the world alone, of one that draws; in the region's first world and behind draws. -/
theorem q0p {n : Nat} (h : Calls P F args (w.drewN n) fun e w' => e = .returned v ∧ w.drewN n = w') : Calls P F args (w.drewN n) fun e w'' => e = .returned v ∧ ∃ m, w'' = w.drewN m :=
  h.mono fun _ _ ⟨he, hm⟩ => ⟨he, n, hm.symm⟩
theorem q1p {a n : Nat} (h : Calls P F args (w.drewN (a + n)) fun e w' => e = .returned v ∧ w.drewN (a + n) = w') : Calls P F args (w.drewN (a + n)) fun e w'' => e = .returned v ∧ ∃ m, w'' = w.drewN (a + m) :=
  h.mono fun _ _ ⟨he, hm⟩ => ⟨he, n, hm.symm⟩
theorem q0q {n : Nat} (h : Calls P F args (w.drewN n) fun e w' => e = .returned v ∧ ∃ m, w' = (w.drewN n).drewN m) : Calls P F args (w.drewN n) fun e w'' => e = .returned v ∧ ∃ m, w'' = w.drewN m :=
  h.mono fun _ _ ⟨he, m, hm⟩ => ⟨he, n + m, by rw [hm, World.drewN_drewN]⟩
theorem q1q {a n : Nat} (h : Calls P F args (w.drewN (a + n)) fun e w' => e = .returned v ∧ ∃ m, w' = (w.drewN (a + n)).drewN m) : Calls P F args (w.drewN (a + n)) fun e w'' => e = .returned v ∧ ∃ m, w'' = w.drewN (a + m) :=
  h.mono fun _ _ ⟨he, m, hm⟩ => ⟨he, n + m, by rw [hm, World.drewN_drewN, Nat.add_assoc]⟩
theorem below_drewN {B : Nat} {a w : World} (h : Below B a w) (n : Nat) : Below B a (w.drewN n) := ⟨h.os, h.tape, h.output, h.size, h.block⟩
/-- The address is met where there is a first cell; else it does not matter. -/
theorem below_of_drewN {B : Nat} {a w : World} {n : Nat} (h : Below B a (w.drewN n)) : Below B a w := ⟨h.os, h.tape, h.output, h.size, h.block⟩
end

/-- Bytes. -/
abbrev By (w : World) (A : Option Addr) (n : Nat) (g : Nat → Int) : Prop := Sl w A n (fun j => .int .u8 (g j))
theorem row_lit (k : IntKind) (w : World) (t : TypeId) (l : List Int) : Sl (w.alloc (.cells (l.map (Value.int k)).toArray t)) (some ⟨w.heap.size, 0, none⟩) l.length (fun j => .int k (l.getD j 0)) := by
  refine Sl.mk (by simp) fun j hj => ?_
  rw [cell_of_row _ w.heap.size (0 + j) (l.map (Value.int k)).toArray t (0, 0) (heap_alloc_new w _), Nat.zero_add]
  simp [List.getD, hj]
theorem row_at (k : IntKind) (l : List Int) {w : World} {t : TypeId} {b : Nat} (hb : w.heap.size = b) : Sl (w.alloc (.cells (l.map (Value.int k)).toArray t)) (some ⟨b, 0, none⟩) l.length (fun j => .int k (l.getD j 0)) := by
  subst hb; exact row_lit k w t l
def IsB (g : Nat → Int) : Prop := ∀ j, 0 ≤ g j ∧ g j ≤ 255
/-- Whole numbers. -/
abbrev Is (w : World) (A : Option Addr) (n : Nat) (g : Nat → Int) : Prop := Sl w A n (fun j => .int .i64 (g j))
def IsI (g : Nat → Int) : Prop := ∀ j, -9223372036854775808 ≤ g j ∧ g j ≤ 9223372036854775807

/-- A row of the call's own: n elements of size cells each, the cells are f 0, f 1 .. -/
def Ow (w : World) (B : Nat) (e : TypeId) (size : Nat) (v : Value) (n : Nat) (f : Nat → Value) : Prop := w.ownsRow B e size v n ((List.range (n * size)).map f)
def two (k : Nat) (f f2 : Nat → Value) : Nat → Value := fun j => if j < k then f j else f2 (j - k)

section
variable {w w' : World} {B : Nat} {e : TypeId} {size n : Nat} {v : Value} {f f2 : Nat → Value}
theorem Ow.none_ : Ow w B e size (.slice none 0 0) 0 f := ⟨by simp, .inl ⟨rfl, rfl⟩⟩
theorem Ow.new (hB : B ≤ w.heap.size) : Ow (w.alloc (.cells #[] e)) B e size (.slice (some ⟨w.heap.size, 0, none⟩) 0 0) 0 f := by
  have := World.ownsRow_lit (size := size) (e := e) (base := B) w #[] 0 hB (Nat.zero_le _) (by simp)
  simpa [Ow] using this
theorem Ow.new' {g : Nat} (hg : w.heap.size = g) : Ow (w.alloc (.cells #[] e)) g e size (.slice (some ⟨g, 0, none⟩) 0 0) 0 f := by subst hg; exact Ow.new (Nat.le_refl _)
theorem Ow.as_ (h : Ow w B e size v n f) (hf : ∀ j, j < n * size → f j = f2 j) : Ow w B e size v n f2 := by
  unfold Ow at h ⊢
  rw [← List.map_congr_left (f := f) (g := f2) (fun j hj => hf j (by simpa using hj))]
  exact h
theorem Ow.drewN (h : Ow w B e size v n f) (k : Nat) : Ow (w.drewN k) B e size v n f := h
theorem Ow.drew (h : Ow w B e size v n f) : Ow w.drew B e size v n f := h
theorem Ow.form_ (h : Ow w B e size v n f) : ∃ A c, v = .slice A n c ∧ n ≤ c ∧ c ≤ maxLen ∧ ∀ ad, A = some ad → ∃ g, ad = ⟨g, 0, none⟩ ∧ B ≤ g ∧ g < w.heap.size := by
  rcases h.2 with ⟨rfl, rfl⟩ | ⟨g, cap, cur, rfl, hB, hh, hnc, hcm, _⟩
  · exact ⟨none, 0, rfl, Nat.le_refl _, Nat.zero_le _, fun _ h => by cases h⟩
  · refine ⟨_, cap, rfl, hnc, hcm, fun ad e => ?_⟩
    injection e with e
    refine ⟨g, e.symm, hB, ?_⟩
    rcases Nat.lt_or_ge g w.heap.size with hlt | hge
    · exact hlt
    · rw [Array.getElem?_eq_none hge] at hh; cases hh
theorem Ow.sl {A : Option Addr} {c : Nat} (h : Ow w B e size (.slice A n c) n f) : Sl w A (n * size) f := by
  intro hn
  rcases h.2 with ⟨_, h0⟩ | ⟨g, cap, cur, hv, _, hh, hnc, _⟩
  · subst h0; omega
  · injection hv with hA _ hcap
    subst hA
    subst hcap
    have hg : g < w.heap.size := by
      rcases Nat.lt_or_ge g w.heap.size with hlt | hge
      · exact hlt
      · rw [Array.getElem?_eq_none hge] at hh; cases hh
    refine ⟨g, 0, rfl, hg, fun j hj => ?_⟩
    rw [Nat.zero_add, World.ownsRow.cellAt h j (by omega)]
    simp [hj]
theorem Ow.sl1 {A : Option Addr} {c : Nat} (h : Ow w B e 1 (.slice A n c) n f) : Sl w A n f := by
  have := h.sl
  rwa [Nat.mul_one] at this
theorem Ow.below_ (h : Ow w B e size v n f) (hg : w.grownBy w' v.ownBlock) (hB : B ≤ w.heap.size) : Below B w w' :=
  (Below.refl B w).grown hg hB (fun k hk => (World.ownsRow.lt h k hk).1)
/-- What is written below B, or in new blocks, does not touch it. -/
theorem Ow.keep {D : Nat} (h : Ow w B e size v n f) (hb : Below D w w') (hD : w.heap.size ≤ D) : Ow w' B e size v n f := by
  refine World.ownsRow.kept (row := none) h ⟨hb.os, hb.tape, hb.output, hb.size, fun i hi _ => hb.block i (by omega)⟩ ?_
  cases hv : v.ownBlock with
  | none => exact .inl rfl
  | some k => exact .inr (by simp)
theorem Ow.alloc (h : Ow w B e size v n f) (o : Obj) : Ow (w.alloc o) B e size v n f := h.keep ((Below.refl w.heap.size w).alloc (Nat.le_refl _) o) (Nat.le_refl _)
theorem Ow.block_ {A : Option Addr} {c : Nat} (h : Ow w B e size (.slice A n c) n f) (hn : 0 < n) : ∃ g : Nat, A = some ⟨g, 0, none⟩ ∧ B ≤ g ∧ g < w.heap.size ∧ (∀ j, j < n * size → w.cell? ⟨g, j, none⟩ = some (f j)) ∧ ∀ j, w.frozen? ⟨g, j, none⟩ = false := by
  obtain ⟨A', c', hv, _, _, hf⟩ := h.form_
  injection hv with h1 _ _
  subst h1
  rcases h.2 with ⟨_, h0⟩ | ⟨g, cap, cur, hv, hB, hh, hnc, _⟩
  · omega
  · injection hv with hA _ hcap
    subst hA
    subst hcap
    obtain ⟨g', e', hB', hlt⟩ := hf _ rfl
    injection e' with e'
    subst e'
    exact ⟨g, rfl, hB, hlt, fun j hj => by rw [World.ownsRow.cellAt h j hj]; simp [hj], fun j => World.ownsRow.frozenAt h j⟩
def put1 (f : Nat → Value) (i : Nat) (u : Value) : Nat → Value := fun j => if j = i then u else f j
theorem Ow.store_ {g c : Nat} (h : Ow w B e size (.slice (some ⟨g, 0, none⟩) n c) n f) (i : Nat) (u : Value) : Ow (w.setCell ⟨g, i, none⟩ u) B e size (.slice (some ⟨g, 0, none⟩) n c) n (put1 f i u) := by
  have h1 := (World.ownsRow.stored h i u).1
  have h2 : ((List.range (n * size)).map f).set i u = (List.range (n * size)).map (put1 f i u) := by
    apply List.ext_getElem?
    intro j
    rw [List.getElem?_set]
    by_cases hj : j < n * size
    · by_cases e : i = j
      · subst e
        simp [hj, put1]
      · simp [hj, e, put1, Ne.symm e]
    · by_cases e : i = j
      · subst e; simp [hj]
      · simp [hj, e]
  rw [h2] at h1
  exact h1
theorem Ow.size_le {A : Option Addr} {c : Nat} (h : Ow w B e size (.slice A n c) n f) (ad : Addr) (ha : A = some ad) : ad.block < w.heap.size := by
  obtain ⟨A', c', hv, _, _, hf⟩ := h.form_
  injection hv with h1 _ _
  subst h1
  obtain ⟨g, rfl, _, hg⟩ := hf ad ha
  exact hg
end

theorem range_two (n m : Nat) (f f2 : Nat → Value) : (List.range n).map f ++ (List.range m).map f2 = (List.range (n + m)).map (two n f f2) := by
  rw [List.range_add, List.map_append, List.map_map]
  congr 1
  · exact List.map_congr_left fun j hj => by simp only [two]; rw [if_pos (by simpa using hj)]
  · refine List.map_congr_left fun j hj => ?_
    simp only [two, Function.comp]
    rw [if_neg (by omega), Nat.add_sub_cancel_left]

/-- A cut from place i on: its address is named, so that the walk does not part over it. -/
theorem cut_from {T : TypeId} (ht : Tryz.prog.underlying T = some (.slice (Tryz.prog.elem T))) {size : Nat} (hsz : ∀ W : World, (sizeOf (Tryz.prog.elem T)).run Tryz.prog W = .ok size W) (A : Option Addr) (n c i : Nat) (hi : i ≤ n) (hn : n ≤ c) (z : Int) (hz : z = i) :
    ∃ A' : Option Addr, (∀ W : World, (Instr.slice T (.slice A n c) (some (.int .i64 z)) none none).run Tryz.prog W = .ok (.slice A' (n - i) (c - i)) W) ∧
      ∀ (w : World) (f : Nat → Value), Sl w A (n * size) f → Sl w A' ((n - i) * size) (fun j => f (i * size + j)) := by
  subst hz
  refine ⟨if c = i then A else A.map (·.add (i * size)), fun W => ?_, fun w f h => ?_⟩
  · rw [run_slice_l W T A n c ht .i64 (i : Int) (by omega) (by omega), hsz W]
    simp [Result.andThen, sliced]
  · intro h0
    have hpos : 0 < n - i := by
      rcases Nat.eq_zero_or_pos (n - i) with e | e
      · rw [e] at h0; simp at h0
      · exact e
    have hs : 0 < size := by
      rcases Nat.eq_zero_or_pos size with e | e
      · rw [e] at h0; simp at h0
      · exact e
    obtain ⟨b, off, rfl, hlt, hcell⟩ := h (Nat.mul_pos (by omega) hs)
    rw [if_neg (by omega)]
    refine ⟨b, off + i * size, by simp [Addr.add], hlt, fun j hj => ?_⟩
    rw [Nat.add_assoc]
    refine hcell _ ?_
    rw [Nat.sub_mul] at hj
    omega
/-- A cut from place i on, up to place k. -/
theorem cut_mid {T : TypeId} (ht : Tryz.prog.underlying T = some (.slice (Tryz.prog.elem T))) {size : Nat} (hsz : ∀ W : World, (sizeOf (Tryz.prog.elem T)).run Tryz.prog W = .ok size W) (A : Option Addr) (n c i k : Nat) (hi : i ≤ k) (hk : k ≤ n) (hn : n ≤ c) (z y : Int) (hz : z = i) (hy : y = k) :
    ∃ A' : Option Addr, (∀ W : World, (Instr.slice T (.slice A n c) (some (.int .i64 z)) (some (.int .i64 y)) none).run Tryz.prog W = .ok (.slice A' (k - i) (c - i)) W) ∧
      ∀ (w : World) (f : Nat → Value), Sl w A (n * size) f → Sl w A' ((k - i) * size) (fun j => f (i * size + j)) := by
  subst hz
  subst hy
  refine ⟨if c = i then A else A.map (·.add (i * size)), fun W => ?_, fun w f h => ?_⟩
  · rw [run_slice_lh W T A n c ht .i64 .i64 (i : Int) (k : Int) (by omega) (by omega) (by omega), hsz W]
    simp [Result.andThen, sliced]
  · intro h0
    have hpos : 0 < k - i := by
      rcases Nat.eq_zero_or_pos (k - i) with e | e
      · rw [e] at h0; simp at h0
      · exact e
    have hs : 0 < size := by
      rcases Nat.eq_zero_or_pos size with e | e
      · rw [e] at h0; simp at h0
      · exact e
    obtain ⟨b, off, rfl, hlt, hcell⟩ := h (Nat.mul_pos (by omega) hs)
    rw [if_neg (by omega)]
    refine ⟨b, off + i * size, by simp [Addr.add], hlt, fun j hj => ?_⟩
    rw [Nat.add_assoc]
    refine hcell _ ?_
    rw [Nat.sub_mul] at hj
    have : k * size ≤ n * size := Nat.mul_le_mul_right _ hk
    omega

section
variable {P : Program} (w : World)

theorem run_app_nil (base : Nat) (t ty e : TypeId) (i : TypeInfo) (size : Nat) (ht : P.underlying t = some (.slice e)) (hi : P.info? e = some i)
    (v : Value) (n : Nat) (xs : List Value) (hown : w.ownsRow base e size v n xs) (c : Nat) : (Builtin.append_ #[t, t] ty #[v, .slice none 0 c]).run P w = .ok v w := by
  rcases hown.2 with ⟨rfl, rfl⟩ | ⟨g, cap, cur, rfl, _, _, hnc, _⟩
  · simp [Builtin.append_, run_underlying ht, sizeOf, typeInfo, hi, Builtin.lenOf, Builtin.firstCells]
  · simp [Builtin.append_, run_underlying ht, sizeOf, typeInfo, hi, Builtin.lenOf, Builtin.firstCells, hnc, storeCells]

theorem run_app (base : Nat) (t ty e : TypeId) (i : TypeInfo) (z : Value) (size bytes : Nat) (ht : P.underlying t = some (.slice e)) (hi : P.info? e = some i) (hz : i.zero = some z)
    (hsize : i.size = size) (hby : i.bytes = bytes) (hzs : z.cells.size = size) (hsz : 0 < size)
    (v : Value) (n : Nat) (f : Nat → Value) (hown : Ow w base e size v n f)
    (A : Option Addr) (m c : Nat) (f2 : Nat → Value) (hr : Sl w A (m * size) f2) (h1 : ∀ j, j < m * size → (f2 j).oneCell' = true)
    (h63 : n + m ≤ maxLen) (hbytes : (n + m) * bytes ≤ 140737488355328) (hbase : base ≤ w.heap.size) :
    ∃ v' w', (Builtin.append_ #[t, t] ty #[v, .slice A m c]).run P w = .ok v' w' ∧ Ow w' base e size v' (n + m) (two (n * size) f f2) ∧ w.grownBy w' v.ownBlock ∧
      (v'.ownBlock = v.ownBlock ∨ v'.ownBlock = some w.heap.size) := by
  unfold Ow
  rw [Nat.add_mul, ← range_two]
  rcases A with _ | ad
  · have hm : m = 0 := by
      rcases Nat.eq_zero_or_pos m with h0 | h0
      · exact h0
      · obtain ⟨_, _, h, _⟩ := hr (Nat.mul_pos h0 hsz)
        cases h
    subst hm
    exact ⟨v, w, run_app_nil w base t ty e i size ht hi v n _ hown c, by simpa [Ow] using hown, World.grownBy.refl w _, .inl rfl⟩
  · have hcells : ∀ j u, ((List.range (m * size)).map f2)[j]? = some u → w.cell? (ad.add j) = some u := by
      intro j u hu
      rcases Nat.lt_or_ge j (m * size) with hj | hj
      · obtain ⟨b, off, h, _, hc⟩ := hr (by omega)
        injection h with h
        subst h
        have h2 := hc j hj
        simp [hj] at hu
        subst hu
        rw [← h2, add_plain]
      · simp [Nat.not_lt.2 hj] at hu
    obtain ⟨v', w', hrun, h2, h3, _, h5⟩ := run_append_own_at (P := P) w base t ty e i z size bytes ht hi hz hsize hby hzs hsz v n _ hown ad m c ((List.range (m * size)).map f2) (by simp) hcells
      (fun u hu => by
        obtain ⟨j, hj, rfl⟩ := List.mem_map.1 hu
        exact h1 j (by simpa using hj)) h63 hbytes hbase
    exact ⟨v', w', hrun, h2, h3, h5⟩

theorem wpo_app {o : Oper} {a : Act} {K : Act → World → Prop} {Q : Exit → Act → World → Prop} (s x : Operand) (t : TypeId)
    (ho : o.op = .call { callee := .builtin .append, args := #[s, x], argTypes := #[t, t] })
    (base : Nat) (e : TypeId) (i : TypeInfo) (z : Value) (size bytes : Nat) (ht : P.underlying t = some (.slice e)) (hi : P.info? e = some i) (hz : i.zero = some z)
    (hsize : i.size = size) (hby : i.bytes = bytes) (hzs : z.cells.size = size) (hsz : 0 < size)
    (v : Value) (n : Nat) (f : Nat → Value) (hs : a.eval s = v) (hown : Ow w base e size v n f)
    (A : Option Addr) (m c : Nat) (f2 : Nat → Value) (hx : a.eval x = .slice A m c) (hr : Sl w A (m * size) f2) (h1 : ∀ j, j < m * size → (f2 j).oneCell' = true)
    (h63 : n + m ≤ maxLen) (hbytes : (n + m) * bytes ≤ 140737488355328) (hbase : base ≤ w.heap.size)
    (h : ∀ A' c' w', Ow w' base e size (.slice A' (n + m) c') (n + m) (two (n * size) f f2) → n + m ≤ c' → c' ≤ maxLen → Below base w w' → w.grownBy w' v.ownBlock → (∀ g, (Value.slice A' (n + m) c').ownBlock = some g → v.ownBlock = some g ∨ g = w.heap.size) →
      K (a.put o.dst (.slice A' (n + m) c')) w') : o.wp P a w K Q := by
  obtain ⟨v', w', hrun, h2, h3, h4⟩ := run_app (P := P) w base t o.type e i z size bytes ht hi hz hsize hby hzs hsz v n f hown A m c f2 hr h1 h63 hbytes hbase
  obtain ⟨A', c', rfl, hc1, hc2, _⟩ := h2.form_
  unfold Oper.wp execOp
  simp only [ho, resolve, invoke, builtin, Sem.run_bind, Sem.run_pure, Result.andThen_ok, List.map_toArray, List.map_cons, List.map_nil, hs, hx, hrun]
  refine h A' c' w' h2 hc1 hc2 (hown.below_ h3 hbase) h3 (fun g hg => ?_)
  rcases h4 with h4 | h4
  · exact .inl (h4 ▸ hg)
  · rw [h4] at hg
    injection hg with hg
    exact .inr hg.symm

theorem wp_app {ops : Array Oper} {rest : List Oper} {o : Oper} {a : Act} {Q : Exit → Act → World → Prop} (hgd : o.guard = none) (s x : Operand) (t : TypeId)
    (ho : o.op = .call { callee := .builtin .append, args := #[s, x], argTypes := #[t, t] })
    (base : Nat) (e : TypeId) (i : TypeInfo) (z : Value) (size bytes : Nat) (ht : P.underlying t = some (.slice e)) (hi : P.info? e = some i) (hz : i.zero = some z)
    (hsize : i.size = size) (hby : i.bytes = bytes) (hzs : z.cells.size = size) (hsz : 0 < size)
    (v : Value) (n : Nat) (f : Nat → Value) (hs : a.eval s = v) (hown : Ow w base e size v n f)
    (A : Option Addr) (m c : Nat) (f2 : Nat → Value) (hx : a.eval x = .slice A m c) (hr : Sl w A (m * size) f2) (h1 : ∀ j, j < m * size → (f2 j).oneCell' = true)
    (h63 : n + m ≤ maxLen) (hbytes : (n + m) * bytes ≤ 140737488355328) (hbase : base ≤ w.heap.size)
    (h : ∀ A' c' w', Ow w' base e size (.slice A' (n + m) c') (n + m) (two (n * size) f f2) → n + m ≤ c' → c' ≤ maxLen → Below base w w' → w.grownBy w' v.ownBlock → (∀ g, (Value.slice A' (n + m) c').ownBlock = some g → v.ownBlock = some g ∨ g = w.heap.size) →
      wpList P ops Q rest (a.put o.dst (.slice A' (n + m) c')) w') : wpList P ops Q (o :: rest) a w :=
  wpList_plain hgd fun _ hK => wpo_app w s x t ho base e i z size bytes ht hi hz hsize hby hzs hsz v n f hs hown A m c f2 hx hr h1 h63 hbytes hbase fun A' c' w' h2 h3 h4 h5 h6 h7 => hK _ _ (h A' c' w' h2 h3 h4 h5 h6 h7)
end

section
variable {H : Type} {enc : TypeId × Value → H}

theorem trodAll_below {W W' : World} (hb : Below W.heap.size W W') : ∀ {ts : List TypeId} {vs : List Value} {ds : List (DataW H)} {ps : List MemPlace}, (∀ t ∈ ts, Tryz.prog.readableRec t = true ∧ t < Tryz.prog.types.size) →
    DataW.TrodAll enc Tryz.prog W 0 (fun _ => true) true ts vs ds ps → (∀ x ∈ ps, x.block < W.heap.size) → DataW.TrodAll enc Tryz.prog W' 0 (fun b => decide (b < W.heap.size)) true ts vs ds ps
  | [], [], [], _, _, h, _ => h
  | t :: ts, v :: vs, d :: ds, _, hT, ⟨p, q, h1, h2, e⟩, hs => by
    subst e
    exact ⟨p, q, Below.trod laid_ (hT t (List.mem_cons.2 (Or.inl rfl))).1 (hT t (List.mem_cons.2 (Or.inl rfl))).2 h1 hb (fun x hx => hs x (List.mem_append_left _ hx)),
      trodAll_below hb (fun t ht => hT t (List.mem_cons.2 (Or.inr ht))) h2 (fun x hx => hs x (List.mem_append_right _ hx)), rfl⟩

theorem trod_len {W : World} {b : Nat} {sp : Nat → Bool} {hd : Bool} : ∀ {ts : List TypeId} {vs : List Value} {ds : List (DataW H)} {ps : List MemPlace}, DataW.TrodAll enc Tryz.prog W b sp hd ts vs ds ps → ds.length = ts.length
  | [], [], [], _, _ => rfl
  | _ :: ts, _ :: vs, _ :: ds, _, ⟨_, _, _, h2, _⟩ => by simp [trod_len h2]

set_option maxRecDepth 100000 in
/-- A slice of whole numbers of whatever kind that came in. -/
theorem open_row {W : World} {base : Nat} {t e : TypeId} {k : IntKind} {v : Value} {d : DataW H} {ps : List MemPlace} (ht : Tryz.prog.underlying t = some (.slice e)) (he : Tryz.prog.underlying e = some (.int k)) (hc : Tryz.prog.cellsOf e = 1)
    (hval : Value.okWide Tryz.prog W .any base t v) (h : DataW.Trod enc Tryz.prog W 0 (fun _ => true) true t v d ps) :
    ∃ (A : Option Addr) (n c : Nat) (g : Nat → Int), v = .slice A n c ∧ n ≤ c ∧ c ≤ maxLen ∧ Sl W A n (fun j => .int k (g j)) ∧ (∀ j, (Lit.int k (g j)).wf = true) ∧ (∀ ad, A = some ad → 0 < n → ad.block < W.heap.size) ∧
      (d = .nil ∧ c = 0 ∨ ∃ xs ys, d = .slice xs ys ∧ xs.length + ys.length = c) := by
  have wf0 : (Lit.int k 0).wf = true := by cases k <;> rfl
  obtain ⟨A, n, c, rfl⟩ := okWide_slice ht hval
  obtain ⟨fuel, hf⟩ := h
  rcases open_ints ht he hc hf with ⟨hcs, hx⟩ | ⟨a, len', cap', zs, hcs, _, hl, hm, hz, hx, hcell, hwz⟩
  · simp [Value.cells] at hcs
    obtain ⟨rfl, rfl, rfl⟩ := hcs
    simp only [Prod.mk.injEq] at hx
    exact ⟨none, 0, 0, fun _ => 0, rfl, Nat.le_refl _, Nat.zero_le _, Sl.nil _ _ _, (fun _ => wf0), (fun _ h _ => by cases h), .inl ⟨hx.1, rfl⟩⟩
  · simp [Value.cells] at hcs
    obtain ⟨rfl, rfl, rfl⟩ := hcs
    simp only [if_true] at hz
    simp only [Prod.mk.injEq] at hx
    have hlt : 0 < n → ∃ b off : Nat, a = ⟨b, off, none⟩ ∧ b < W.heap.size := by
      intro h0
      obtain ⟨b, off, spot⟩ := a
      have h1 := hcell 0 (by omega)
      have hs : spot = none := by simpa [Addr.add] using World.cell?_spot h1
      subst hs
      refine ⟨b, off, rfl, ?_⟩
      rcases Nat.lt_or_ge b W.heap.size with hlt | hge
      · exact hlt
      · simp [World.cell?, Addr.add, Array.getElem?_eq_none hge] at h1
    refine ⟨some a, n, c, fun j => zs.getD j 0, rfl, hl, hm, ?_, fun j => ?_, fun ad e h0 => ?_, .inr ⟨_, _, hx.1, by simp [lits]; omega⟩⟩
    · intro h0
      obtain ⟨b, off, rfl, hb⟩ := hlt h0
      refine ⟨b, off, rfl, hb, fun j hj => ?_⟩
      rw [← add_plain]
      exact hcell j (by omega)
    · rcases Nat.lt_or_ge j zs.length with hj | hj
      · refine hwz _ ?_
        simp only [List.getD_eq_getElem?_getD, List.getElem?_eq_getElem hj, Option.getD_some]
        exact List.getElem_mem hj
      · simp only [List.getD_eq_getElem?_getD, List.getElem?_eq_none hj, Option.getD_none]
        exact wf0
    · obtain ⟨b, off, rfl, hb⟩ := hlt h0
      have e := Option.some.inj e
      subst e
      exact hb

set_option maxRecDepth 100000 in
/-- THE LAST STEP OF A LAW: it answers true and leaves all that was as it was. -/
theorem law_step {os : Os} (started : os.Started) {K : FuncId} {fn : Func} {s : ChangeSpec} {tb : TypeId} (noInit : Tryz.prog.inits.idxOf? K = none) (hfn : Tryz.prog.funcs[K]? = some fn)
    (witness : ∃ (w : World) (tape : Tape) (i : Input), w.os = os ∧ (w.forCall tape i).Shaped Tryz.prog ∧ i.vars = [] ∧ Input.okWide Tryz.prog (w.forCall tape i) .any w.heap.size K i ∧
      s.pre6 enc Tryz.prog fn [] false (w.forCall tape i).memory i.args ∧ ({} : Assume).holds Tryz.prog (lone (Frame.enter Tryz.prog K i.args .normal) [] (w.forCall tape i)))
    (hv : s.vars = []) (hrd : ∀ t ∈ fn.params.toList, Tryz.prog.readableRec t = true ∧ t < Tryz.prog.types.size) (hres : fn.resultTypes = #[tb]) (htb : Tryz.prog.underlying tb = some .bool)
    (hs : ∀ ds : List (DataW H), ds.length = fn.params.toList.length → s.fn H ds = { results := [.lit (.bool true)], args := ds })
    (walk : ∀ (W : World) (base : Nat) (args : Array Value) (ds : List (DataW H)) (ps : List MemPlace), (∀ (j : Nat) t v, fn.params[j]? = some t → args[j]? = some v → Value.okWide Tryz.prog W .any base t v) →
      DataW.TrodAll enc Tryz.prog W 0 (fun _ => true) true fn.params.toList args.toList ds ps → (DataW.weightsEach Tryz.prog fn.params.toList ds).all (· ≤ reachBytes) = true →
      Calls Tryz.prog K args W fun e W' => e = .returned (.bool true) ∧ Below W.heap.size W W') :
    ReturnsInHanded {} Tryz.checked os K .any (s.pre6 enc Tryz.prog fn [] false) (s.post enc Tryz.prog fn false true false false) := by
  refine returnsInHanded_of_change_sized (C := Tryz.checked) own_ started noInit hfn witness ?_
  intro W base args ds gs before hval hW _ hsz _
  have hlt : ∀ x ∈ before, x.block < W.heap.size := fun x hx => by simpa using hW.lt x hx
  have hW' := hW
  obtain ⟨p, q, hA, hV, rfl, _, _⟩ := hW
  rw [hv] at hV
  obtain ⟨rfl, rfl⟩ := trodVars_none hV
  have hsz' : (DataW.weightsEach Tryz.prog fn.params.toList ds).all (· ≤ reachBytes) = true := by
    have h1 : DataSpec.varTypes Tryz.checked.prog s.plain = [] := by simp [ChangeSpec.plain, DataSpec.varTypes, hv]
    rw [h1, List.append_nil, List.append_nil] at hsz
    exact hsz
  refine (walk W base args ds p hval hA hsz').mono fun e W' ⟨he, hb⟩ => ?_
  subst he
  have hlen := trod_len hA
  have hfn' := hs ds hlen
  refine ⟨_, rfl, ds, [], _, [], p, [], hW', ?_, ?_, ?_, hb.frame _, fun h => by cases h⟩
  · rw [hres, List.append_nil, hfn']
    exact trodAll_cons_mk (shut_bool htb true) trodAll_mk0
  · rw [List.append_nil, hfn']
    exact trodAll_below hb hrd hA (fun x hx => hlt x (List.mem_append_left _ hx))
  · rw [hv, List.append_nil, hfn']
    rfl
end

end Go.Proofs.YteefhiniamajkaaGreat
namespace Go.Proofs.YteefhiniamajkaaGreat
set_option linter.unusedVariables false
open Go.RowKit Go.ChangeShapes Go.WideShapes Go.ChangeAt

/-- A number brought from 0 to n - 1. -/
def wi (a n : Int) : Int := a % n
theorem wi_bd (a n : Int) (h : 0 < n) : 0 ≤ wi a n ∧ wi a n < n := ⟨Int.emod_nonneg _ (by omega), Int.emod_lt_of_pos _ h⟩
theorem tmod_neg (a n : Int) (h : 0 < n) (ht : a.tmod n < 0) : a.tmod n + n = wi a n := by
  unfold wi
  rw [Int.tmod_eq_emod] at ht ⊢
  have h1 := Int.emod_nonneg a (show n ≠ 0 by omega)
  split at ht <;> rename_i hc
  · omega
  · rw [if_neg hc]; omega
theorem tmod_pos (a n : Int) (h : 0 < n) (ht : 0 ≤ a.tmod n) : a.tmod n = wi a n := by
  unfold wi
  rw [Int.tmod_eq_emod] at ht ⊢
  have h1 := Int.emod_lt_of_pos a h
  split at ht <;> rename_i hc
  · rw [if_pos hc]; omega
  · omega
theorem tmod_bd (a n : Int) (h : 0 < n) : -n < a.tmod n ∧ a.tmod n < n := by
  have h1 := Int.emod_lt_of_pos a h
  have h2 := Int.emod_nonneg a (show n ≠ 0 by omega)
  rw [Int.tmod_eq_emod]
  split
  · omega
  · rename_i hc
    have : ¬ n ∣ a := fun hd => hc (.inr hd)
    have h3 : a % n ≠ 0 := fun he => this (Int.dvd_of_emod_eq_zero he)
    omega

theorem within_any (a n : Int) (w : World) (hb : 0 < n) (hb' : n ≤ 4611686018427387904) :
    Calls Tryz.prog 6 #[.int .i64 a, .int .i64 n] w fun e w' => e = .returned (.int .i64 (wi a n)) ∧ w = w' := by
  have ht := tmod_bd a n hb
  have hn := hid (tmod_neg a n hb)
  have hp := hid (tmod_pos a n hb)
  obtain ⟨h1, h2⟩ := ht
  go_enter Tryz.func6, Tryz.ntmps6
  go_wp2
  · go_ret
    exact ⟨ret_i64 (hn.out (by assumption)), rfl⟩
  · go_ret
    exact ⟨ret_i64 (hp.out (by assumption)), rfl⟩
theorem within6_any (a n : Int) (w : World) (hb : 0 < n) (hb' : n ≤ 4611686018427387904) :
    Calls Tryz.prog 30 #[.int .i64 a, .int .i64 n] w fun e w' => e = .returned (.int .i64 (wi a n)) ∧ w = w' := by
  have ht := tmod_bd a n hb
  have hn := hid (tmod_neg a n hb)
  have hp := hid (tmod_pos a n hb)
  obtain ⟨h1, h2⟩ := ht
  go_enter Tryz.func30, Tryz.ntmps30
  go_wp2
  · go_ret
    exact ⟨ret_i64 (hn.out (by assumption)), rfl⟩
  · go_ret
    exact ⟨ret_i64 (hp.out (by assumption)), rfl⟩

theorem lit_b (l : List Int) (h : ∀ x ∈ l, 0 ≤ x ∧ x ≤ 255) : IsB (fun j => l.getD j 0) := by
  intro j
  rcases Nat.lt_or_ge j l.length with hj | hj
  · simp only [List.getD_eq_getElem?_getD, List.getElem?_eq_getElem hj, Option.getD_some]
    exact h _ (List.getElem_mem hj)
  · simp only [List.getD_eq_getElem?_getD, List.getElem?_eq_none hj, Option.getD_none]
    omega

end Go.Proofs.YteefhiniamajkaaGreat
namespace Go.Proofs.YteefhiniamajkaaGreat
set_option linter.unusedVariables false
open Go.RowKit Go.ChangeShapes Go.WideShapes Go.ChangeAt

theorem at_drop {α : Type} {L rest : List α} {i : Nat} {o : α} (h : L.drop i = o :: rest) : L.toArray[i]? = some o := by
  have h1 : (L.drop i)[0]? = some o := by rw [h]; rfl
  rw [List.getElem?_drop] at h1
  simpa using h1
section
variable {P : Program} {ops : Array Oper} {Q : Exit → Act → World → Prop} {md : Region.Mode} {S S' : World → Prop}
theorem wpAnyH_mono (hS : ∀ w, S' w → S w) : ∀ (fuel : Nat) (listed : Array Bool) (a : Act) (w : World), wpAnyH P md ops Q S' fuel listed a w → wpAnyH P md ops Q S fuel listed a w
  | 0, _, _, _, h => h
  | fuel + 1, _, _, _, h => ⟨h.1, fun i hi => wpOp_mono (fun a' w' h' => ⟨hS w' h'.1, wpAnyH_mono hS fuel _ a' w' h'.2⟩) (h.2 i hi)⟩
theorem more {fuel : Nat} {listed : Array Bool} {a : Act} {w : World} (S' : World → Prop) (hS : ∀ w, S' w → S w) (hw : S' w) (h : S' w → wpAnyH P md ops Q S' fuel listed a w) : wpAnyH P md ops Q S fuel listed a w :=
  wpAnyH_mono hS _ _ _ _ (h hw)
/-- An operation that is wanted and only reads is taken first. -/
theorem tk (i : Nat) {L rest : List Oper} {oi : Oper} {v : Value} {fuel : Nat} {listed : Array Bool} {a : Act} {w : World} (hi : L.drop i = oi :: rest)
    (hs : Region.noSelect L.toArray = true) (hf : Region.free md L.toArray listed i = true) (hr : (Region.ready md L.toArray listed).contains i = true)
    (hQ : ∀ c a w, Q (.panic c) (a.put oi.dst v) w → Q (.panic c) a w) (hw : Region.wanted oi (yielded L.toArray a.tmps) = true) (hy : ∀ w, S w → (execOp a.eval oi).run P w = .ok (.value v) w) (hS : S w)
    (h : wpAnyH P md L.toArray Q S fuel (listed.setIfInBounds i true) (a.put oi.dst v) w) : wpAnyH P md L.toArray Q S (fuel + 1) listed a w :=
  wpAnyH_take (at_drop hi) hs hf hr hQ (Or.inl ⟨hw, hy⟩) hS h
/-- One that is not wanted is passed over. -/
theorem tu (i : Nat) {L rest : List Oper} {oi : Oper} {fuel : Nat} {listed : Array Bool} {a : Act} {w : World} (hi : L.drop i = oi :: rest)
    (hs : Region.noSelect L.toArray = true) (hf : Region.free md L.toArray listed i = true) (hr : (Region.ready md L.toArray listed).contains i = true)
    (hQ : ∀ c a w, Q (.panic c) (a.put oi.dst undef) w → Q (.panic c) a w) (hw : Region.wanted oi (yielded L.toArray a.tmps) = false) (hS : S w)
    (h : wpAnyH P md L.toArray Q S fuel (listed.setIfInBounds i true) (a.put oi.dst undef) w) : wpAnyH P md L.toArray Q S (fuel + 1) listed a w :=
  wpAnyH_take (at_drop hi) hs hf hr hQ (Or.inr ⟨hw, rfl⟩) hS h
/-- One alone may come up. -/
theorem only (i : Nat) {L rest : List Oper} {o : Oper} {fuel : Nat} {listed : Array Bool} {a : Act} {w : World} (ho : L.drop i = o :: rest) (hr : Region.ready md L.toArray listed = [i])
    (hw : Region.wanted o (yielded L.toArray a.tmps) = true)
    (h : ∀ K' : Act → World → Prop, Shut (∀ a w, S w → (S w → wpAnyH P md L.toArray Q S fuel (listed.setIfInBounds i true) a w) → K' a w) → Oper.wp P o a w K' Q) : wpAnyH P md L.toArray Q S (fuel + 1) listed a w :=
  wpAnyH_ready hr (by simp) (AllReadyH.cons (at_drop ho) (fun K hK => by rw [if_pos hw]; exact h K hK) AllReadyH.nil)
end
section
variable {P : Program} {Q : Exit → Act → World → Prop} {md : Region.Mode} {S : World → Prop}
theorem tkq (i : Nat) {L rest : List Oper} {oi : Oper} {v : Value} {fuel : Nat} {listed listed' : Array Bool} {a a' : Act} {w : World} (hS : S w) (h : wpAnyH P md L.toArray Q S fuel listed' a' w)
    (hi : L.drop i = oi :: rest := by rfl) (hs : Region.noSelect L.toArray = true := by kernel_rfl) (hf : Region.free md L.toArray listed i = true := by kernel_rfl) (hr : (Region.ready md L.toArray listed).contains i = true := by kernel_rfl)
    (hQ : ∀ c a w, Q (.panic c) (a.put oi.dst v) w → Q (.panic c) a w := by exact fun _ _ _ h => h) (hw : Region.wanted oi (yielded L.toArray a.tmps) = true := by rfl)
    (hy : ∀ w, S w → (execOp a.eval oi).run P w = .ok (.value v) w := by intro w hSw; (try dsimp only at hSw); go_simp; (try with_reducible rfl))
    (e1 : listed.setIfInBounds i true = listed' := by (try simp only [List.setIfInBounds_toArray, List.set_cons_zero, List.set_cons_succ]); (try with_reducible rfl))
    (e2 : a.put oi.dst v = a' := by (try simp only [Act.put, List.setIfInBounds_toArray, List.set_cons_zero, List.set_cons_succ]); (try with_reducible rfl)) : wpAnyH P md L.toArray Q S (fuel + 1) listed a w := by
  subst e1 e2
  exact tk i hi hs hf hr hQ hw hy hS h
theorem tuq (i : Nat) {L rest : List Oper} {oi : Oper} {fuel : Nat} {listed listed' : Array Bool} {a a' : Act} {w : World} (hS : S w) (h : wpAnyH P md L.toArray Q S fuel listed' a' w)
    (hi : L.drop i = oi :: rest := by rfl) (hs : Region.noSelect L.toArray = true := by kernel_rfl) (hf : Region.free md L.toArray listed i = true := by kernel_rfl) (hr : (Region.ready md L.toArray listed).contains i = true := by kernel_rfl)
    (hQ : ∀ c a w, Q (.panic c) (a.put oi.dst undef) w → Q (.panic c) a w := by exact fun _ _ _ h => h) (hw : Region.wanted oi (yielded L.toArray a.tmps) = false := by rfl)
    (e1 : listed.setIfInBounds i true = listed' := by (try simp only [List.setIfInBounds_toArray, List.set_cons_zero, List.set_cons_succ]); (try with_reducible rfl))
    (e2 : a.put oi.dst undef = a' := by (try simp only [Act.put, List.setIfInBounds_toArray, List.set_cons_zero, List.set_cons_succ]); (try with_reducible rfl)) : wpAnyH P md L.toArray Q S (fuel + 1) listed a w := by
  subst e1 e2
  exact tu i hi hs hf hr hQ hw hS h
end
end Go.Proofs.YteefhiniamajkaaGreat
namespace Go.Proofs.YteefhiniamajkaaGreat
set_option linter.unusedVariables false
open Go.RowKit Go.Conc

/-- As Code.wp, of frames of plain calls alone. -/
def wpN (P : Program) (c : Code) (Q : Exit → Act → World → Prop) (a : Act) (w : World) : Prop :=
  ∀ (b : Frame) (k : List Item) (cs : List Frame), b.kind = .normal → ∃ e a' w', Q e a' w' ∧ Arrives P (lone (b.at a (.code c :: k)) cs w) b k cs e a' w'
section
variable {P : Program} {Q : Exit → Act → World → Prop} {a : Act} {w : World}
theorem wpN_of {c : Code} (h : c.wp P Q a w) : wpN P c Q a w := fun b k cs _ => h b k cs
theorem wpN_seq {x y : Code} (h : wpN P x (Exit.then (wpN P y Q) Q) a w) : wpN P (.seq x y) Q a w := by
  intro b k cs hb
  obtain ⟨e, a₁, w₁, hq, harr⟩ := h b (.code y :: k) cs hb
  cases e with
  | normal =>
    obtain ⟨e₂, a₂, w₂, hq₂, harr₂⟩ := hq b k cs hb
    exact ⟨e₂, a₂, w₂, hq₂, .of_steps (.head step_seq harr) harr₂⟩
  | exit id => exact ⟨_, a₁, w₁, hq, .of_steps (.one step_seq) (.pass (x := .code y) rfl (fun _ _ => .inl (by simp)) harr)⟩
  | goto l => exact ⟨_, a₁, w₁, hq, .of_steps (.one step_seq) (.pass (x := .code y) rfl (fun _ _ => .inl (by simp)) harr)⟩
  | ret => exact ⟨_, a₁, w₁, hq, .of_steps (.one step_seq) (.pass (x := .code y) rfl (fun _ _ => .inl (by simp)) harr)⟩
  | panic ch => exact ⟨_, a₁, w₁, hq, .of_steps (.one step_seq) (.pass (x := .code y) rfl (fun _ _ => .inl (by simp)) harr)⟩
  | outgrown => exact ⟨_, a₁, w₁, hq, .of_steps (.one step_seq) (.pass (x := .code y) rfl (fun _ _ => .inl (by simp)) harr)⟩
theorem wpN_seq_k {x y : Code} (h : ∀ K : Act → World → Prop, (∀ a w, wpN P y Q a w → K a w) → wpN P x (Exit.then K Q) a w) : wpN P (.seq x y) Q a w := wpN_seq (h _ fun _ _ h => h)
theorem wpN_block {id : Nat} {c : Code} (h : wpN P c (Exit.inBlock id Q) a w) : wpN P (.block id c) Q a w := by
  intro b k cs hb
  obtain ⟨e, a₁, w₁, hq, harr⟩ := h b (.inBlock id :: k) cs hb
  cases e with
  | normal => exact ⟨.normal, a₁, w₁, hq, .head step_block (Steps.trans harr (.one step_inBlock))⟩
  | exit id' =>
    by_cases hid : id' = id
    · simp only [Exit.inBlock, hid, if_true] at hq
      exact ⟨.normal, a₁, w₁, hq, .head step_block (harr k (by simp [exitTo, hid]))⟩
    · simp only [Exit.inBlock, hid, if_false] at hq
      refine ⟨.exit id', a₁, w₁, hq, fun k' hk => .head step_block (harr k' ?_)⟩
      have : (id == id') = false := by simp; exact fun h => hid h.symm
      simp [exitTo, this, hk]
  | goto l => exact ⟨_, a₁, w₁, hq, fun k' hk => .head step_block (harr k' (by simp [gotoIn, hk]))⟩
  | ret => exact ⟨_, a₁, w₁, hq, .of_steps (.one step_block) harr⟩
  | panic ch => exact ⟨_, a₁, w₁, hq, .of_steps (.one step_block) harr⟩
  | outgrown => exact ⟨_, a₁, w₁, hq, .of_steps (b := b) (k := k) (cs := cs) (e := .outgrown) (.one step_block) harr⟩
theorem calls_of_wpN {f : FuncId} {fn : Func} {c : Code} {args : Array Value} {R : Ending → World → Prop} (hf : P.funcs[f]? = some fn) (hb : fn.body = some c)
    (h : wpN P c (bodyPost P fn R) { tmps := args ++ Array.replicate (fn.ntmps - args.size) undef, defers := [] } w) : Calls P f args w R := by
  intro cs
  let b : Frame := { (default : Frame) with fn := f, kind := .normal }
  have henter : Frame.enter P f args .normal = b.at { tmps := args ++ Array.replicate (fn.ntmps - args.size) undef, defers := [] } [.code c] := by
    simp [Frame.enter, Frame.at, hf, hb, b]
  obtain ⟨e, a', w', hq, harr⟩ := h b [] cs rfl
  rw [← henter] at harr
  cases e with
  | normal =>
    obtain ⟨hd, v, hr, hR⟩ := hq
    exact ⟨.returned v, w', _, hR, Steps.trans harr (.one step_end), rfl, rfl, hd, rfl, fn, hf, hr⟩
  | ret =>
    obtain ⟨hd, v, hr, hR⟩ := hq
    obtain ⟨todo, hs⟩ := harr
    exact ⟨.returned v, w', _, hR, hs, rfl, rfl, hd, rfl, fn, hf, hr⟩
  | panic chain =>
    obtain ⟨hd, hR⟩ := hq
    obtain ⟨todo, hs⟩ := harr
    exact ⟨.panicked chain, w', _, hR, hs, rfl, rfl, hd, fn, hf⟩
  | exit id => exact hq.elim
  | goto l => exact hq.elim
  | outgrown => exact ⟨.outgrown, w', b, hq, harr.resolve_left (by simp [b]), rfl, trivial⟩
/-- A region whose first operation is a select that need not wait. -/
theorem wpN_sel {id : Nat} {o : Oper} {rest : List Oper} {cases : Array CommCase} {blocking : Bool} {shape : CommShape} {v : Value} {w' : World}
    (hw : Region.wanted o (yielded (o :: rest).toArray a.tmps) = true) (hr : (execOp a.eval o).run P w = .ok (.comm cases blocking shape) w)
    (hs : ∀ (fr : Frame) (cs : List Frame) (es : Array Event), stepG P true (G fr cs) w = .comm (G fr cs) cases blocking shape w es → step P (solo (G fr cs) w) = .next (solo (G (fr.finish v) cs) w'))
    (h : wpList P (o :: rest).toArray Q rest (a.put o.dst v) w') : wpN P (.region id (o :: rest).toArray false) Q a w := by
  intro b k cs hb
  have h' : wpOps P (o :: rest).toArray Q (List.range' 1 rest.length) (a.put o.dst v) w' := by
    rw [wpOps_eq_wpList rest 1 (fun j => by simp [Nat.add_comm 1 j])]; exact h
  obtain ⟨e, a', w'', hq, harr⟩ := wp_ops _ _ _ h' b k cs
  refine ⟨e, a', w'', hq, .of_steps (.head step_region (.one ?_)) harr⟩
  have h2 := hs (b.at a (.inRegion (o :: rest).toArray (0 :: List.range' 1 rest.length) :: k)) cs _ (stepG_comm (o := o) (by simp) hw (by rw [hb]; decide) hr)
  rw [Frame.finish_at] at h2
  have e : List.range (o :: rest).toArray.size = 0 :: List.range' 1 rest.length := by
    rw [List.range_eq_range']; simp [List.range'_succ]
  rw [e]
  exact h2
theorem wpN_send {id : Nat} {o : Oper} {rest : List Oper} {c cap s r : Nat} {buf : Array Value} {u z : Value} {tm : Bool}
    (hw : Region.wanted o (yielded (o :: rest).toArray a.tmps) = true) (hr : (execOp a.eval o).run P w = .ok (.comm #[scase c u z] false .select) w)
    (hc : w.heap[c]? = some (.chan cap buf false s r tm)) (hroom : buf.size < cap)
    (h : wpList P (o :: rest).toArray Q rest (a.put o.dst (.tuple #[goInt 0, .bool false])) (w.setChan c cap (buf.push u) false (s + 1) r tm)) : wpN P (.region id (o :: rest).toArray false) Q a w :=
  wpN_sel hw hr (fun _ _ _ h => step_lone_select_send_room h hc hroom) h
theorem wpN_recv {id : Nat} {o : Oper} {rest : List Oper} {c cap s r : Nat} {buf : Array Value} {z : Value} {tm closed : Bool}
    (hw : Region.wanted o (yielded (o :: rest).toArray a.tmps) = true) (hr : (execOp a.eval o).run P w = .ok (.comm #[rcase c z] false .select) w)
    (hc : w.heap[c]? = some (.chan cap buf closed s r tm)) (hsome : 0 < buf.size)
    (h : wpList P (o :: rest).toArray Q rest (a.put o.dst (.tuple #[goInt 0, .bool true, buf.getD 0 undef])) (w.setChan c cap (buf.extract 1 buf.size) closed s (r + 1) tm)) : wpN P (.region id (o :: rest).toArray false) Q a w :=
  wpN_sel hw hr (fun _ _ _ h => step_lone_select_recv_buf h hc hsome) h
theorem wpN_recv1 {id : Nat} {o : Oper} {rest : List Oper} {c cap s r : Nat} {u : Value} {l : List Value} {z : Value} {tm closed : Bool}
    (hw : Region.wanted o (yielded (o :: rest).toArray a.tmps) = true) (hr : (execOp a.eval o).run P w = .ok (.comm #[rcase c z] false .select) w)
    (hc : w.heap[c]? = some (.chan cap (u :: l).toArray closed s r tm))
    (h : wpList P (o :: rest).toArray Q rest (a.put o.dst (.tuple #[goInt 0, .bool true, u])) (w.setChan c cap l.toArray closed s (r + 1) tm)) : wpN P (.region id (o :: rest).toArray false) Q a w := by
  refine wpN_recv hw hr hc (by simp) ?_
  have e : (u :: l).toArray.extract 1 (u :: l).toArray.size = l.toArray := by simp
  rw [e]
  exact h
theorem wpN_send1 {id : Nat} {o : Oper} {rest : List Oper} {c cap s r : Nat} {l : List Value} {u z : Value} {tm : Bool}
    (hw : Region.wanted o (yielded (o :: rest).toArray a.tmps) = true) (hr : (execOp a.eval o).run P w = .ok (.comm #[scase c u z] false .select) w)
    (hc : w.heap[c]? = some (.chan cap l.toArray false s r tm)) (hroom : l.length < cap)
    (h : wpList P (o :: rest).toArray Q rest (a.put o.dst (.tuple #[goInt 0, .bool false])) (w.setChan c cap (l ++ [u]).toArray false (s + 1) r tm)) : wpN P (.region id (o :: rest).toArray false) Q a w := by
  refine wpN_send hw hr hc (by simpa using hroom) ?_
  have e : l.toArray.push u = (l ++ [u]).toArray := by simp
  rw [e]
  exact h
theorem wpN_none {id : Nat} {o : Oper} {rest : List Oper} {c cap s r : Nat} {z : Value} {tm : Bool}
    (hw : Region.wanted o (yielded (o :: rest).toArray a.tmps) = true) (hr : (execOp a.eval o).run P w = .ok (.comm #[rcase c z] false .select) w)
    (hc : w.heap[c]? = some (.chan cap #[] false s r tm))
    (h : wpList P (o :: rest).toArray Q rest (a.put o.dst (.tuple #[goInt (-1), .bool false, z])) w) : wpN P (.region id (o :: rest).toArray false) Q a w :=
  wpN_sel hw hr (fun _ _ _ h => step_lone_select_default h hc) h
end
end Go.Proofs.YteefhiniamajkaaGreat
namespace Go.Proofs.YteefhiniamajkaaGreat
set_option linter.unusedVariables false
open Go.RowKit Go.Conc

/-- The operations of a region from place n on, of frames of plain calls alone. -/
def wpNL (P : Program) (ops : Array Oper) (Q : Exit → Act → World → Prop) (n : Nat) (rest : List Oper) (a : Act) (w : World) : Prop :=
  ∀ (b : Frame) (k : List Item) (cs : List Frame), b.kind = .normal → ∃ e a' w', Q e a' w' ∧ Arrives P (lone (b.at a (.inRegion ops (List.range' n rest.length) :: k)) cs w) b k cs e a' w'
section
variable {P : Program} {Q : Exit → Act → World → Prop} {a : Act} {w w' : World} {ops : Array Oper} {n : Nat} {rest : List Oper} {o : Oper} {v : Value}
theorem wpN_reg {id : Nat} {L : List Oper} (h : wpNL P L.toArray Q 0 L a w) : wpN P (.region id L.toArray false) Q a w := by
  intro b k cs hb
  obtain ⟨e, a', w', hq, harr⟩ := h b k cs hb
  refine ⟨e, a', w', hq, .of_steps (.one step_region) ?_⟩
  rw [show List.range L.toArray.size = List.range' 0 L.length by rw [List.range_eq_range']; simp]
  exact harr
theorem wpNL_end (hd : ∀ j, ops[n + j]? = rest[j]?) (h : wpList P ops Q rest a w) : wpNL P ops Q n rest a w := by
  intro b k cs _
  refine wp_ops _ _ _ ?_ b k cs
  rw [wpOps_eq_wpList rest n (fun j => by first | exact hd j | exact (hd j).symm)]
  exact h
theorem wpNL_val (hd : ops[n]? = some o) (hw : Region.wanted o (yielded ops a.tmps) = true) (he : (execOp a.eval o).run P w = .ok (.value v) w') (h : wpNL P ops Q (n + 1) rest (a.put o.dst v) w') : wpNL P ops Q n (o :: rest) a w := by
  intro b k cs hb
  obtain ⟨e, a', w'', hq, harr⟩ := h b k cs hb
  have hg := stepG_op (P := P) (b := b) (k := k) (cs := cs) (w := w) (rest := List.range' (n + 1) rest.length) hd hw
  have hfin : ∀ v, (b.at a (.inRegion ops (n :: List.range' (n + 1) rest.length) :: k)).finish v = b.at (a.put o.dst v) (.inRegion ops (List.range' (n + 1) rest.length) :: k) := by
    intro v; rw [Frame.finish_at, hd]; rfl
  rw [List.length_cons, List.range'_succ]
  refine ⟨e, a', w'', hq, .of_steps (.one (step_lone_go ?_)) harr⟩
  rw [hg, ← hfin]
  simp [stepG.apply, he]
theorem wpNL_comm {cases : Array CommCase} {blocking : Bool} {shape : CommShape} (hd : ops[n]? = some o) (hw : Region.wanted o (yielded ops a.tmps) = true) (hr : (execOp a.eval o).run P w = .ok (.comm cases blocking shape) w)
    (hs : ∀ (fr : Frame) (cs : List Frame) (es : Array Event), stepG P true (G fr cs) w = .comm (G fr cs) cases blocking shape w es → step P (solo (G fr cs) w) = .next (solo (G (fr.finish v) cs) w'))
    (h : wpNL P ops Q (n + 1) rest (a.put o.dst v) w') : wpNL P ops Q n (o :: rest) a w := by
  intro b k cs hb
  obtain ⟨e, a', w'', hq, harr⟩ := h b k cs hb
  rw [List.length_cons, List.range'_succ]
  refine ⟨e, a', w'', hq, .of_steps (.one ?_) harr⟩
  have h2 := hs (b.at a (.inRegion ops (n :: List.range' (n + 1) rest.length) :: k)) cs _ (stepG_comm (o := o) hd hw (by rw [hb]; decide) hr)
  rw [Frame.finish_at, hd] at h2
  exact h2
theorem wpNL_send {c cap s r : Nat} {l : List Value} {u z : Value} {tm : Bool} (hd : ops[n]? = some o) (hw : Region.wanted o (yielded ops a.tmps) = true) (hr : (execOp a.eval o).run P w = .ok (.comm #[scase c u z] true .send) w)
    (hc : w.heap[c]? = some (.chan cap l.toArray false s r tm)) (hroom : l.length < cap)
    (h : wpNL P ops Q (n + 1) rest (a.put o.dst undef) (w.setChan c cap (l ++ [u]).toArray false (s + 1) r tm)) : wpNL P ops Q n (o :: rest) a w := by
  have e : l.toArray.push u = (l ++ [u]).toArray := by simp
  rw [← e] at h
  exact wpNL_comm hd hw hr (fun _ _ _ h => step_lone_send_room h hc (by simpa using hroom)) h
/-- Of two channels the first holds something, the second nothing. -/
theorem wpNL_recv0 {c d cap s r cap2 s2 r2 : Nat} {l : List Value} {u z z2 : Value} {tm tm2 closed blocking : Bool} (hd : ops[n]? = some o) (hw : Region.wanted o (yielded ops a.tmps) = true) (hr : (execOp a.eval o).run P w = .ok (.comm #[rcase c z, rcase d z2] blocking .select) w)
    (hc : w.heap[c]? = some (.chan cap (u :: l).toArray closed s r tm)) (hd2 : w.heap[d]? = some (.chan cap2 #[] false s2 r2 tm2))
    (h : wpNL P ops Q (n + 1) rest (a.put o.dst (.tuple #[goInt 0, .bool true, u, z2])) (w.setChan c cap l.toArray closed s (r + 1) tm)) : wpNL P ops Q n (o :: rest) a w := by
  have e : (u :: l).toArray.extract 1 (u :: l).toArray.size = l.toArray := by simp
  rw [← e] at h
  refine wpNL_comm (v := .tuple #[goInt 0, .bool true, u, z2]) hd hw hr (fun fr cs es h => ?_) h
  have h3 := step_lone_sel_recv_buf (k := 0) h (c := c) (z := z) rfl (fun m c' hm hc' => ?_) hc (by simp)
  · have e2 : commResult #[rcase c z, rcase d z2] .select ((0 : Nat) : Int) ((u :: l).toArray.getD 0 undef) true = .tuple #[goInt 0, .bool true, u, z2] := by simp [commResult, rcase]
    rw [e2] at h3
    exact h3
  · rcases m with _ | _ | m
    · exact absurd rfl hm
    · simp at hc'
      subst hc'
      exact noWay_recv hd2
    · simp at hc'
theorem wpNL_recv1 {c d cap s r cap2 s2 r2 : Nat} {l : List Value} {u z z2 : Value} {tm tm2 closed blocking : Bool} (hd : ops[n]? = some o) (hw : Region.wanted o (yielded ops a.tmps) = true) (hr : (execOp a.eval o).run P w = .ok (.comm #[rcase c z, rcase d z2] blocking .select) w)
    (hc : w.heap[c]? = some (.chan cap2 #[] false s2 r2 tm2)) (hd2 : w.heap[d]? = some (.chan cap (u :: l).toArray closed s r tm))
    (h : wpNL P ops Q (n + 1) rest (a.put o.dst (.tuple #[goInt 1, .bool true, z, u])) (w.setChan d cap l.toArray closed s (r + 1) tm)) : wpNL P ops Q n (o :: rest) a w := by
  have e : (u :: l).toArray.extract 1 (u :: l).toArray.size = l.toArray := by simp
  rw [← e] at h
  refine wpNL_comm (v := .tuple #[goInt 1, .bool true, z, u]) hd hw hr (fun fr cs es h => ?_) h
  have h3 := step_lone_sel_recv_buf (k := 1) h (c := d) (z := z2) rfl (fun m c' hm hc' => ?_) hd2 (by simp)
  · have e2 : commResult #[rcase c z, rcase d z2] .select ((1 : Nat) : Int) ((u :: l).toArray.getD 0 undef) true = .tuple #[goInt 1, .bool true, z, u] := by simp [commResult, rcase]
    rw [e2] at h3
    exact h3
  · rcases m with _ | _ | m
    · simp at hc'
      subst hc'
      exact noWay_recv hc
    · exact absurd rfl hm
    · simp at hc'
end
end Go.Proofs.YteefhiniamajkaaGreat
