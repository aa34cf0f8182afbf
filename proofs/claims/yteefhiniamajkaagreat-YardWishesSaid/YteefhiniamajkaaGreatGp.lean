/- Keys, rings, blocks of cells. Rings of keys, of both packages; the laws' helpers of chapter 5. Rings of keys of the program; the next ring; the laws' helper Ring. The next ring; the laws' helpers Ring, kind. Pools as plain functions, in blocks of memory. A pool is itself. -/
import Derived.Test.YteefhiniamajkaaGreatGa
import Derived.Deep.RegionHeld3
import Derived.Deep.Cut
import Derived.BigQuiet
import Derived.Laws.IdiomCopy
import Derived.Deep.MidRow
import Derived.Laws.Tables
import Derived.Laws.StructEq
namespace Go.Proofs.YteefhiniamajkaaGreat
set_option linter.unusedVariables false
set_option linter.unusedSimpArgs false
open Go.RowKit Go.ChangeShapes Go.WideShapes Go.ChangeAt

structure Ky where
  a : Int
  b : Int
structure Rg where
  e : Int
  p : Ky
  c : Ky
  n : Ky
theorem re_u64 {P : Program} {F : FuncId} {args : Array Value} {w : World} {R : World → Prop} {a b : Int} (h : Calls P F args w fun e w' => e = .returned (.int .u64 a) ∧ R w') (he : a = b) :
    Calls P F args w fun e w' => e = .returned (.int .u64 b) ∧ R w' := by subst he; exact h
theorem re_v {P : Program} {F : FuncId} {args : Array Value} {w : World} {R : World → Prop} {a b : Value} (h : Calls P F args w fun e w' => e = .returned a ∧ R w') (he : a = b) :
    Calls P F args w fun e w' => e = .returned b ∧ R w' := by subst he; exact h
theorem then_ {w a b : World} (h : Below w.heap.size w a) (k : Below a.heap.size a b) : Below w.heap.size w b := h.trans (k.mono h.size)
/-- Cells of a block, that may be written. -/
def Ce (w : World) (b : Nat) (l : List Value) : Prop := b < w.heap.size ∧ (∀ j v, l[j]? = some v → w.cell? ⟨b, j, none⟩ = some v) ∧ ∀ j, w.frozen? ⟨b, j, none⟩ = false
theorem Ce.below {w w' : World} {b : Nat} {l : List Value} (h : Ce w b l) (hb : Below w.heap.size w w') : Ce w' b l :=
  ⟨Nat.lt_of_lt_of_le h.1 hb.size, fun j v hj => (hb.cell (p := ⟨b, j, none⟩) h.1).trans (h.2.1 j v hj), fun j => (World.frozen?_of_block (a := ⟨b, j, none⟩) (hb.block b h.1)).trans (h.2.2 j)⟩
theorem Ce.alloc {w : World} {b : Nat} {l : List Value} (h : Ce w b l) (o : Obj) : Ce (w.alloc o) b l := h.below ((Below.refl _ _).alloc (Nat.le_refl _) o)
theorem Ce.made {w : World} {l : List Value} {T : TypeId} {g : Nat} (hg : w.heap.size = g) : Ce (w.alloc (.cells l.toArray T)) g l := by
  subst hg
  have h : (w.alloc (.cells l.toArray T)).heap[w.heap.size]? = some (.cells l.toArray T (0, 0)) := heap_alloc_new w _
  refine ⟨by simp, fun j v hj => ?_, fun j => frozen_of_row _ _ _ _ _ h⟩
  rw [cell_of_row _ w.heap.size j l.toArray T (0, 0) h]
  simpa using hj

/-- What a cell holds, whatever it is. -/
def cv (w : World) (b j : Nat) : Value := (w.cell? ⟨b, j, none⟩).getD undef
theorem cv_of {w : World} {b j : Nat} {v : Value} (h : w.cell? ⟨b, j, none⟩ = some v) : w.cell? ⟨b, j, none⟩ = some (cv w b j) := by unfold cv; rw [h]; rfl
theorem cv_of' {w : World} {b j : Nat} (h : (w.cell? ⟨b, j, none⟩).isSome = true) : w.cell? ⟨b, j, none⟩ = some (cv w b j) := by
  obtain ⟨v, hv⟩ := Option.isSome_iff_exists.1 h
  exact cv_of hv
theorem cv_set {w : World} {b j : Nat} {p : Addr} {v : Value} (h : w.cell? ⟨b, j, none⟩ = some (cv w b j)) : (w.setCell p v).cell? ⟨b, j, none⟩ = some (cv (w.setCell p v) b j) := by
  obtain ⟨v', h'⟩ := cell?_setCell_some (w := w) (p := p) (x := v) (q := ⟨b, j, none⟩) h
  exact cv_of h'
theorem cell_back {w : World} {b j : Nat} {p : Addr} {v u : Value} (h : (w.setCell p v).cell? ⟨b, j, none⟩ = some u) : ∃ u', w.cell? ⟨b, j, none⟩ = some u' := by
  by_cases e : p = ⟨b, j, none⟩
  · subst e
    cases hb : w.heap[b]? with
    | none => simp [World.cell?, World.setCell, Array.getElem?_modify, hb] at h
    | some o =>
      cases o with
      | cells c el fr =>
        simp [World.cell?, World.setCell, Array.getElem?_modify, hb] at h ⊢
        have hj : j < c.size := by
          rcases Nat.lt_or_ge j c.size with hj | hj
          · exact hj
          · simp [Array.setIfInBounds, Nat.not_lt.2 hj] at h
        exact ⟨_, Array.getElem?_eq_getElem hj⟩
      | _ => simp [World.cell?, World.setCell, Array.getElem?_modify, hb] at h
  · rw [World.cell?_setCell_other _ _ _ _ e] at h
    exact ⟨u, h⟩
theorem cell_last {w : World} {b j : Nat} {v u : Value} (h : (w.setCell ⟨b, j, none⟩ v).cell? ⟨b, j, none⟩ = some u) : (w.setCell ⟨b, j, none⟩ v).cell? ⟨b, j, none⟩ = some v := by
  obtain ⟨u', h'⟩ := cell_back h
  exact World.cell?_setCell_same _ _ _ h'
theorem set3 {w : World} {R : Nat} {a b c u0 u1 u2 : Value} (h0 : (((w.setCell ⟨R, 0, none⟩ a).setCell ⟨R, 1, none⟩ b).setCell ⟨R, 2, none⟩ c).cell? ⟨R, 0, none⟩ = some u0)
    (h1 : (((w.setCell ⟨R, 0, none⟩ a).setCell ⟨R, 1, none⟩ b).setCell ⟨R, 2, none⟩ c).cell? ⟨R, 1, none⟩ = some u1) (h2 : (((w.setCell ⟨R, 0, none⟩ a).setCell ⟨R, 1, none⟩ b).setCell ⟨R, 2, none⟩ c).cell? ⟨R, 2, none⟩ = some u2) :
    (((w.setCell ⟨R, 0, none⟩ a).setCell ⟨R, 1, none⟩ b).setCell ⟨R, 2, none⟩ c).cell? ⟨R, 0, none⟩ = some a ∧ (((w.setCell ⟨R, 0, none⟩ a).setCell ⟨R, 1, none⟩ b).setCell ⟨R, 2, none⟩ c).cell? ⟨R, 1, none⟩ = some b ∧ (((w.setCell ⟨R, 0, none⟩ a).setCell ⟨R, 1, none⟩ b).setCell ⟨R, 2, none⟩ c).cell? ⟨R, 2, none⟩ = some c := by
  obtain ⟨u, g0⟩ := cell_back h0
  obtain ⟨u', g0'⟩ := cell_back g0
  obtain ⟨v, g1⟩ := cell_back h1
  refine ⟨?_, ?_, cell_last h2⟩
  · rw [World.cell?_setCell_other _ _ _ _ (by simp), World.cell?_setCell_other _ _ _ _ (by simp)]
    exact cell_last g0'
  · rw [World.cell?_setCell_other _ _ _ _ (by simp)]
    exact cell_last g1
theorem at_world {P : Program} {fn : Func} {post : Ending → World → Prop} {x : Exit} {a : Act} {W : World} (Q : World → Prop) (hQ : Q W) (h : ∀ w, Q w → bodyPost P fn post x a w) : bodyPost P fn post x a W := h W hQ
def kyV (k : Ky) : Value := .agg #[.int .u64 k.a, .int .u64 k.b]
def rgV (r : Rg) : Value := .agg #[.int .i64 r.e, .int .u64 r.p.a, .int .u64 r.p.b, .int .u64 r.c.a, .int .u64 r.c.b, .int .u64 r.n.a, .int .u64 r.n.b]
def I64 (x : Int) : Prop := -9223372036854775808 ≤ x ∧ x ≤ 9223372036854775807
def Ep (e : Int) : Prop := -4611686018427387904 ≤ e ∧ e ≤ 4611686018427387904
end Go.Proofs.YteefhiniamajkaaGreat
namespace Go.Proofs.YteefhiniamajkaaGreat
set_option linter.unusedVariables false
set_option linter.unusedSimpArgs false
open Go.RowKit Go.ChangeShapes Go.WideShapes Go.ChangeAt

def kyN (n : Int) : Ky := ⟨IntKind.u64.wrap (IntKind.u64.wrap n * 11400714819323198485), bits .xor .u64 (IntKind.u64.wrap n) 19088743⟩
theorem lkey_any (n : Int) (w : World) : Calls Tryz.prog 24 #[.int .i64 n] w fun e' w' => e' = .returned (kyV (kyN n)) ∧ Below w.heap.size w w' := by
  unfold kyV kyN
  go_enter Tryz.func24, Tryz.ntmps24
  go_wp2_with fail
  refine bodyPost_ret (by simp [results, Tryz.results24, go_sem]) rfl ⟨rfl, ?_⟩
  repeat' (first | with_reducible exact Below.refl _ _ | with_reducible refine Below.drew ?_ | with_reducible refine Below.alloc ?_ ?_ _ | with_reducible refine Below.setCell ?_ ?_ _ | (simp; done) | (simp; omega))
theorem run_copy2 {P : Program} (w : World) (dT sT ty elem : TypeId) (b o dLen dCap : Nat) (a : Addr) (sLen sCap : Nat) (cs : List Value)
    (hu : P.underlying dT = some (.slice elem)) (hs : (P.info? elem).map (·.size) = some 2) (hn : cs.length = Nat.min sLen dLen * 2)
    (hsrc : ∀ j v, cs[j]? = some v → w.cell? (a.add j) = some v) (hc : ∀ j, j < cs.length → (w.cell? ⟨b, o + j, none⟩).isSome = true) (hf : ∀ j, j < cs.length → w.frozen? ⟨b, o + j, none⟩ = false) (h1 : ∀ v ∈ cs, v.oneCell' = true) :
    (Builtin.copy_ #[dT, sT] ty #[.slice (some ⟨b, o, none⟩) dLen dCap, .slice (some a) sLen sCap]).run P w = .ok (goInt (Nat.min sLen dLen)) (w.setCells b o cs) := by
  have hl := run_loadCells_list (P := P) w a cs hsrc
  have hst := run_storeCells_cells (P := P) b o cs 0 w (by simpa using hc) (by simpa using hf) h1
  cases hq : P.info? elem with
  | none => simp [hq] at hs
  | some i =>
    have hi : i.size = 2 := by simpa [hq] using hs
    rw [hn] at hl
    simp [Builtin.copy_, run_underlying hu, Builtin.lenOf, Builtin.firstCells, sizeOf, typeInfo, hq, hi, hl, hst]

/-- The i-th key of a row of n. -/
def kAt (n : Nat) (g : Nat → Int) (i : Nat) : Ky := if i < n then ⟨g (2 * i), g (2 * i + 1)⟩ else ⟨0, 0⟩
def rgN (e : Int) (n : Nat) (g : Nat → Int) : Rg := ⟨e, kAt n g 0, kAt n g 1, kAt n g 2⟩
theorem st_two {w : World} {X k : Nat} {g : Nat → Int} (hc : ∀ q, q < 6 → w.cell? ⟨X, q, none⟩ = some (.int .u64 (if q < 2 * k then g q else 0))) (hk : k < 3) :
    ∀ q, q < 6 → ((w.setCell ⟨X, k * 2, none⟩ (.int .u64 (g (k * 2)))).setCell ⟨X, k * 2 + 1, none⟩ (.int .u64 (g (k * 2 + 1)))).cell? ⟨X, q, none⟩ = some (.int .u64 (if q < 2 * (k + 1) then g q else 0)) := by
  intro q hq
  by_cases e1 : q = k * 2 + 1
  · subst e1
    rw [World.cell?_setCell_same _ _ _ ((World.cell?_setCell_other _ _ _ _ (by simp)).trans (hc (k * 2 + 1) hq)), if_pos (by omega)]
  · rw [World.cell?_setCell_other _ _ _ _ (by simp <;> omega)]
    by_cases e2 : q = k * 2
    · subst e2
      rw [World.cell?_setCell_same _ _ _ (hc (k * 2) hq), if_pos (by omega)]
    · rw [World.cell?_setCell_other _ _ _ _ (by simp <;> omega), hc q hq]
      congr 2
      by_cases h3 : q < 2 * k
      · rw [if_pos h3, if_pos (by omega)]
      · rw [if_neg h3, if_neg (by omega)]
theorem rring_any (e : Int) (A : Option Addr) (n c : Nat) (g : Nat → Int) (w : World) (h : Sl w A (2 * n) (fun j => .int .u64 (g j))) (hn : n ≤ 1000) :
    Calls Tryz.prog 42 #[.int .i64 e, .slice A n c] w fun e' w' => e' = .returned (rgV (rgN e n g)) ∧ Below w.heap.size w w' := by
  unfold rgV rgN
  go_enter Tryz.func42, Tryz.ntmps42
  go_wp2_with fail
  have dR : w.heap.size + 1 ≠ w.heap.size := by omega
  have lX : w.heap.size ≤ w.heap.size + 1 := by omega
  have CR := Ce.made (w := w) (l := [.int .i64 0, .int .u64 0, .int .u64 0, .int .u64 0, .int .u64 0, .int .u64 0, .int .u64 0]) (T := 31) (g := w.heap.size) rfl
  replace CR := CR.alloc (.cells #[.int .u64 0, .int .u64 0, .int .u64 0, .int .u64 0, .int .u64 0, .int .u64 0] 130)
  have CX := Ce.made (w := (w.alloc (.cells #[.int .i64 0, .int .u64 0, .int .u64 0, .int .u64 0, .int .u64 0, .int .u64 0, .int .u64 0] 31))) (l := [.int .u64 0, .int .u64 0, .int .u64 0, .int .u64 0, .int .u64 0, .int .u64 0]) (T := 130) (g := w.heap.size + 1) (by simp)
  have B : Below w.heap.size w ((w.alloc (.cells #[.int .i64 0, .int .u64 0, .int .u64 0, .int .u64 0, .int .u64 0, .int .u64 0, .int .u64 0] 31)).alloc (.cells #[.int .u64 0, .int .u64 0, .int .u64 0, .int .u64 0, .int .u64 0, .int .u64 0] 130)) := (((Below.refl w.heap.size w).alloc (by first | exact Nat.le_refl _ | (simp; done) | (simp; omega)) (.cells #[.int .i64 0, .int .u64 0, .int .u64 0, .int .u64 0, .int .u64 0, .int .u64 0, .int .u64 0] 31)).alloc (by first | exact Nat.le_refl _ | (simp; done) | (simp; omega)) (.cells #[.int .u64 0, .int .u64 0, .int .u64 0, .int .u64 0, .int .u64 0, .int .u64 0] 130))
  generalize (w.alloc (.cells #[.int .i64 0, .int .u64 0, .int .u64 0, .int .u64 0, .int .u64 0, .int .u64 0, .int .u64 0] 31)).alloc (.cells #[.int .u64 0, .int .u64 0, .int .u64 0, .int .u64 0, .int .u64 0, .int .u64 0] 130) = w1 at *
  generalize w.heap.size + 1 = X at *
  generalize hK : w.heap.size = R at *
  have CX' : ∀ q, q < 6 → w1.cell? ⟨X, q, none⟩ = some (.int .u64 (if q < 2 * 0 then g q else 0)) := fun q hq => by
    obtain ⟨_, q0, _⟩ := CX
    rw [if_neg (by omega)]
    rcases q with _ | _ | _ | _ | _ | _ | q
    · exact q0 0 _ rfl
    · exact q0 1 _ rfl
    · exact q0 2 _ rfl
    · exact q0 3 _ rfl
    · exact q0 4 _ rfl
    · exact q0 5 _ rfl
    · omega
  have h1 : Sl w1 A (2 * n) (fun j => .int .u64 (g j)) := h.below B (Nat.le_of_eq hK)
  obtain ⟨N, hN1, hN2, hN3⟩ : ∃ N, N ≤ n ∧ N ≤ 3 ∧ (n ≤ N ∨ 3 ≤ N) := ⟨min n 3, by omega, by omega, by omega⟩
  have ZX : ∀ q, w1.frozen? ⟨X, q, none⟩ = false := CX.2.2
  have kX := CX.1
  have lB : w.heap.size ≤ w1.heap.size := B.size
  clear CX
  go_loopw [6] (fun i wr => ∃ k : Nat, k ≤ N ∧ i = .int .i64 k ∧ Below X w1 wr ∧ (∀ q, q < 6 → wr.cell? ⟨X, q, none⟩ = some (.int .u64 (if q < 2 * k then g q else 0))) ∧ (∀ q, wr.frozen? ⟨X, q, none⟩ = false)) (fun i _ => N - (intOf i).toNat)
  case atStart => exact ⟨0, by omega, rfl, Below.refl _ _, CX', ZX⟩
  case round =>
    obtain ⟨k, hk, rfl, hb, hcx, hzx⟩ := hrel
    by_cases hlt : k < N
    · have h1' := h1
      obtain ⟨b, off, rfl, hbl, hcell⟩ := h (by omega)
      have hbX : b < X := by omega
      have hcl : ∀ j, j < 2 * n → wr.cell? ⟨b, off + j, none⟩ = some (.int .u64 (g j)) := fun j hj => (hb.cell (p := ⟨b, off + j, none⟩) hbX).trans (h1.at_ hj)
      have i1 : (k : Int) < n := by omega
      have i2 : (k : Int) < 3 := by omega
      have i3 : (0 : Int) ≤ k := by omega
      have s0 : wr.cell? ⟨b, off + k * 2, none⟩ = some (.int .u64 (g (k * 2))) := hcl _ (by omega)
      have s1 : wr.cell? ⟨b, off + k * 2 + 1, none⟩ = some (.int .u64 (g (k * 2 + 1))) := hcl (k * 2 + 1) (by omega)
      have x0 := hcx (k * 2) (by omega)
      have x1 := hcx (k * 2 + 1) (by omega)
      have z0 := hzx (k * 2)
      have z1 := hzx (k * 2 + 1)
      have HN := hid (st_two hcx (by omega : k < 3))
      have HZ := hid hzx
      clear hcx hzx hcl hcell h1 h1' CX' ZX
      go_wp2_with fail
      go_roundw
      case rel => exact ⟨k + 1, by omega, by go_num, (hb.setCell (Nat.le_refl _) _).setCell (Nat.le_refl _) _, HN.out, fun q => by simp [HZ.out q]⟩
      case measure => simp [intOf]; omega
    · have e : k = N := by omega
      subst e
      have kk : ∀ i, i < 3 → (if 2 * i < 2 * k then g (2 * i) else 0) = (kAt n g i).a ∧ (if 2 * i + 1 < 2 * k then g (2 * i + 1) else 0) = (kAt n g i).b := fun i hi => by
        unfold kAt
        by_cases hin : i < n
        · rw [if_pos hin, if_pos (by omega), if_pos (by omega)]
          exact ⟨rfl, rfl⟩
        · rw [if_neg hin, if_neg (by omega), if_neg (by omega)]
          exact ⟨rfl, rfl⟩
      have x0 := hcx 0 (by omega)
      have x1 := hcx 1 (by omega)
      have x2 := hcx 2 (by omega)
      have x3 := hcx 3 (by omega)
      have x4 := hcx 4 (by omega)
      have x5 := hcx 5 (by omega)
      rw [show (if 0 < 2 * k then g 0 else 0) = (kAt n g 0).a from (kk 0 (by omega)).1] at x0
      rw [show (if 1 < 2 * k then g 1 else 0) = (kAt n g 0).b from (kk 0 (by omega)).2] at x1
      rw [show (if 2 < 2 * k then g 2 else 0) = (kAt n g 1).a from (kk 1 (by omega)).1] at x2
      rw [show (if 3 < 2 * k then g 3 else 0) = (kAt n g 1).b from (kk 1 (by omega)).2] at x3
      rw [show (if 4 < 2 * k then g 4 else 0) = (kAt n g 2).a from (kk 2 (by omega)).1] at x4
      rw [show (if 5 < 2 * k then g 5 else 0) = (kAt n g 2).b from (kk 2 (by omega)).2] at x5
      obtain ⟨kR, qR, zR⟩ := CR
      have hRX : R < X := by omega
      have cR0 := (hb.cell (p := ⟨R, 0, none⟩) hRX).trans (qR 0 _ rfl)
      have fR0 := (World.frozen?_of_block (a := ⟨R, 0, none⟩) (hb.block R hRX)).trans (zR 0)
      have cR1 := (hb.cell (p := ⟨R, 1, none⟩) hRX).trans (qR 1 _ rfl)
      have fR1 := (World.frozen?_of_block (a := ⟨R, 1, none⟩) (hb.block R hRX)).trans (zR 1)
      have cR2 := (hb.cell (p := ⟨R, 2, none⟩) hRX).trans (qR 2 _ rfl)
      have fR2 := (World.frozen?_of_block (a := ⟨R, 2, none⟩) (hb.block R hRX)).trans (zR 2)
      have cR3 := (hb.cell (p := ⟨R, 3, none⟩) hRX).trans (qR 3 _ rfl)
      have fR3 := (World.frozen?_of_block (a := ⟨R, 3, none⟩) (hb.block R hRX)).trans (zR 3)
      have cR4 := (hb.cell (p := ⟨R, 4, none⟩) hRX).trans (qR 4 _ rfl)
      have fR4 := (World.frozen?_of_block (a := ⟨R, 4, none⟩) (hb.block R hRX)).trans (zR 4)
      have cR5 := (hb.cell (p := ⟨R, 5, none⟩) hRX).trans (qR 5 _ rfl)
      have fR5 := (World.frozen?_of_block (a := ⟨R, 5, none⟩) (hb.block R hRX)).trans (zR 5)
      have cR6 := (hb.cell (p := ⟨R, 6, none⟩) hRX).trans (qR 6 _ rfl)
      have fR6 := (World.frozen?_of_block (a := ⟨R, 6, none⟩) (hb.block R hRX)).trans (zR 6)
      have hbf : Below R w wr := B.trans (hb.mono (by omega))
      clear hcx hzx kk h1 CX' ZX qR zR h B hb
      have hex : ¬ (k : Int) < n ∨ ¬ (k : Int) < 3 := by omega
      by_cases h7 : n ≤ k
      · have j1 : ¬ (k : Int) < n := by omega
        go_wp2_with fail
        refine bodyPost_ret (by simp [results, Tryz.results42, go_sem, cR0, cR1, cR2, cR3, cR4, cR5, cR6]) rfl ⟨rfl, ?_⟩
        try rw [hK]
        repeat' (first | with_reducible exact hbf | refine Below.setCell ?_ (Nat.le_refl R) _)
      · have j1 : (k : Int) < n := by omega
        have j2 : ¬ (k : Int) < 3 := by omega
        go_wp2_with fail
        refine bodyPost_ret (by simp [results, Tryz.results42, go_sem, cR0, cR1, cR2, cR3, cR4, cR5, cR6]) rfl ⟨rfl, ?_⟩
        try rw [hK]
        repeat' (first | with_reducible exact hbf | refine Below.setCell ?_ (Nat.le_refl R) _)

end Go.Proofs.YteefhiniamajkaaGreat
namespace Go.Proofs.YteefhiniamajkaaGreat
set_option linter.unusedVariables false
set_option linter.unusedSimpArgs false
open Go.RowKit Go.ChangeShapes Go.WideShapes Go.ChangeAt

theorem run_copy_none2 {P : Program} (w : World) (dT sT ty elem : TypeId) (d a : Option Addr) (dLen dCap sLen sCap : Nat) (hu : P.underlying dT = some (.slice elem)) (hs : (P.info? elem).map (·.size) = some 2) (hn : Nat.min sLen dLen = 0) :
    (Builtin.copy_ #[dT, sT] ty #[.slice d dLen dCap, .slice a sLen sCap]).run P w = .ok (goInt 0) w := by
  cases hq : P.info? elem with
  | none => simp [hq] at hs
  | some i =>
    have hl : ∀ (x : Addr), (loadCells x 0).run P w = .ok #[] w := fun x => by simpa using run_loadCells_list (P := P) w x [] (by simp)
    cases d <;> cases a <;> simp [Builtin.copy_, run_underlying hu, Builtin.lenOf, Builtin.firstCells, sizeOf, typeInfo, hq, hn, storeCells, hl]
theorem Ce.slu {w : World} {b : Nat} (l : List Int) (h : Ce w b (l.map (Value.int .u64))) : Sl w (some ⟨b, 0, none⟩) l.length (fun j => .int .u64 (l.getD j 0)) := by
  refine Sl.mk h.1 fun j hj => ?_
  rw [Nat.zero_add]
  exact h.2.1 j _ (by simp [List.getD, hj])
theorem keeps_setCells (b : Nat) : ∀ (vs : List Value) (o : Nat) (w : World) (B : Nat), B ≤ b → Below B w (w.setCells b o vs)
  | [], _, w, B, _ => Below.refl B w
  | v :: r, o, w, B, h => ((Below.refl B w).setCell h v).trans (keeps_setCells b r (o + 1) _ B h)
theorem cring_any (e : Int) (A : Option Addr) (n c : Nat) (g : Nat → Int) (w : World) (h : Sl w A (2 * n) (fun j => .int .u64 (g j))) (hn : n ≤ 1000) :
    Calls Tryz.prog 86 #[.int .i64 e, .slice A n c] w fun e' w' => e' = .returned (rgV (rgN e n g)) ∧ Below w.heap.size w w' := by
  unfold rgV rgN
  go_enter Tryz.func86, Tryz.ntmps86
  go_upto_region 2 with fail
  have dR : w.heap.size + 1 ≠ w.heap.size := by omega
  have lX : w.heap.size ≤ w.heap.size + 1 := by omega
  have CR := Ce.made (w := w) (l := [.int .i64 0, .int .u64 0, .int .u64 0, .int .u64 0, .int .u64 0, .int .u64 0, .int .u64 0]) (T := 31) (g := w.heap.size) rfl
  replace CR := CR.alloc (.cells #[.int .u64 0, .int .u64 0, .int .u64 0, .int .u64 0, .int .u64 0, .int .u64 0] 130)
  have CX := Ce.made (w := (w.alloc (.cells #[.int .i64 0, .int .u64 0, .int .u64 0, .int .u64 0, .int .u64 0, .int .u64 0, .int .u64 0] 31))) (l := [.int .u64 0, .int .u64 0, .int .u64 0, .int .u64 0, .int .u64 0, .int .u64 0]) (T := 130) (g := w.heap.size + 1) (by simp)
  have B : Below w.heap.size w ((w.alloc (.cells #[.int .i64 0, .int .u64 0, .int .u64 0, .int .u64 0, .int .u64 0, .int .u64 0, .int .u64 0] 31)).alloc (.cells #[.int .u64 0, .int .u64 0, .int .u64 0, .int .u64 0, .int .u64 0, .int .u64 0] 130)) := (((Below.refl w.heap.size w).alloc (by first | exact Nat.le_refl _ | (simp; done) | (simp; omega)) (.cells #[.int .i64 0, .int .u64 0, .int .u64 0, .int .u64 0, .int .u64 0, .int .u64 0, .int .u64 0] 31)).alloc (by first | exact Nat.le_refl _ | (simp; done) | (simp; omega)) (.cells #[.int .u64 0, .int .u64 0, .int .u64 0, .int .u64 0, .int .u64 0, .int .u64 0] 130))
  generalize (w.alloc (.cells #[.int .i64 0, .int .u64 0, .int .u64 0, .int .u64 0, .int .u64 0, .int .u64 0, .int .u64 0] 31)).alloc (.cells #[.int .u64 0, .int .u64 0, .int .u64 0, .int .u64 0, .int .u64 0, .int .u64 0] 130) = w1 at *
  generalize w.heap.size + 1 = X at *
  generalize hK : w.heap.size = R at *
  have h1 : Sl w1 A (2 * n) (fun j => .int .u64 (g j)) := h.below B (Nat.le_of_eq hK)
  obtain ⟨m, hm1, hm2, hm3⟩ : ∃ m, m ≤ n ∧ m ≤ 3 ∧ (n ≤ m ∨ 3 ≤ m) := ⟨min n 3, by omega, by omega, by omega⟩
  have hz : ∀ q, q < 6 → w1.cell? ⟨X, q, none⟩ = some (.int .u64 0) := fun q hq => by
    rcases q with _ | _ | _ | _ | _ | _ | q
    · exact CX.2.1 0 _ rfl
    · exact CX.2.1 1 _ rfl
    · exact CX.2.1 2 _ rfl
    · exact CX.2.1 3 _ rfl
    · exact CX.2.1 4 _ rfl
    · exact CX.2.1 5 _ rfl
    · omega
  have hmm : Nat.min n 3 = m := by
    show min n 3 = m
    omega
  obtain ⟨cs, hcs⟩ : ∃ cs, cs = (List.range (2 * m)).map (fun j => Value.int .u64 (g j)) := ⟨_, rfl⟩
  have hcl : cs.length = m * 2 := by rw [hcs]; simp; omega
  have hcopy : (Builtin.copy_ #[93, 93] 3 #[.slice (some ⟨X, 0, none⟩) 3 3, .slice A n c]).run Tryz.prog w1 = .ok (goInt m) (w1.setCells X 0 cs) := by
    rcases Nat.eq_zero_or_pos m with h0 | h0
    · have hc0 : cs = [] := List.length_eq_zero_iff.1 (by omega)
      rw [hc0, run_copy_none2 w1 93 93 3 29 _ _ 3 3 n c Tryz.underlying93 (by kernel_rfl) (by rw [hmm, h0]), h0]
      rfl
    · obtain ⟨b, off, rfl, hbl, hcell⟩ := h1 (by omega)
      rw [run_copy2 w1 93 93 3 29 X 0 3 3 ⟨b, off, none⟩ n c cs Tryz.underlying93 (by kernel_rfl) (by rw [hmm, hcl]) (fun j v hj => ?_) (fun j hj => ?_) (fun j _ => CX.2.2 _) (fun v hv => ?_), hmm]
      · rw [add_plain]
        have hjl : j < 2 * m := by
          have := (List.getElem?_eq_some_iff.1 hj).1
          omega
        rw [hcs] at hj
        simp [hjl] at hj
        rw [hcell j (by omega), ← hj]
      · have hj6 : j < 6 := by omega
        rw [Nat.zero_add]
        rw [hz j hj6]
        rfl
      · rw [hcs] at hv
        simp at hv
        obtain ⟨_, _, rfl⟩ := hv
        rfl
  have hcx : ∀ q, q < 6 → (w1.setCells X 0 cs).cell? ⟨X, q, none⟩ = some (.int .u64 (if q < 2 * m then g q else 0)) := fun q hq => by
    by_cases h2 : q < 2 * m
    · have := World.cell?_setCells_in X cs 0 w1 (fun j hj => by
        rw [Nat.zero_add]
        have hj6 : j < 6 := by omega
        rw [hz j hj6]
        rfl) q (by omega)
      rw [Nat.zero_add] at this
      rw [this, if_pos h2]
      simp [hcs]
    · rw [World.cell?_setCells_out X cs 0 w1 _ (fun _ _ => .inr (by rw [hcl]; show 0 + m * 2 ≤ q; omega)), hz q hq, if_neg h2]
  have hbs := keeps_setCells X cs 0 w1 X (Nat.le_refl X)
  have HC := hid hcopy
  clear hcs hcl hmm hcopy
  generalize hws : w1.setCells X 0 cs = w2 at *
  have hcopy := HC.out
  clear HC hws
  have kk : ∀ i, i < 3 → (if 2 * i < 2 * m then g (2 * i) else 0) = (kAt n g i).a ∧ (if 2 * i + 1 < 2 * m then g (2 * i + 1) else 0) = (kAt n g i).b := fun i hi => by
    unfold kAt
    by_cases hin : i < n
    · rw [if_pos hin, if_pos (by omega), if_pos (by omega)]
      exact ⟨rfl, rfl⟩
    · rw [if_neg hin, if_neg (by omega), if_neg (by omega)]
      exact ⟨rfl, rfl⟩
  have x0 := hcx 0 (by omega)
  have x1 := hcx 1 (by omega)
  have x2 := hcx 2 (by omega)
  have x3 := hcx 3 (by omega)
  have x4 := hcx 4 (by omega)
  have x5 := hcx 5 (by omega)
  rw [show (if 0 < 2 * m then g 0 else 0) = (kAt n g 0).a from (kk 0 (by omega)).1] at x0
  rw [show (if 1 < 2 * m then g 1 else 0) = (kAt n g 0).b from (kk 0 (by omega)).2] at x1
  rw [show (if 2 < 2 * m then g 2 else 0) = (kAt n g 1).a from (kk 1 (by omega)).1] at x2
  rw [show (if 3 < 2 * m then g 3 else 0) = (kAt n g 1).b from (kk 1 (by omega)).2] at x3
  rw [show (if 4 < 2 * m then g 4 else 0) = (kAt n g 2).a from (kk 2 (by omega)).1] at x4
  rw [show (if 5 < 2 * m then g 5 else 0) = (kAt n g 2).b from (kk 2 (by omega)).2] at x5
  obtain ⟨kR, qR, zR⟩ := CR
  have hRX : R < X := by omega
  have cR0 := (hbs.cell (p := ⟨R, 0, none⟩) hRX).trans (qR 0 _ rfl)
  have fR0 := (World.frozen?_of_block (a := ⟨R, 0, none⟩) (hbs.block R hRX)).trans (zR 0)
  have cR1 := (hbs.cell (p := ⟨R, 1, none⟩) hRX).trans (qR 1 _ rfl)
  have fR1 := (World.frozen?_of_block (a := ⟨R, 1, none⟩) (hbs.block R hRX)).trans (zR 1)
  have cR2 := (hbs.cell (p := ⟨R, 2, none⟩) hRX).trans (qR 2 _ rfl)
  have fR2 := (World.frozen?_of_block (a := ⟨R, 2, none⟩) (hbs.block R hRX)).trans (zR 2)
  have cR3 := (hbs.cell (p := ⟨R, 3, none⟩) hRX).trans (qR 3 _ rfl)
  have fR3 := (World.frozen?_of_block (a := ⟨R, 3, none⟩) (hbs.block R hRX)).trans (zR 3)
  have cR4 := (hbs.cell (p := ⟨R, 4, none⟩) hRX).trans (qR 4 _ rfl)
  have fR4 := (World.frozen?_of_block (a := ⟨R, 4, none⟩) (hbs.block R hRX)).trans (zR 4)
  have cR5 := (hbs.cell (p := ⟨R, 5, none⟩) hRX).trans (qR 5 _ rfl)
  have fR5 := (World.frozen?_of_block (a := ⟨R, 5, none⟩) (hbs.block R hRX)).trans (zR 5)
  have cR6 := (hbs.cell (p := ⟨R, 6, none⟩) hRX).trans (qR 6 _ rfl)
  have fR6 := (World.frozen?_of_block (a := ⟨R, 6, none⟩) (hbs.block R hRX)).trans (zR 6)
  have hbf : Below R w w2 := B.trans (hbs.mono (by omega))
  clear hcx kk h1 qR zR h B hbs CX hz
  go_wp2_with fail
  refine bodyPost_ret (by simp [results, Tryz.results86, go_sem, cR0, cR1, cR2, cR3, cR4, cR5, cR6]) rfl ⟨rfl, ?_⟩
  try rw [hK]
  repeat' (first | with_reducible exact hbf | refine Below.setCell ?_ (Nat.le_refl R) _)

end Go.Proofs.YteefhiniamajkaaGreat
namespace Go.Proofs.YteefhiniamajkaaGreat
set_option linter.unusedVariables false
set_option linter.unusedSimpArgs false
open Go.RowKit Go.ChangeShapes Go.WideShapes Go.ChangeAt
theorem next_any (r : Rg) (k : Ky) (hr : Ep r.e) (w : World) :
    Calls Tryz.prog 78 #[rgV r, kyV k] w fun e' w' => e' = .returned (rgV ⟨r.e + 1, r.c, r.n, k⟩) ∧ Below w.heap.size w w' := by
  obtain ⟨hr1, hr2⟩ := hr
  have q2 : IntKind.i64.wrap (r.e + 1) = r.e + 1 := IntWalk.i64_in _ (by omega)
  unfold rgV kyV
  go_enter Tryz.func78, Tryz.ntmps78
  go_wp2_with fail
  have dA : w.heap.size + 1 + 1 ≠ w.heap.size := by omega
  have dK : w.heap.size + 1 + 1 ≠ w.heap.size + 1 := by omega
  have lR : w.heap.size ≤ w.heap.size + 1 + 1 := by omega
  have CA := Ce.made (w := w) (l := [.int .i64 r.e, .int .u64 r.p.a, .int .u64 r.p.b, .int .u64 r.c.a, .int .u64 r.c.b, .int .u64 r.n.a, .int .u64 r.n.b]) (T := 31) (g := w.heap.size) rfl
  replace CA := CA.alloc (.cells #[.int .u64 k.a, .int .u64 k.b] 29)
  have CK := Ce.made (w := (w.alloc (.cells #[.int .i64 r.e, .int .u64 r.p.a, .int .u64 r.p.b, .int .u64 r.c.a, .int .u64 r.c.b, .int .u64 r.n.a, .int .u64 r.n.b] 31))) (l := [.int .u64 k.a, .int .u64 k.b]) (T := 29) (g := w.heap.size + 1) (by simp)
  replace CA := CA.alloc (.cells #[.int .i64 0, .int .u64 0, .int .u64 0, .int .u64 0, .int .u64 0, .int .u64 0, .int .u64 0] 31)
  replace CK := CK.alloc (.cells #[.int .i64 0, .int .u64 0, .int .u64 0, .int .u64 0, .int .u64 0, .int .u64 0, .int .u64 0] 31)
  have CR := Ce.made (w := ((w.alloc (.cells #[.int .i64 r.e, .int .u64 r.p.a, .int .u64 r.p.b, .int .u64 r.c.a, .int .u64 r.c.b, .int .u64 r.n.a, .int .u64 r.n.b] 31)).alloc (.cells #[.int .u64 k.a, .int .u64 k.b] 29))) (l := [.int .i64 0, .int .u64 0, .int .u64 0, .int .u64 0, .int .u64 0, .int .u64 0, .int .u64 0]) (T := 31) (g := w.heap.size + 1 + 1) (by simp)
  replace CA := CA.alloc (.cells #[.int .u64 r.c.a, .int .u64 r.c.b, .int .u64 r.n.a, .int .u64 r.n.b, .int .u64 k.a, .int .u64 k.b] 29)
  replace CK := CK.alloc (.cells #[.int .u64 r.c.a, .int .u64 r.c.b, .int .u64 r.n.a, .int .u64 r.n.b, .int .u64 k.a, .int .u64 k.b] 29)
  replace CR := CR.alloc (.cells #[.int .u64 r.c.a, .int .u64 r.c.b, .int .u64 r.n.a, .int .u64 r.n.b, .int .u64 k.a, .int .u64 k.b] 29)
  have CX := Ce.made (w := (((w.alloc (.cells #[.int .i64 r.e, .int .u64 r.p.a, .int .u64 r.p.b, .int .u64 r.c.a, .int .u64 r.c.b, .int .u64 r.n.a, .int .u64 r.n.b] 31)).alloc (.cells #[.int .u64 k.a, .int .u64 k.b] 29)).alloc (.cells #[.int .i64 0, .int .u64 0, .int .u64 0, .int .u64 0, .int .u64 0, .int .u64 0, .int .u64 0] 31))) (l := [.int .u64 r.c.a, .int .u64 r.c.b, .int .u64 r.n.a, .int .u64 r.n.b, .int .u64 k.a, .int .u64 k.b]) (T := 29) (g := w.heap.size + 1 + 1 + 1) (by simp)
  have B : Below w.heap.size w ((((w.alloc (.cells #[.int .i64 r.e, .int .u64 r.p.a, .int .u64 r.p.b, .int .u64 r.c.a, .int .u64 r.c.b, .int .u64 r.n.a, .int .u64 r.n.b] 31)).alloc (.cells #[.int .u64 k.a, .int .u64 k.b] 29)).alloc (.cells #[.int .i64 0, .int .u64 0, .int .u64 0, .int .u64 0, .int .u64 0, .int .u64 0, .int .u64 0] 31)).alloc (.cells #[.int .u64 r.c.a, .int .u64 r.c.b, .int .u64 r.n.a, .int .u64 r.n.b, .int .u64 k.a, .int .u64 k.b] 29)) := (((((Below.refl w.heap.size w).alloc (by first | exact Nat.le_refl _ | (simp; done) | (simp; omega)) (.cells #[.int .i64 r.e, .int .u64 r.p.a, .int .u64 r.p.b, .int .u64 r.c.a, .int .u64 r.c.b, .int .u64 r.n.a, .int .u64 r.n.b] 31)).alloc (by first | exact Nat.le_refl _ | (simp; done) | (simp; omega)) (.cells #[.int .u64 k.a, .int .u64 k.b] 29)).alloc (by first | exact Nat.le_refl _ | (simp; done) | (simp; omega)) (.cells #[.int .i64 0, .int .u64 0, .int .u64 0, .int .u64 0, .int .u64 0, .int .u64 0, .int .u64 0] 31)).alloc (by first | exact Nat.le_refl _ | (simp; done) | (simp; omega)) (.cells #[.int .u64 r.c.a, .int .u64 r.c.b, .int .u64 r.n.a, .int .u64 r.n.b, .int .u64 k.a, .int .u64 k.b] 29))
  generalize (((w.alloc (.cells #[.int .i64 r.e, .int .u64 r.p.a, .int .u64 r.p.b, .int .u64 r.c.a, .int .u64 r.c.b, .int .u64 r.n.a, .int .u64 r.n.b] 31)).alloc (.cells #[.int .u64 k.a, .int .u64 k.b] 29)).alloc (.cells #[.int .i64 0, .int .u64 0, .int .u64 0, .int .u64 0, .int .u64 0, .int .u64 0, .int .u64 0] 31)).alloc (.cells #[.int .u64 r.c.a, .int .u64 r.c.b, .int .u64 r.n.a, .int .u64 r.n.b, .int .u64 k.a, .int .u64 k.b] 29) = w1 at *
  generalize w.heap.size + 1 + 1 + 1 = X at *
  generalize w.heap.size + 1 + 1 = R at *
  generalize w.heap.size + 1 = K at *
  generalize hK : w.heap.size = A at *
  refine (re_v (cring_any (r.e + 1) (some ⟨X, 0, none⟩) 3 3 _ w1 (Ce.slu [r.c.a, r.c.b, r.n.a, r.n.b, k.a, k.b] CX) (by omega)) (b := .agg #[.int .i64 (r.e + 1), .int .u64 r.c.a, .int .u64 r.c.b, .int .u64 r.n.a, .int .u64 r.n.b, .int .u64 k.a, .int .u64 k.b]) rfl).mono ?_
  rintro e' w2 ⟨rfl, hb⟩
  replace B := B.trans (hb.mono (Nat.le_of_lt CA.1))
  replace CR := CR.below hb
  clear CA CK CX hb
  have fR0 := CR.2.2 0
  have fR1 := CR.2.2 1
  have fR2 := CR.2.2 2
  have fR3 := CR.2.2 3
  have fR4 := CR.2.2 4
  have fR5 := CR.2.2 5
  have fR6 := CR.2.2 6
  obtain ⟨kR, qR, zR⟩ := id CR
  have cR0 := qR 0 _ rfl
  have cR1 := qR 1 _ rfl
  have cR2 := qR 2 _ rfl
  have cR3 := qR 3 _ rfl
  have cR4 := qR 4 _ rfl
  have cR5 := qR 5 _ rfl
  have cR6 := qR 6 _ rfl
  clear qR zR
  go_wp2_with fail
  refine bodyPost_ret (by simp [results, Tryz.results78, go_sem, cR0, cR1, cR2, cR3, cR4, cR5, cR6]) rfl ⟨rfl, ?_⟩
  try rw [hK]
  repeat' (first | with_reducible exact B | refine Below.setCell ?_ (by first | exact Nat.le_refl _ | omega) _)
theorem rnext_any (r : Rg) (k : Ky) (hr : Ep r.e) (w : World) :
    Calls Tryz.prog 53 #[rgV r, kyV k] w fun e' w' => e' = .returned (rgV ⟨r.e + 1, r.c, r.n, k⟩) ∧ Below w.heap.size w w' := by
  obtain ⟨hr1, hr2⟩ := hr
  have q2 : IntKind.i64.wrap (r.e + 1) = r.e + 1 := IntWalk.i64_in _ (by omega)
  unfold rgV kyV
  go_enter Tryz.func53, Tryz.ntmps53
  go_wp2_with fail
  refine bodyPost_ret (by simp [results, Tryz.results53, go_sem]) rfl ⟨rfl, ?_⟩
  repeat' (first | with_reducible exact Below.refl _ _ | with_reducible refine Below.drew ?_ | with_reducible refine Below.alloc ?_ ?_ _ | with_reducible refine Below.setCell ?_ ?_ _ | (simp; done) | (simp; omega))

end Go.Proofs.YteefhiniamajkaaGreat
namespace Go.Proofs.YteefhiniamajkaaGreat
set_option linter.unusedVariables false
set_option linter.unusedSimpArgs false
open Go.RowKit Go.ChangeShapes Go.WideShapes Go.ChangeAt

structure Sp where
  st : Int
  ad : Int
  po : Int
  we : Int
  si : Int
structure Pl where
  v : Int
  a : Int
  p : Int
  s : Nat → Sp
  r : Rg
structure En where
  k : Int
  s : Int
  a : Int
  p : Int
  w : Int
  y : Ky
def spc (s : Sp) (k : Nat) : Value := match k with | 0 => .int .i64 s.st | 1 => .int .i64 s.ad | 2 => .int .i64 s.po | 3 => .int .i64 s.we | _ => .int .i64 s.si
def rgc (r : Rg) (k : Nat) : Value := match k with | 0 => .int .i64 r.e | 1 => .int .u64 r.p.a | 2 => .int .u64 r.p.b | 3 => .int .u64 r.c.a | 4 => .int .u64 r.c.b | 5 => .int .u64 r.n.a | _ => .int .u64 r.n.b
def pc (p : Pl) (j : Nat) : Value := if j < 3 then (if j = 0 then .int .i64 p.v else if j = 1 then .int .i64 p.a else .int .i64 p.p) else if j < 323 then spc (p.s ((j - 3) / 5)) ((j - 3) % 5) else rgc p.r (j - 323)
def PL (p : Pl) : List Value := (List.range 330).map (pc p)
def PA (p : Pl) : Array Value := (PL p).toArray
def SL (f : Nat → Sp) : List Value := (List.range 320).map fun j => spc (f (j / 5)) (j % 5)
def SA (f : Nat → Sp) : Array Value := (SL f).toArray
def plV (p : Pl) : Value := .agg (PA p)
def spV (s : Sp) : Value := .agg #[.int .i64 s.st, .int .i64 s.ad, .int .i64 s.po, .int .i64 s.we, .int .i64 s.si]
def enV (e : En) : Value := .agg #[.int .i64 e.k, .int .i64 e.s, .int .i64 e.a, .int .i64 e.p, .int .i64 e.w, .int .u64 e.y.a, .int .u64 e.y.b]
def zKy : Ky := ⟨0, 0⟩
def zSp : Sp := ⟨0, 0, 0, 0, 0⟩
def zRg : Rg := ⟨0, zKy, zKy, zKy⟩
def zPl : Pl := ⟨0, 0, 0, fun _ => zSp, zRg⟩
theorem pl_len (p : Pl) : (PL p).length = 330 := by unfold PL; simp
theorem pa_size (p : Pl) : (PA p).size = 330 := by unfold PA; simp [pl_len]
theorem pl_at (p : Pl) (j : Nat) (h : j < 330) : (PL p)[j]? = some (pc p j) := by unfold PL; simp [h]
theorem pa_at (p : Pl) (j : Nat) (h : j < 330) : (PA p)[j]? = some (pc p j) := by unfold PA; simp [pl_at p j h]
theorem sl_len (f : Nat → Sp) : (SL f).length = 320 := by unfold SL; simp
theorem sl_at (f : Nat → Sp) (j : Nat) (h : j < 320) : (SL f)[j]? = some (spc (f (j / 5)) (j % 5)) := by unfold SL; simp [h]
theorem pa_ne (p : Pl) : (PA p = #[]) = False := by
  refine eq_false fun h => ?_
  have := pa_size p
  rw [h] at this
  cases this
theorem spc_one (s : Sp) (k : Nat) : (spc s k).oneCell' = true := by unfold spc; split <;> rfl
theorem rgc_one (r : Rg) (k : Nat) : (rgc r k).oneCell' = true := by unfold rgc; split <;> rfl
theorem pc_one (p : Pl) (j : Nat) : (pc p j).oneCell' = true := by
  unfold pc
  split
  · split
    · rfl
    · split <;> rfl
  · split
    · exact spc_one _ _
    · exact rgc_one _ _
theorem pa_one (p : Pl) : (PA p).all (·.oneCell') = true := by
  unfold PA
  refine all_oneCell_toArray fun v hv => ?_
  unfold PL at hv
  simp only [List.mem_map] at hv
  obtain ⟨j, _, rfl⟩ := hv
  exact pc_one p j
theorem pc_slot (p : Pl) (i k : Nat) (hi : i < 64) (hk : k < 5) : pc p (3 + i * 5 + k) = spc (p.s i) k := by
  unfold pc
  rw [if_neg (by omega), if_pos (by omega), show (3 + i * 5 + k - 3) / 5 = i by omega, show (3 + i * 5 + k - 3) % 5 = k by omega]
theorem pc_ring (p : Pl) (k : Nat) (hk : k < 7) : pc p (323 + k) = rgc p.r k := by
  unfold pc
  rw [if_neg (by omega), if_neg (by omega), show 323 + k - 323 = k by omega]
def setS (f : Nat → Sp) (i : Nat) (s : Sp) : Nat → Sp := fun j => if j = i then s else f j
/-- Block b is a pool, that may be written. -/
def PoolAt (w : World) (b : Nat) (p : Pl) : Prop := b < w.heap.size ∧ (∀ j, j < 330 → w.cell? ⟨b, j, none⟩ = some (pc p j)) ∧ ∀ j, w.frozen? ⟨b, j, none⟩ = false
section
variable {w w' : World} {b : Nat} {p : Pl}
theorem PoolAt.below (h : PoolAt w b p) (hb : Below w.heap.size w w') : PoolAt w' b p :=
  ⟨Nat.lt_of_lt_of_le h.1 hb.size, fun j hj => (hb.cell (p := ⟨b, j, none⟩) h.1).trans (h.2.1 j hj), fun j => (World.frozen?_of_block (a := ⟨b, j, none⟩) (hb.block b h.1)).trans (h.2.2 j)⟩
theorem PoolAt.alloc (h : PoolAt w b p) (o : Obj) : PoolAt (w.alloc o) b p := h.below ((Below.refl _ _).alloc (Nat.le_refl _) o)
theorem PoolAt.drewN (h : PoolAt w b p) (k : Nat) : PoolAt (w.drewN k) b p := h
theorem PoolAt.drew (h : PoolAt w b p) : PoolAt w.drew b p := h
theorem PoolAt.grown {row : Option Nat} (h : PoolAt w b p) (hg : w.grownBy w' row) (hne : row ≠ some b) : PoolAt w' b p :=
  have hb := hg.block b h.1 (fun e => hne e.symm)
  ⟨Nat.lt_of_lt_of_le h.1 hg.size, fun j hj => (World.cell?_of_block (a := ⟨b, j, none⟩) hb).trans (h.2.1 j hj), fun j => (World.frozen?_of_block (a := ⟨b, j, none⟩) hb).trans (h.2.2 j)⟩
theorem PoolAt.made {T : TypeId} {g : Nat} (hg : w.heap.size = g) : PoolAt (w.alloc (.cells (PA p) T)) g p := by
  subst hg
  have h : (w.alloc (.cells (PA p) T)).heap[w.heap.size]? = some (.cells (PA p) T (0, 0)) := heap_alloc_new w _
  refine ⟨by simp, fun j hj => ?_, fun j => frozen_of_row _ _ _ _ _ h⟩
  rw [cell_of_row _ w.heap.size j _ T (0, 0) h, pa_at p j hj]
theorem PoolAt.other (h : PoolAt w b p) {c j : Nat} {v : Value} (hne : c ≠ b) : PoolAt (w.setCell ⟨c, j, none⟩ v) b p :=
  ⟨by simpa using h.1, fun i hi => by rw [World.cell?_setCell_other _ _ _ _ (fun e => hne (by cases e; rfl))]; exact h.2.1 i hi, fun i => by rw [World.frozen?_setCell]; exact h.2.2 i⟩
theorem PoolAt.others (h : PoolAt w b p) {c o : Nat} {vs : List Value} (hne : c ≠ b) : PoolAt (w.setCells c o vs) b p := by
  refine ⟨?_, fun i hi => ?_, fun i => by rw [World.frozen?_setCells]; exact h.2.2 i⟩
  · have := h.2.1 0 (by omega)
    have h2 : (w.setCells c o vs).cell? ⟨b, 0, none⟩ = some (pc p 0) := by rw [World.cell?_setCells_out c vs o w _ (fun e _ => absurd e.symm hne)]; exact this
    exact World.block_lt_of_cell? _ _ h2
  · rw [World.cell?_setCells_out c vs o w _ (fun e _ => absurd e.symm hne)]; exact h.2.1 i hi
/-- Cells from o on, so many, are written: the block is what the new ones make. -/
theorem PoolAt.set (h : PoolAt w b p) (q : Pl) (o : Nat) (vs : List Value) (ho : o + vs.length ≤ 330) (hin : ∀ j (hj : j < vs.length), vs[j] = pc q (o + j)) (hout : ∀ j, j < 330 → j < o ∨ o + vs.length ≤ j → pc q j = pc p j) :
    PoolAt (w.setCells b o vs) b q := by
  have hc : ∀ j, j < 330 → (w.setCells b o vs).cell? ⟨b, j, none⟩ = some (pc q j) := by
    intro j hj
    by_cases hjo : o ≤ j ∧ j < o + vs.length
    · have := World.cell?_setCells_in b vs o w (fun i hi => by rw [h.2.1 (o + i) (by omega)]; rfl) (j - o) (by omega)
      rw [show o + (j - o) = j by omega] at this
      rw [this, hin (j - o) (by omega), show o + (j - o) = j by omega]
    · rw [World.cell?_setCells_out b vs o w _ (fun _ _ => by simp only; omega), h.2.1 j hj, hout j hj (by omega)]
  exact ⟨World.block_lt_of_cell? _ _ (hc 0 (by omega)), hc, fun i => by rw [World.frozen?_setCells]; exact h.2.2 i⟩
theorem PoolAt.whole (h : PoolAt w b p) (q : Pl) : PoolAt (w.setCells b 0 (PA q).toList) b q := by
  have e : (PA q).toList = PL q := rfl
  rw [e]
  refine h.set q 0 (PL q) (by rw [pl_len]; omega) (fun j hj => ?_) (fun j hj ho => ?_)
  · have hj' := hj
    rw [pl_len] at hj'
    have := pl_at q j hj'
    rw [List.getElem?_eq_getElem hj] at this
    rw [Nat.zero_add]
    exact Option.some.inj this
  · rw [pl_len] at ho; omega
theorem PoolAt.ver (h : PoolAt w b p) (v : Int) : PoolAt (w.setCell ⟨b, 0, none⟩ (.int .i64 v)) b { p with v := v } := by
  refine h.set { p with v := v } 0 [.int .i64 v] (by simp) (fun j hj => ?_) (fun j hj ho => ?_)
  · have : j = 0 := by simp at hj; omega
    subst this; rfl
  · simp only [List.length_singleton] at ho
    unfold pc
    by_cases h3 : j < 3
    · have h0 : j ≠ 0 := by omega
      simp only [h3, h0, if_true, if_false]
    · simp only [h3, if_false]
theorem PoolAt.slot (h : PoolAt w b p) (i : Nat) (hi : i < 64) (s : Sp) : PoolAt (w.setCells b (3 + i * 5) [.int .i64 s.st, .int .i64 s.ad, .int .i64 s.po, .int .i64 s.we, .int .i64 s.si]) b { p with s := setS p.s i s } := by
  refine h.set { p with s := setS p.s i s } _ _ (by simp; omega) (fun j hj => ?_) (fun j hj ho => ?_)
  · have h5 : j < 5 := by simpa using hj
    rw [pc_slot _ i j hi h5]
    unfold setS
    simp only [if_true]
    rcases j with _ | _ | _ | _ | _ | j
    · rfl
    · rfl
    · rfl
    · rfl
    · rfl
    · omega
  · simp only [List.length_cons, List.length_nil] at ho
    unfold pc
    by_cases h3 : j < 3
    · rw [if_pos h3, if_pos h3]
    · rw [if_neg h3, if_neg h3]
      by_cases h4 : j < 323
      · rw [if_pos h4, if_pos h4]
        unfold setS
        simp only
        rw [if_neg (by omega)]
      · rw [if_neg h4, if_neg h4]
theorem PoolAt.ring (h : PoolAt w b p) (r : Rg) : PoolAt (w.setCells b 323 [.int .i64 r.e, .int .u64 r.p.a, .int .u64 r.p.b, .int .u64 r.c.a, .int .u64 r.c.b, .int .u64 r.n.a, .int .u64 r.n.b]) b { p with r := r } := by
  refine h.set { p with r := r } _ _ (by simp) (fun j hj => ?_) (fun j hj ho => ?_)
  · have h5 : j < 7 := by simpa using hj
    rw [pc_ring _ j h5]
    rcases j with _ | _ | _ | _ | _ | _ | _ | j
    · rfl
    · rfl
    · rfl
    · rfl
    · rfl
    · rfl
    · rfl
    · omega
  · simp only [List.length_cons, List.length_nil] at ho
    unfold pc
    by_cases h3 : j < 3
    · rw [if_pos h3, if_pos h3]
    · rw [if_neg h3, if_neg h3, if_pos (by omega), if_pos (by omega)]
theorem PoolAt.c0 (h : PoolAt w b p) : w.cell? ⟨b, 0, none⟩ = some (.int .i64 p.v) := h.2.1 0 (by omega)
theorem PoolAt.c1 (h : PoolAt w b p) : w.cell? ⟨b, 1, none⟩ = some (.int .i64 p.a) := h.2.1 1 (by omega)
theorem PoolAt.c2 (h : PoolAt w b p) : w.cell? ⟨b, 2, none⟩ = some (.int .i64 p.p) := h.2.1 2 (by omega)
theorem PoolAt.cs (h : PoolAt w b p) (i k : Nat) (hi : i < 64) (hk : k < 5) : w.cell? ⟨b, 3 + i * 5 + k, none⟩ = some (spc (p.s i) k) := by rw [h.2.1 _ (by omega), pc_slot p i k hi hk]
theorem PoolAt.cr (h : PoolAt w b p) (k : Nat) (hk : k < 7) : w.cell? ⟨b, 323 + k, none⟩ = some (rgc p.r k) := by rw [h.2.1 _ (by omega), pc_ring p k hk]
theorem PoolAt.load (h : PoolAt w b p) : (Instr.loadAt 33 (.pointer (some ⟨b, 0, none⟩))).run Tryz.prog w = .ok (plV p) w := by
  refine run_loadAt_mid w b 0 33 (PL p) _ (fun j v hj => ?_) Tryz.underlying33 rfl ?_
  · have hl : j < 330 := by
      have := (List.getElem?_eq_some_iff.1 hj).1
      rwa [pl_len] at this
    rw [pl_at p j hl] at hj
    rw [Nat.zero_add, h.2.1 j hl, hj]
  · rw [pl_len]; kernel_rfl
theorem PoolAt.loadS (h : PoolAt w b p) : (Instr.loadAt 26 (.pointer (some ⟨b, 3, none⟩))).run Tryz.prog w = .ok (.agg (SA p.s)) w := by
  refine run_loadAt_mid w b 3 26 (SL p.s) _ (fun j v hj => ?_) Tryz.underlying26 rfl ?_
  · have hl : j < 320 := by
      have := (List.getElem?_eq_some_iff.1 hj).1
      rwa [sl_len] at this
    rw [sl_at p.s j hl] at hj
    have h1 := h.cs (j / 5) (j % 5) (by omega) (by omega)
    rw [show 3 + j / 5 * 5 + j % 5 = 3 + j by omega] at h1
    rw [h1, hj]
  · rw [sl_len]; kernel_rfl
theorem PoolAt.store (h : PoolAt w b p) (q : Pl) : (Instr.storeAt 33 (.pointer (some ⟨b, 0, none⟩)) (plV q)).run Tryz.prog w = .ok () (w.setCells b 0 (PA q).toList) := by
  refine run_storeAt_mid w b 0 33 (PA q) (fun j hj => ?_) ?_ (pa_one q)
  · rw [pa_size] at hj
    rw [Nat.zero_add, h.2.1 j hj]
    exact ⟨rfl, h.2.2 j⟩
  · rw [pa_size]; kernel_rfl
end
theorem zero_pl (w : World) : (zeroValue 33).run Tryz.prog w = .ok (plV zPl) w := by kernel_rfl
theorem build_z (w : World) : (Instr.build 33 #[]).run Tryz.prog w = .ok (plV zPl) w := run_build w _ _ _ (by kernel_rfl)
theorem build_pl (a p : Int) (r : Rg) (w : World) : (Instr.build 33 #[(1, .int .i64 a), (2, .int .i64 p), (4, rgV r)]).run Tryz.prog w = .ok (plV ⟨0, a, p, fun _ => zSp, r⟩) w := run_build w _ _ _ (by kernel_rfl)
theorem index_sl (f : Nat → Sp) (i : Nat) (hi : i < 64) (w : World) : (Instr.index 26 (.agg (SA f)) (.int .i64 (i : Int))).run Tryz.prog w = .ok (spV (f i)) w := by
  have hagg : (isAgg 25).run Tryz.prog w = .ok true w := by kernel_rfl
  have hsz : (sizeOf 25).run Tryz.prog w = .ok 5 w := by kernel_rfl
  have hx : (SA f).extract (i * 5) (i * 5 + 5) = #[.int .i64 (f i).st, .int .i64 (f i).ad, .int .i64 (f i).po, .int .i64 (f i).we, .int .i64 (f i).si] := by
    apply Array.ext
    · unfold SA; simp [sl_len]; omega
    · intro k h1 h2
      have hk : k < 5 := by simpa using h2
      have hs : (SA f).size = 320 := by unfold SA; simp [sl_len]
      rw [Array.getElem_extract]
      have : (SA f)[i * 5 + k]? = some (spc (f i) k) := by
        unfold SA
        rw [List.getElem?_toArray, sl_at f _ (by omega), show (i * 5 + k) / 5 = i by omega, show (i * 5 + k) % 5 = k by omega]
      rw [Array.getElem?_eq_getElem (by omega)] at this
      rw [Option.some.inj this]
      rcases k with _ | _ | _ | _ | _ | k
      · rfl
      · rfl
      · rfl
      · rfl
      · rfl
      · omega
  have hu := run_underlying (P := Tryz.prog) Tryz.underlying26 w
  simp only [Instr.index, asIntOf, Sem.run_bind, Sem.run_pure, Result.andThen_ok, hu]
  rw [if_pos (by omega)]
  simp only [Sem.run_bind, hsz, Result.andThen_ok, part, hagg, if_true, Int.toNat_natCast, Sem.run_pure, hx]
  rfl
end Go.Proofs.YteefhiniamajkaaGreat
namespace Go.Proofs.YteefhiniamajkaaGreat
set_option linter.unusedVariables false
set_option linter.unusedSimpArgs false
open Go.RowKit Go.ChangeShapes Go.WideShapes Go.ChangeAt

section
variable {P : Program}
theorem run_equalIn_arr (w : World) (d : Nat) (t elem : TypeId) (len n : Nat) (xs : Array Value) (hu : P.underlying t = some (.array len elem)) (hs : (sizeOf elem).run P w = .ok n w) (f : Nat → Value)
    (hp : ∀ i, i < len → (part elem xs (i * n)).run P w = .ok (f i) w) (he : ∀ i, i < len → (Op.equalIn d elem (f i) (f i)).run P w = .ok true w) : (Op.equalIn (d + 1) t (.agg xs) (.agg xs)).run P w = .ok true w := by
  simp only [Op.equalIn, Sem.run_bind, run_underlying hu, Result.andThen_ok, hs]
  rw [Std.Legacy.Range.forIn_eq_forIn_range']
  have hl : ∀ j ∈ List.range' 0 len 1, j < len := fun j hj => by simp at hj; omega
  simp only [Std.Legacy.Range.size, Nat.sub_zero, Nat.add_sub_cancel, Nat.div_one]
  revert hl
  generalize List.range' 0 len 1 = l
  intro hl
  induction l with
  | nil => simp
  | cons j l ih =>
    have hj := hl j (List.mem_cons_self ..)
    simp only [List.forIn_cons, Sem.run_bind, hp j hj, Result.andThen_ok, he j hj, Bool.not_true, Bool.false_eq_true, if_false, Sem.run_pure]
    exact ih (fun i hi => hl i (List.mem_cons_of_mem _ hi))
end
theorem eq_sp (d : Nat) (s : Sp) (w : World) : (Op.equalIn (d + 3) 25 (spV s) (spV s)).run Tryz.prog w = .ok true w := by
  unfold spV
  simp [go_sem]
theorem eq_rg (d : Nat) (r : Rg) (w : World) : (Op.equalIn (d + 4) 31 (rgV r) (rgV r)).run Tryz.prog w = .ok true w := by
  unfold rgV
  simp [go_sem]
theorem part_sl (f : Nat → Sp) (i : Nat) (hi : i < 64) (w : World) : (part 25 (SA f) (i * 5)).run Tryz.prog w = .ok (spV (f i)) w := by
  have h := index_sl f i hi w
  have hu := run_underlying (P := Tryz.prog) Tryz.underlying26 w
  have hsz : (sizeOf 25).run Tryz.prog w = .ok 5 w := by kernel_rfl
  simp only [Instr.index, asIntOf, Sem.run_bind, Sem.run_pure, Result.andThen_ok, hu] at h
  rw [if_pos (by omega)] at h
  simpa only [Sem.run_bind, hsz, Result.andThen_ok, Int.toNat_natCast] using h
theorem eq_sl (d : Nat) (f : Nat → Sp) (w : World) : (Op.equalIn (d + 4) 26 (.agg (SA f)) (.agg (SA f))).run Tryz.prog w = .ok true w :=
  run_equalIn_arr w (d + 3) 26 25 64 5 (SA f) Tryz.underlying26 (by kernel_rfl) (fun i => spV (f i)) (fun i hi => part_sl f i hi w) (fun i _ => eq_sp d (f i) w)
theorem part_pl (p : Pl) (w : World) : (part 3 (PA p) 0).run Tryz.prog w = .ok (.int .i64 p.v) w ∧ (part 3 (PA p) 1).run Tryz.prog w = .ok (.int .i64 p.a) w ∧ (part 3 (PA p) 2).run Tryz.prog w = .ok (.int .i64 p.p) w ∧
    (part 26 (PA p) 3).run Tryz.prog w = .ok (.agg (SA p.s)) w ∧ (part 31 (PA p) 323).run Tryz.prog w = .ok (rgV p.r) w := by
  have ai : (isAgg 3).run Tryz.prog w = .ok false w := by kernel_rfl
  have aa : (isAgg 26).run Tryz.prog w = .ok true w := by kernel_rfl
  have ar : (isAgg 31).run Tryz.prog w = .ok true w := by kernel_rfl
  have sa : (sizeOf 26).run Tryz.prog w = .ok 320 w := by kernel_rfl
  have sr : (sizeOf 31).run Tryz.prog w = .ok 7 w := by kernel_rfl
  have e0 := pa_at p 0 (by omega)
  have e1 := pa_at p 1 (by omega)
  have e2 := pa_at p 2 (by omega)
  have hs := pa_size p
  have x1 : (PA p).extract 3 (3 + 320) = SA p.s := by
    apply Array.ext
    · simp [hs, SA, sl_len]
    · intro j h1 h2
      have hj : j < 320 := by simpa [SA, sl_len] using h2
      rw [Array.getElem_extract]
      have h3 := pa_at p (3 + j) (by omega)
      rw [Array.getElem?_eq_getElem (by omega)] at h3
      rw [Option.some.inj h3]
      have h4 : (SA p.s)[j]? = some (spc (p.s (j / 5)) (j % 5)) := by unfold SA; rw [List.getElem?_toArray, sl_at p.s j hj]
      rw [Array.getElem?_eq_getElem h2] at h4
      rw [Option.some.inj h4]
      have := pc_slot p (j / 5) (j % 5) (by omega) (by omega)
      rw [show 3 + j / 5 * 5 + j % 5 = 3 + j by omega] at this
      exact this
  have x2 : (PA p).extract 323 (323 + 7) = #[.int .i64 p.r.e, .int .u64 p.r.p.a, .int .u64 p.r.p.b, .int .u64 p.r.c.a, .int .u64 p.r.c.b, .int .u64 p.r.n.a, .int .u64 p.r.n.b] := by
    apply Array.ext
    · simp [hs]
    · intro j h1 h2
      have hj : j < 7 := by simpa using h2
      rw [Array.getElem_extract]
      have h3 := pa_at p (323 + j) (by omega)
      rw [Array.getElem?_eq_getElem (by omega)] at h3
      rw [Option.some.inj h3, pc_ring p j hj]
      rcases j with _ | _ | _ | _ | _ | _ | _ | j
      · rfl
      · rfl
      · rfl
      · rfl
      · rfl
      · rfl
      · rfl
      · omega
  refine ⟨?_, ?_, ?_, ?_, ?_⟩
  · simp only [part, Sem.run_bind, ai, Result.andThen_ok, Bool.false_eq_true, if_false, e0]; rfl
  · simp only [part, Sem.run_bind, ai, Result.andThen_ok, Bool.false_eq_true, if_false, e1]; rfl
  · simp only [part, Sem.run_bind, ai, Result.andThen_ok, Bool.false_eq_true, if_false, e2]; rfl
  · simp only [part, Sem.run_bind, aa, Result.andThen_ok, if_true, sa, x1, Sem.run_pure]
  · simp only [part, Sem.run_bind, ar, Result.andThen_ok, if_true, sr, x2, Sem.run_pure]; rfl
theorem eqF_step {P : Program} {w : World} {d : Nat} {xs ys : Array Value} {f : Field} {fs : List Field} {a b : Value} {r : Bool} (hn : f.name ≠ "_") (ha : (part f.type xs f.offset).run P w = .ok a w) (hb : (part f.type ys f.offset).run P w = .ok b w) (he : (Op.equalIn d f.type a b).run P w = .ok true w)
    (hr : (Op.eqFields d xs ys fs).run P w = .ok r w) : (Op.eqFields d xs ys (f :: fs)).run P w = .ok r w := by
  simp only [Op.eqFields]
  rw [if_pos hn]
  simp only [Sem.run_bind, ha, hb, he, Result.andThen_ok, Bool.not_true, Bool.false_eq_true, if_false]
  exact hr
theorem eq_pl (p : Pl) (w : World) : (Op.equalIn 10000 33 (.agg (PA p)) (.agg (PA p))).run Tryz.prog w = .ok true w := by
  obtain ⟨q0, q1, q2, q3, q4⟩ := part_pl p w
  have hu := Tryz.underlying33
  have hS : ∀ d, (Op.equalIn (d + 4) 26 (.agg (SA p.s)) (.agg (SA p.s))).run Tryz.prog w = .ok true w := fun d => eq_sl d p.s w
  have hR : ∀ d, (Op.equalIn (d + 4) 31 (rgV p.r) (rgV p.r)).run Tryz.prog w = .ok true w := fun d => eq_rg d p.r w
  have hS1 := hS 9995
  have hR1 := hR 9995
  have hi : ∀ x : Int, (Op.equalIn 9999 3 (.int .i64 x) (.int .i64 x)).run Tryz.prog w = .ok true w := fun x => by
    rw [run_equalIn_int w 9998 3 .i64 .i64 x x Tryz.underlying3, beq_self_eq_true]
  rw [run_equalIn_struct w 9999 33 (PA p) (PA p) (by unfold Program.fieldsOf; rw [hu]) (by kernel_rfl)]
  unfold Program.fieldsOf
  rw [hu]
  show (Op.eqFields 9999 (PA p) (PA p) (_ :: _ :: _ :: _ :: _ :: [])).run Tryz.prog w = .ok true w
  refine eqF_step (by decide) q0 q0 (hi _) ?_
  refine eqF_step (by decide) q1 q1 (hi _) ?_
  refine eqF_step (by decide) q2 q2 (hi _) ?_
  refine eqF_step (by decide) q3 q3 hS1 ?_
  refine eqF_step (by decide) q4 q4 hR1 ?_
  rfl
theorem eqg_pl (op : BinOp) (x y : Operand) (p q : Pl) (w : World) : (eqGuard op 33 x y (.agg (PA p)) (.agg (PA q))).run Tryz.prog w = .ok () w := run_eqGuard_agg w _ _ _ _ _ _ (by kernel_rfl)
/-- Two pools that are one: they are told to be the same. -/
theorem ex_eql {o : Oper} {f : Operand → Value} (x y : Operand) (ho : o.op = .binOp .eql 33 x y 33) (p : Pl) (hx : f x = .agg (PA p)) (hy : f y = .agg (PA p)) (w : World) : (execOp f o).run Tryz.prog w = .ok (.value (.bool true)) w := by
  unfold execOp
  simp only [ho, hx, hy, Sem.run_bind, eqg_pl, Result.andThen_ok, run_eql_struct, eq_pl, Sem.run_pure]
theorem ex_neql {o : Oper} {f : Operand → Value} (x y : Operand) (ho : o.op = .binOp .neq 33 x y 33) (p : Pl) (hx : f x = .agg (PA p)) (hy : f y = .agg (PA p)) (w : World) : (execOp f o).run Tryz.prog w = .ok (.value (.bool false)) w := by
  unfold execOp
  simp only [ho, hx, hy, Sem.run_bind, eqg_pl, Result.andThen_ok, run_neq_struct, eq_pl, Sem.run_pure]
  rfl
end Go.Proofs.YteefhiniamajkaaGreat
