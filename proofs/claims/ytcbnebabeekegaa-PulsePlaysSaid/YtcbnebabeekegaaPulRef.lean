/- The reference's pulse. -/
import Derived.Test.YtcbnebabeekegaaPulKnown
import Derived.BigQuiet
import Derived.Deep.RegionHeld3
import Derived.Deep.Cut
namespace Go.Proofs.Ytcbnebabeekegaa
set_option linter.unusedVariables false
set_option linter.unusedSimpArgs false
open Go.RowKit Go.ChangeShapes Go.WideShapes Go.ChangeAt

/-- told, up, when, row. -/
abbrev RS := Bool × Bool × Int × Int
def zRS : RS := (false, false, 0, 0)
/-- The reference's pulse at block p. -/
def RefAt (w : World) (p : Nat) (r f e : Int) (L : Int → RS) : Prop :=
  p < w.heap.size ∧ (∀ j, w.frozen? ⟨p, j, none⟩ = false) ∧ w.cell? ⟨p, 0, none⟩ = some (.int .i64 r) ∧ w.cell? ⟨p, 1, none⟩ = some (.int .i64 f) ∧ w.cell? ⟨p, 2, none⟩ = some (.int .i64 e) ∧
  ∀ i : Nat, i < 64 → w.cell? ⟨p, 3 + i * 4, none⟩ = some (.bool (L i).1) ∧ w.cell? ⟨p, 3 + i * 4 + 1, none⟩ = some (.bool (L i).2.1) ∧ w.cell? ⟨p, 3 + i * 4 + 2, none⟩ = some (.int .i64 (L i).2.2.1) ∧ w.cell? ⟨p, 3 + i * 4 + 3, none⟩ = some (.int .i64 (L i).2.2.2)
theorem RefAt.below {w w' : World} {p : Nat} {r f e : Int} {L : Int → RS} (h : RefAt w p r f e L) (hb : Below w.heap.size w w') : RefAt w' p r f e L := by
  obtain ⟨h1, h2, h3, h4, h5, h6⟩ := h
  have hc : ∀ j, w'.cell? ⟨p, j, none⟩ = w.cell? ⟨p, j, none⟩ := fun j => hb.cell (p := ⟨p, j, none⟩) h1
  have hf : ∀ j, w'.frozen? ⟨p, j, none⟩ = w.frozen? ⟨p, j, none⟩ := fun j => World.frozen?_of_block (a := ⟨p, j, none⟩) (hb.block p h1)
  exact ⟨Nat.lt_of_lt_of_le h1 hb.size, fun j => (hf j).trans (h2 j), (hc _).trans h3, (hc _).trans h4, (hc _).trans h5, fun i hi => ⟨(hc _).trans (h6 i hi).1, (hc _).trans (h6 i hi).2.1, (hc _).trans (h6 i hi).2.2.1, (hc _).trans (h6 i hi).2.2.2⟩⟩
theorem RefAt.grown {w w' : World} {p : Nat} {r f e : Int} {L : Int → RS} {row : Option Nat} (h : RefAt w p r f e L) (hb : w.grownBy w' row) (hne : row ≠ some p) : RefAt w' p r f e L := by
  obtain ⟨h1, h2, h3, h4, h5, h6⟩ := h
  have hk := hb.block p h1 (fun e => hne e.symm)
  have hc : ∀ j, w'.cell? ⟨p, j, none⟩ = w.cell? ⟨p, j, none⟩ := fun j => World.cell?_of_block (a := ⟨p, j, none⟩) hk
  have hf : ∀ j, w'.frozen? ⟨p, j, none⟩ = w.frozen? ⟨p, j, none⟩ := fun j => World.frozen?_of_block (a := ⟨p, j, none⟩) hk
  exact ⟨Nat.lt_of_lt_of_le h1 hb.size, fun j => (hf j).trans (h2 j), (hc _).trans h3, (hc _).trans h4, (hc _).trans h5, fun i hi => ⟨(hc _).trans (h6 i hi).1, (hc _).trans (h6 i hi).2.1, (hc _).trans (h6 i hi).2.2.1, (hc _).trans (h6 i hi).2.2.2⟩⟩
theorem ris_any (s : Int) (w : World) : Calls Try.prog 30 #[.int .i64 s] w fun e w' => e = .returned (.bool (isSl s)) ∧ w = w' := by
  unfold isSl
  cases h1 : decide (0 ≤ s) <;> cases h2 : decide (s < 64)
  all_goals
    go_enter Try.func30, Try.ntmps30
    go_wp2
    go_ret
    exact ⟨rfl, rfl⟩
def zc (j : Nat) : Value := if j < 3 then .int .i64 0 else if (j - 3) % 4 < 2 then .bool false else .int .i64 0
def Z259 : Array Value := ((List.range 259).map zc).toArray
theorem z259_size : Z259.size = 259 := by unfold Z259; simp
theorem z259_at (j : Nat) (h : j < 259) : Z259[j]? = some (zc j) := by unfold Z259; simp [h]
theorem z259_ne : (Z259 = #[]) = False := by
  refine eq_false fun h => ?_
  have := z259_size
  rw [h] at this
  cases this
def Z3 (r f e : Int) : Array Value := ((Z259.setIfInBounds 0 (.int .i64 r)).setIfInBounds 1 (.int .i64 f)).setIfInBounds 2 (.int .i64 e)
theorem z3_at (r f e : Int) (j : Nat) (h : j < 259) (h3 : 3 ≤ j) : (Z3 r f e)[j]? = some (zc j) := by
  unfold Z3
  rw [Array.getElem?_setIfInBounds_ne (by omega), Array.getElem?_setIfInBounds_ne (by omega), Array.getElem?_setIfInBounds_ne (by omega), z259_at j h]
theorem zc0 (i : Nat) : zc (3 + i * 4) = .bool false ∧ zc (3 + i * 4 + 1) = .bool false ∧ zc (3 + i * 4 + 2) = .int .i64 0 ∧ zc (3 + i * 4 + 3) = .int .i64 0 := by
  unfold zc
  refine ⟨?_, ?_, ?_, ?_⟩
  · rw [if_neg (by omega), if_pos (by omega)]
  · rw [if_neg (by omega), if_pos (by omega)]
  · rw [if_neg (by omega), if_neg (by omega)]
  · rw [if_neg (by omega), if_neg (by omega)]
theorem RefAt.made (w : World) (r f e : Int) (T : TypeId) : RefAt (w.alloc (.cells (Z3 r f e) T)) w.heap.size r f e (fun _ => zRS) := by
  have h : (w.alloc (.cells (Z3 r f e) T)).heap[w.heap.size]? = some (.cells (Z3 r f e) T (0, 0)) := heap_alloc_new w _
  have hc : ∀ j, (w.alloc (.cells (Z3 r f e) T)).cell? ⟨w.heap.size, j, none⟩ = (Z3 r f e)[j]? := fun j => cell_of_row _ w.heap.size j _ T (0, 0) h
  have hs := z259_size
  refine ⟨by simp, fun j => frozen_of_row _ _ _ _ _ h, ?_, ?_, ?_, fun i hi => ?_⟩
  · rw [hc]; unfold Z3; simp [Array.getElem?_setIfInBounds, hs]
  · rw [hc]; unfold Z3; simp [Array.getElem?_setIfInBounds, hs]
  · rw [hc]; unfold Z3; simp [Array.getElem?_setIfInBounds, hs]
  · obtain ⟨a, b, c, d⟩ := zc0 i
    rw [hc, hc, hc, hc, z3_at _ _ _ _ (by omega) (by omega), z3_at _ _ _ _ (by omega) (by omega), z3_at _ _ _ _ (by omega) (by omega), z3_at _ _ _ _ (by omega) (by omega), a, b, c, d]
    exact ⟨rfl, rfl, rfl, rfl⟩
set_option maxRecDepth 100000 in
set_option maxHeartbeats 4000000 in
theorem rnew_ok (r f e : Int) (hr : 1 ≤ r ∧ r ≤ 10) (hf : 1 ≤ f ∧ f ≤ 10) (he : 1 ≤ e ∧ e ≤ 1000) (w : World) :
    Calls Try.prog 16 #[.int .i64 r, .int .i64 f, .int .i64 e] w fun x w' => ∃ p : Nat, x = .returned (.tuple #[.pointer (some ⟨p, 0, none⟩), .int .i64 0]) ∧ RefAt w' p r f e (fun _ => zRS) ∧ w.heap.size ≤ p ∧ Below w.heap.size w w' := by
  obtain ⟨r1, r2⟩ := hr
  obtain ⟨f1, f2⟩ := hf
  obtain ⟨e1, e2⟩ := he
  have r1 := Int.not_lt.mpr r1
  have r2 := Int.not_lt.mpr r2
  have f1 := Int.not_lt.mpr f1
  have f2 := Int.not_lt.mpr f2
  have e1 := Int.not_lt.mpr e1
  have e2 := Int.not_lt.mpr e2
  have hz : ∀ w : World, (zeroValue 51).run Try.prog w = .ok (.agg Z259) w := fun w => by kernel_rfl
  have hz1 := z259_size
  have hz2 := z259_ne
  go_enter Try.func16, Try.ntmps16
  go_wp2_with fail
  go_ret2
  exact ⟨w.heap.size, rfl, RefAt.made w r f e _, Nat.le_refl _, (Below.refl _ _).alloc (Nat.le_refl _) _⟩
def rtRow (l : RS) (ok : Bool) : Int := if ok = l.2.1 then 0 else l.2.2.2 + 1
def rtV (r f : Int) (l : RS) (ok : Bool) : Int := if (!l.2.1 && decide (r ≤ rtRow l ok)) = true then 1 else if (l.2.1 && decide (f ≤ rtRow l ok)) = true then 2 else 0
def rtL (r f : Int) (l : RS) (now : Int) (ok : Bool) : RS := if rtV r f l ok = 0 then (true, l.2.1, now, rtRow l ok) else (true, rtV r f l ok == 1, now, 0)
def rupd (L : Int → RS) (s : Int) (l : RS) : Int → RS := fun k => if k = s then l else L k
theorem rup_at {w : World} {p : Nat} {r f e : Int} {L : Int → RS} (h : RefAt w p r f e L) (i : Nat) (hi : i < 64) :
    Calls Try.prog 22 #[.pointer (some ⟨p, 0, none⟩), .int .i64 i] w fun x w' => x = .returned (.bool (L i).2.1) ∧ w = w' := by
  have IS := ris_any i
  rw [show isSl (i : Int) = true from by unfold isSl; simp; omega] at IS
  have H := hid IS
  obtain ⟨h1, h2, h3, h4, h5, h6⟩ := h
  obtain ⟨c0, c1, c2, c3⟩ := h6 i hi
  have i0 : (0 : Int) ≤ i := by omega
  have i1 : (i : Int) < 64 := by omega
  clear IS h2 h3 h4 h5 h6
  go_enter Try.func22, Try.ntmps22
  go_wp2_with fail
  refine (H.out _).mono ?_
  rintro x w' ⟨rfl, rfl⟩
  go_wp2_with fail
  go_ret
  exact ⟨rfl, rfl⟩
set_option maxRecDepth 100000 in
set_option maxHeartbeats 4000000 in
theorem rdue_at {w : World} {p : Nat} {r f e : Int} {L : Int → RS} (h : RefAt w p r f e L) (i : Nat) (hi : i < 64) (now : Int) (v : Bool) (hv : (!(L i).1 || decide ((L i).2.2.1 + e ≤ now)) = v) (hb : 0 ≤ (L i).2.2.1 ∧ (L i).2.2.1 ≤ 1099511627776) (he : 0 ≤ e ∧ e ≤ 1000) :
    Calls Try.prog 20 #[.pointer (some ⟨p, 0, none⟩), .int .i64 i, .int .i64 now] w fun x w' => x = .returned (.bool v) ∧ ∃ m, w' = w.drewN m := by
  subst hv
  have IS := ris_any i
  rw [show isSl (i : Int) = true from by unfold isSl; simp; omega] at IS
  have H := hid IS
  obtain ⟨h1, h2, h3, h4, h5, h6⟩ := h
  obtain ⟨c0, c1, c2, c3⟩ := h6 i hi
  have i0 : (0 : Int) ≤ i := by omega
  have i1 : (i : Int) < 64 := by omega
  obtain ⟨hb1, hb2⟩ := hb
  obtain ⟨he1, he2⟩ := he
  clear IS h2 h3 h4 h6
  generalize L i = l at *
  obtain ⟨a, b, c, d⟩ := l
  simp only at *
  have q : IntKind.i64.wrap (c + e) = c + e := IntWalk.i64_in _ (by omega)
  cases a <;> cases hd : decide (c + e ≤ now)
  all_goals
    go_enter Try.func20, Try.ntmps20
    go_wp2_with fail
    go_quiet ((go_at_call 30; exact q0p (H.out _)))
    go_wp2_with fail
    go_ret
    exact ⟨rfl, _, rfl⟩
end Go.Proofs.Ytcbnebabeekegaa
