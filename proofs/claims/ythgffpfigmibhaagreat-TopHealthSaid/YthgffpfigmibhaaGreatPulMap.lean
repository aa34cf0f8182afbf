/- What is known of slots: a map of the call's own, as a plain function. -/
import Derived.Test.YthgffpfigmibhaaGreatGa
import Derived.Maps.OwnSet
import Derived.Maps.OwnOps
import Derived.Maps.Keyed
import Derived.Maps.Views
import Derived.Maps.Own
namespace Go.Proofs.YthgffpfigmibhaaGreat
set_option linter.unusedVariables false
set_option linter.unusedSimpArgs false
open Go.RowKit Go.ChangeShapes Go.WideShapes Go.ChangeAt

/-- up, when last, what, how long. -/
abbrev Life := Bool × Int × Bool × Int
def lifeV (l : Life) : Value := .agg #[.bool l.1, .int .i64 l.2.1, .bool l.2.2.1, .int .i64 l.2.2.2]
def lifeD (l : Life) : DataW Unit := .agg [.lit (.bool l.1), .lit (.int .i64 l.2.1), .lit (.bool l.2.2.1), .lit (.int .i64 l.2.2.2)]
def lifeL : List Value → Option Life
  | [.bool u, .int .i64 a, .bool b, .int .i64 n] => some (u, a, b, n)
  | _ => none
def lifeR : Value → Option (DataW Unit × List MemPlace)
  | .agg cs => (lifeL cs.toList).map fun l => (lifeD l, [])
  | _ => none
theorem lifeL_of {cs : List Value} {l : Life} (h : lifeL cs = some l) : cs = [.bool l.1, .int .i64 l.2.1, .bool l.2.2.1, .int .i64 l.2.2.2] := by
  unfold lifeL at h
  split at h
  · injection h with h; subst h; rfl
  · cases h
theorem lifeD_inj {a b : Life} (h : lifeD a = lifeD b) : a = b := by
  obtain ⟨a1, a2, a3, a4⟩ := a
  obtain ⟨b1, b2, b3, b4⟩ := b
  simp only [lifeD, DataW.agg.injEq, List.cons.injEq, DataW.lit.injEq, Lit.bool.injEq, Lit.int.injEq] at h
  obtain ⟨r1, ⟨_, r2⟩, r3, ⟨_, r4⟩, _⟩ := h
  subst r1; subst r2; subst r3; subst r4
  rfl
theorem lifeR_at (l : Life) : lifeR (lifeV l) = some (lifeD l, []) := rfl
theorem lifeR_of {v : Value} {l : Life} {ps : List MemPlace} (h : lifeR v = some (lifeD l, ps)) : v = lifeV l := by
  unfold lifeR at h
  split at h
  · rename_i cs
    cases hl : lifeL cs.toList with
    | none => rw [hl] at h; cases h
    | some x =>
      rw [hl] at h
      simp only [Option.map_some, Option.some.injEq, Prod.mk.injEq] at h
      have hx := lifeD_inj h.1
      subst hx
      have hc := lifeL_of hl
      obtain ⟨cl⟩ := cs
      simp only at hc
      subst hc
      rfl
  · cases h
def zLife : Life := (false, 0, false, 0)
def key (k : Int) : Lit := .int .i64 k
/-- The map in block b reads as M. -/
def MapAt (w : World) (b n : Nat) (M : Int → Option Life) : Prop :=
  ∃ D : DataW Unit, w.ownsMap Tryz.prog 3 lifeR b n D ∧ Maps.IsMap D ∧ ∀ k, Maps.has D (key k) = (M k).isSome ∧ ∀ z, D.atKey (key k) z = match M k with | some l => lifeD l | none => z
def upd (M : Int → Option Life) (s : Int) (o : Option Life) : Int → Option Life := fun k => if k = s then o else M k
theorem key_ne {a b : Int} (h : a ≠ b) : key a ≠ key b := fun e => h (by injection e)
theorem keyed : Maps.Keyed Tryz.prog 3 := Maps.int_keyed Tryz.underlying3
theorem key_of {k : Int} (h : I64 k) : keyOf Tryz.prog 3 (.int .i64 k) = some (key k) := Maps.keyOf_int_mk Tryz.underlying3 (by unfold I64 at h; simp [Lit.wf, IntKind.min, IntKind.max, IntKind.signed, IntKind.bits]; omega)
theorem MapAt.put_ {w : World} {b n : Nat} {M : Int → Option Life} {D : DataW Unit} (hm : Maps.IsMap D) (h : ∀ k, Maps.has D (key k) = (M k).isSome ∧ ∀ z, D.atKey (key k) z = match M k with | some l => lifeD l | none => z)
    (s : Int) (l : Life) (hown : w.ownsMap Tryz.prog 3 lifeR b n (D.put (key s) (lifeD l))) : MapAt w b n (upd M s (some l)) := by
  refine ⟨_, hown, hm.put _ _, fun k => ?_⟩
  unfold upd
  by_cases e : k = s
  · subst e
    rw [if_pos rfl]
    exact ⟨by rw [Maps.has_put_same hm (by trivial)]; rfl, fun z => by rw [Maps.atKey_put_same hm (by trivial)]⟩
  · rw [if_neg e]
    exact ⟨by rw [Maps.has_put_other (key_ne e)]; exact (h k).1, fun z => by rw [Maps.atKey_put_other (key_ne e)]; exact (h k).2 z⟩
theorem MapAt.del_ {w : World} {b n : Nat} {M : Int → Option Life} {D : DataW Unit} (hm : Maps.IsMap D) (h : ∀ k, Maps.has D (key k) = (M k).isSome ∧ ∀ z, D.atKey (key k) z = match M k with | some l => lifeD l | none => z)
    (s : Int) (hown : w.ownsMap Tryz.prog 3 lifeR b n (D.del (key s))) : MapAt w b n (upd M s none) := by
  refine ⟨_, hown, hm.del _, fun k => ?_⟩
  unfold upd
  by_cases e : k = s
  · subst e
    rw [if_pos rfl]
    exact ⟨by rw [Maps.has_del_same]; rfl, fun z => by rw [Maps.atKey_del_same]⟩
  · rw [if_neg e]
    exact ⟨by rw [Maps.has_del_other (key_ne e)]; exact (h k).1, fun z => by rw [Maps.atKey_del_other (key_ne e)]; exact (h k).2 z⟩
theorem MapAt.kept {w w' : World} {b n : Nat} {M : Int → Option Life} {row : Option Nat} (h : MapAt w b n M) (hg : w.grownBy w' row) (hne : some b ≠ row) : MapAt w' b n M := by
  obtain ⟨D, h1, h2, h3⟩ := h
  exact ⟨D, h1.kept hg hne, h2, h3⟩
theorem MapAt.lt {w : World} {b n : Nat} {M : Int → Option Life} (h : MapAt w b n M) : b < w.heap.size := by
  obtain ⟨D, h1, _⟩ := h
  exact h1.lt
theorem MapAt.made (w : World) : MapAt (w.alloc (.map #[] 0)) w.heap.size 0 (fun _ => none) :=
  ⟨_, World.ownsMap_made _ _ _ _, Maps.isMap_empty, fun k => ⟨rfl, fun z => rfl⟩⟩
theorem MapAt.look {w : World} {b n : Nat} {M : Int → Option Life} (h : MapAt w b n M) {T : TypeId} (ht : Tryz.prog.underlying T = some (.map 3 126)) (hz : (zeroValue 126).run Tryz.prog w = .ok (lifeV zLife) w) {s : Int} (hs : I64 s) :
    (Instr.lookup T (.map (some b)) (.int .i64 s) false).run Tryz.prog w = .ok (lifeV ((M s).getD zLife)) w := by
  obtain ⟨D, h1, h2, h3⟩ := h
  obtain ⟨v, ps, hrun, hv⟩ := h1.lookup keyed ht hz (lifeR_at zLife) (key_of hs)
  rw [hrun]
  rw [(h3 s).2] at hv
  cases hm : M s with
  | none => rw [hm] at hv; simp only at hv; rw [lifeR_of hv]; rfl
  | some l => rw [hm] at hv; simp only at hv; rw [lifeR_of hv]; rfl
theorem MapAt.look_ok {w : World} {b n : Nat} {M : Int → Option Life} (h : MapAt w b n M) {T : TypeId} (ht : Tryz.prog.underlying T = some (.map 3 126)) (hz : (zeroValue 126).run Tryz.prog w = .ok (lifeV zLife) w) {s : Int} (hs : I64 s) :
    (Instr.lookup T (.map (some b)) (.int .i64 s) true).run Tryz.prog w = .ok (.tuple #[lifeV ((M s).getD zLife), .bool (M s).isSome]) w := by
  obtain ⟨D, h1, h2, h3⟩ := h
  obtain ⟨v, ps, hrun, hv⟩ := h1.look_ok keyed ht hz (lifeR_at zLife) (key_of hs)
  rw [hrun, (h3 s).1]
  rw [(h3 s).2] at hv
  cases hm : M s with
  | none => rw [hm] at hv; simp only at hv; rw [lifeR_of hv]; rfl
  | some l => rw [hm] at hv; simp only at hv; rw [lifeR_of hv]; rfl
theorem zero_life (w : World) : (zeroValue 126).run Tryz.prog w = .ok (lifeV zLife) w := by kernel_rfl
theorem below_grown {w w' : World} (h : Below w.heap.size w w') (row : Option Nat) : w.grownBy w' row := ⟨h.os, h.tape, h.output, h.size, fun k hk _ => h.block k hk⟩
end Go.Proofs.YthgffpfigmibhaaGreat
