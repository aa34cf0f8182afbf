/- What was heard of units: a map of the call's own, as a plain function. -/
import Derived.Test.YtomlpkojnipkhaaGreatGa
import Derived.Maps.OwnSet
import Derived.Maps.OwnOps
import Derived.Maps.Keyed
import Derived.Maps.Views
import Derived.Maps.Own
namespace Go.Proofs.YtomlpkojnipkhaaGreat
set_option linter.unusedVariables false
set_option linter.unusedSimpArgs false
open Go.RowKit Go.ChangeShapes Go.WideShapes Go.ChangeAt

/-- boot, version. -/
structure Wd where
  b : Int
  v : Int
def IHd (x : Int) : Prop := -9223372036854775808 ≤ x ∧ x ≤ 9223372036854775807
def wdV (l : Wd) : Value := .agg #[.int .i64 l.b, .int .i64 l.v]
def wdD (l : Wd) : DataW Unit := .agg [.lit (.int .i64 l.b), .lit (.int .i64 l.v)]
def wdL : List Value → Option Wd
  | [.int .i64 a, .int .i64 n] => some ⟨a, n⟩
  | _ => none
def wdR : Value → Option (DataW Unit × List MemPlace)
  | .agg cs => (wdL cs.toList).map fun l => (wdD l, [])
  | _ => none
theorem wdL_of {cs : List Value} {l : Wd} (h : wdL cs = some l) : cs = [.int .i64 l.b, .int .i64 l.v] := by
  unfold wdL at h
  split at h
  · injection h with h; subst h; rfl
  · cases h
theorem wdD_inj {a b : Wd} (h : wdD a = wdD b) : a = b := by
  obtain ⟨a1, a2⟩ := a
  obtain ⟨b1, b2⟩ := b
  simp only [wdD, DataW.agg.injEq, List.cons.injEq, DataW.lit.injEq, Lit.int.injEq] at h
  obtain ⟨⟨_, r1⟩, ⟨_, r2⟩, _⟩ := h
  subst r1; subst r2
  rfl
theorem wdR_at (l : Wd) : wdR (wdV l) = some (wdD l, []) := rfl
theorem wdR_of {v : Value} {l : Wd} {ps : List MemPlace} (h : wdR v = some (wdD l, ps)) : v = wdV l := by
  unfold wdR at h
  split at h
  · rename_i cs
    cases hl : wdL cs.toList with
    | none => rw [hl] at h; cases h
    | some x =>
      rw [hl] at h
      simp only [Option.map_some, Option.some.injEq, Prod.mk.injEq] at h
      have hx := wdD_inj h.1
      subst hx
      have hc := wdL_of hl
      obtain ⟨cl⟩ := cs
      simp only at hc
      subst hc
      rfl
  · cases h
def zWd : Wd := ⟨0, 0⟩
def hkey (k : Int) : Lit := .int .i64 k
/-- The map in block b reads as M. -/
def HMap (w : World) (b n : Nat) (M : Int → Option Wd) : Prop :=
  ∃ D : DataW Unit, w.ownsMap Tryz.prog 3 wdR b n D ∧ Maps.IsMap D ∧ ∀ k, Maps.has D (hkey k) = (M k).isSome ∧ ∀ z, D.atKey (hkey k) z = match M k with | some l => wdD l | none => z
def hupd (M : Int → Option Wd) (s : Int) (o : Option Wd) : Int → Option Wd := fun k => if k = s then o else M k
theorem hkey_ne {a b : Int} (h : a ≠ b) : hkey a ≠ hkey b := fun e => h (by injection e)
theorem keyedW : Maps.Keyed Tryz.prog 3 := Maps.int_keyed Tryz.underlying3
theorem hkey_of {k : Int} (h : IHd k) : keyOf Tryz.prog 3 (.int .i64 k) = some (hkey k) := Maps.keyOf_int_mk Tryz.underlying3 (by unfold IHd at h; simp [Lit.wf, IntKind.min, IntKind.max, IntKind.signed, IntKind.bits]; omega)
theorem HMap.put_ {w : World} {b n : Nat} {M : Int → Option Wd} {D : DataW Unit} (hm : Maps.IsMap D) (h : ∀ k, Maps.has D (hkey k) = (M k).isSome ∧ ∀ z, D.atKey (hkey k) z = match M k with | some l => wdD l | none => z)
    (s : Int) (l : Wd) (hown : w.ownsMap Tryz.prog 3 wdR b n (D.put (hkey s) (wdD l))) : HMap w b n (hupd M s (some l)) := by
  refine ⟨_, hown, hm.put _ _, fun k => ?_⟩
  unfold hupd
  by_cases e : k = s
  · subst e
    rw [if_pos rfl]
    exact ⟨by rw [Maps.has_put_same hm (by trivial)]; rfl, fun z => by rw [Maps.atKey_put_same hm (by trivial)]⟩
  · rw [if_neg e]
    exact ⟨by rw [Maps.has_put_other (hkey_ne e)]; exact (h k).1, fun z => by rw [Maps.atKey_put_other (hkey_ne e)]; exact (h k).2 z⟩
theorem HMap.kept {w w' : World} {b n : Nat} {M : Int → Option Wd} {row : Option Nat} (h : HMap w b n M) (hg : w.grownBy w' row) (hne : some b ≠ row) : HMap w' b n M := by
  obtain ⟨D, h1, h2, h3⟩ := h
  exact ⟨D, h1.kept hg hne, h2, h3⟩
theorem HMap.lt {w : World} {b n : Nat} {M : Int → Option Wd} (h : HMap w b n M) : b < w.heap.size := by
  obtain ⟨D, h1, _⟩ := h
  exact h1.lt
theorem HMap.made (w : World) : HMap (w.alloc (.map #[] 0)) w.heap.size 0 (fun _ => none) :=
  ⟨_, World.ownsMap_made _ _ _ _, Maps.isMap_empty, fun k => ⟨rfl, fun z => rfl⟩⟩
theorem HMap.look {w : World} {b n : Nat} {M : Int → Option Wd} (h : HMap w b n M) {T : TypeId} (ht : Tryz.prog.underlying T = some (.map 3 189)) (hz : (zeroValue 189).run Tryz.prog w = .ok (wdV zWd) w) {s : Int} (hs : IHd s) :
    (Instr.lookup T (.map (some b)) (.int .i64 s) false).run Tryz.prog w = .ok (wdV ((M s).getD zWd)) w := by
  obtain ⟨D, h1, h2, h3⟩ := h
  obtain ⟨v, ps, hrun, hv⟩ := h1.lookup keyedW ht hz (wdR_at zWd) (hkey_of hs)
  rw [hrun]
  rw [(h3 s).2] at hv
  cases hm : M s with
  | none => rw [hm] at hv; simp only at hv; rw [wdR_of hv]; rfl
  | some l => rw [hm] at hv; simp only at hv; rw [wdR_of hv]; rfl
theorem zero_wd (w : World) : (zeroValue 189).run Tryz.prog w = .ok (wdV zWd) w := by kernel_rfl
end Go.Proofs.YtomlpkojnipkhaaGreat

