/- What the program knows of slots is what the reference does. -/
import Derived.Test.YtcbnebabeekegaaPulRefT
import Derived.Test.YtcbnebabeekegaaPulSt
import Derived.BigQuiet
import Derived.Deep.RegionHeld3
import Derived.Deep.Cut
namespace Go.Proofs.Ytcbnebabeekegaa
set_option linter.unusedVariables false
set_option linter.unusedSimpArgs false
open Go.RowKit Go.ChangeShapes Go.WideShapes Go.ChangeAt

theorem toldL_bd (r f : Int) (l : Life) (now : Int) (ok : Bool) (k : Nat) (h0 : 0 ≤ l.2.2.2) (h1 : l.2.2.2 ≤ k) : 0 ≤ (toldL r f l now ok).2.2.2 ∧ (toldL r f l now ok).2.2.2 ≤ (k + 1 : Nat) := by
  unfold toldL lifeUp
  split
  · exact rowUp_bd _ _ _ k h0 h1
  · exact ⟨show (0:Int) ≤ 0 from by decide, by show (0:Int) ≤ _; omega⟩
theorem cur_ne (M : Int → Option Life) (s x : Int) (l : Option Life) (h : x ≠ s) : cur (upd M s l) x = cur M x := by unfold cur upd; rw [if_neg h]
theorem upd_ne (M : Int → Option Life) (s x : Int) (l : Option Life) (h : x ≠ s) : upd M s l x = M x := by unfold upd; rw [if_neg h]
def LR (l : Life) (is : Bool) (m : RS) (now : Int) (n : Nat) : Prop :=
  m.1 = is ∧ m.2.1 = l.1 ∧ m.2.2.1 = l.2.1 ∧ (0 ≤ l.2.1 ∧ l.2.1 ≤ now) ∧ rowUp l.2.2.1 l.2.2.2 (!l.1) = m.2.2.2 + 1 ∧ (0 ≤ l.2.2.2 ∧ l.2.2.2 ≤ (n : Int)) ∧ (0 ≤ m.2.2.2 ∧ m.2.2.2 ≤ (n : Int)) ∧ (is = false → l = zLife ∧ m = zRS)
/-- The program's and the reference's states tell the same. -/
def Rel (M : Int → Option Life) (L : Int → RS) (now : Int) (n : Nat) : Prop := ∀ s, (isSl s = true → LR (cur M s) (M s).isSome (L s) now n) ∧ (isSl s = false → M s = none)
theorem lr_0 : LR zLife false zRS 0 0 := ⟨rfl, rfl, rfl, ⟨by decide, by decide⟩, rfl, ⟨by decide, by decide⟩, ⟨by decide, by decide⟩, fun _ => ⟨rfl, rfl⟩⟩
theorem rel_0 : Rel (fun _ => none) (fun _ => zRS) 0 0 := fun s => ⟨fun _ => lr_0, fun _ => rfl⟩
theorem rel_up {M : Int → Option Life} {L : Int → RS} {now now' : Int} {n n' : Nat} (h : Rel M L now n) (h1 : now ≤ now') (h2 : n ≤ n') : Rel M L now' n' := fun s => ⟨fun hs => by
  obtain ⟨a1, a2, a3, ⟨a4, a5⟩, a6, ⟨a7, a8⟩, ⟨a9, a10⟩, a11⟩ := (h s).1 hs
  exact ⟨a1, a2, a3, ⟨a4, by omega⟩, a6, ⟨a7, by omega⟩, ⟨a9, by omega⟩, a11⟩, (h s).2⟩
theorem rowUp_self (x : Bool) (wh : Bool) (lo : Int) : rowUp x (rowUp wh lo x) (!x) = 1 := by cases x <;> simp [rowUp]
theorem rowUp_more (x : Bool) (wh : Bool) (lo : Int) : rowUp x (rowUp wh lo x) x = rowUp wh lo x + 1 := by cases x <;> simp [rowUp]
theorem rowUp_new (x : Bool) : rowUp false 0 x = 1 := by cases x <;> rfl
theorem lr_told {l : Life} {is : Bool} {m : RS} {now : Int} {n : Nat} (h : LR l is m now n) (r f : Int) (hr : 1 ≤ r) (hf : 1 ≤ f) (h0 : 0 ≤ now) (ok : Bool) :
    rtV r f m ok = toldV r f l now ok ∧ LR (toldL r f l now ok) true (rtL r f m now ok) now (n + 1) := by
  obtain ⟨up, la, wh, lo⟩ := l
  obtain ⟨ts, ru, ra, rr⟩ := m
  obtain ⟨a1, a2, a3, ⟨a4, a5⟩, a6, ⟨a7, a8⟩, ⟨a9, a10⟩, a11⟩ := h
  simp only at a1 a2 a3 a4 a5 a6 a7 a8 a9 a10
  subst a2
  have rb := rowUp_bd wh lo ok n a7 a8
  by_cases e : ok = ru
  · subst e
    have v1 : toldV r f (ok, la, wh, lo) now ok = 0 := by cases ok <;> simp [toldV, verd, lifeUp]
    have v2 : rtV r f (ts, ok, ra, rr) ok = 0 := by cases ok <;> simp [rtV, rtRow] <;> omega
    refine ⟨by rw [v1, v2], ?_⟩
    unfold toldL rtL
    rw [if_pos v1, if_pos v2]
    unfold lifeUp rtRow
    simp only [if_true]
    exact ⟨rfl, rfl, rfl, ⟨h0, Int.le_refl _⟩, rowUp_self _ _ _, rb, ⟨by simp, by simp; omega⟩, fun h => by cases h⟩
  · have e2 : ok = !ru := by cases ok <;> cases ru <;> simp_all
    subst e2
    have rw1 : rtRow (ts, ru, ra, rr) (!ru) = rr + 1 := by unfold rtRow; rw [if_neg e]
    by_cases hv : (if ru = true then f else r) ≤ rr + 1
    · have v1 : toldV r f (ru, la, wh, lo) now (!ru) = if ru = true then 2 else 1 := by cases ru <;> simp_all [toldV, verd, lifeUp]
      have v2 : rtV r f (ts, ru, ra, rr) (!ru) = if ru = true then 2 else 1 := by cases ru <;> simp_all [rtV, rtRow]
      refine ⟨by rw [v1, v2], ?_⟩
      unfold toldL rtL
      rw [v1, v2]
      cases ru
      · exact ⟨rfl, rfl, rfl, ⟨h0, Int.le_refl _⟩, rfl, ⟨by show (0 : Int) ≤ 0; decide, by show (0 : Int) ≤ _; omega⟩, ⟨by show (0 : Int) ≤ 0; decide, by show (0 : Int) ≤ _; omega⟩, fun h => by cases h⟩
      · exact ⟨rfl, rfl, rfl, ⟨h0, Int.le_refl _⟩, rfl, ⟨by show (0 : Int) ≤ 0; decide, by show (0 : Int) ≤ _; omega⟩, ⟨by show (0 : Int) ≤ 0; decide, by show (0 : Int) ≤ _; omega⟩, fun h => by cases h⟩
    · have v1 : toldV r f (ru, la, wh, lo) now (!ru) = 0 := by cases ru <;> simp_all [toldV, verd, lifeUp]
      have v2 : rtV r f (ts, ru, ra, rr) (!ru) = 0 := by cases ru <;> simp_all [rtV, rtRow]
      refine ⟨by rw [v1, v2], ?_⟩
      unfold toldL rtL
      rw [if_pos v1, if_pos v2, rw1]
      unfold lifeUp
      refine ⟨rfl, rfl, rfl, ⟨h0, Int.le_refl _⟩, ?_, rb, ⟨by simp only; omega, by simp only; omega⟩, fun h => by cases h⟩
      simp only
      rw [rowUp_more, a6]
theorem cur_at (M : Int → Option Life) (s x : Int) (o : Option Life) : cur (upd M s o) x = if x = s then o.getD zLife else cur M x := by
  unfold cur upd; split <;> rfl
theorem rel_told {M : Int → Option Life} {L : Int → RS} {now : Int} {n : Nat} (h : Rel M L now n) {s : Int} (hs : isSl s = true) (r f : Int) (hr : 1 ≤ r) (hf : 1 ≤ f) (h0 : 0 ≤ now) (ok : Bool) :
    rtV r f (L s) ok = toldV r f (cur M s) now ok ∧ Rel (upd M s (some (toldL r f (cur M s) now ok))) (rupd L s (rtL r f (L s) now ok)) now (n + 1) := by
  have k := lr_told ((h s).1 hs) r f hr hf h0 ok
  refine ⟨k.1, fun x => ?_⟩
  by_cases e : x = s
  · subst e
    refine ⟨fun _ => ?_, fun hx => by rw [hx] at hs; cases hs⟩
    rw [cur_at, if_pos rfl]
    simp only [upd, rupd, if_true, Option.isSome_some, Option.getD_some]
    exact k.2
  · rw [cur_at, if_neg e]
    simp only [upd, rupd, if_neg e]
    exact rel_up h (Int.le_refl _) (Nat.le_succ n) x
theorem rel_drop {M : Int → Option Life} {L : Int → RS} {now : Int} {n : Nat} (h : Rel M L now n) {s : Int} (hs : isSl s = true) (h0 : 0 ≤ now) :
    (L s).1 = (M s).isSome ∧ Rel (upd M s none) (if (L s).1 = true then rupd L s zRS else L) now n := by
  have k := (h s).1 hs
  refine ⟨k.1, fun x => ?_⟩
  by_cases e : x = s
  · subst e
    refine ⟨fun _ => ?_, fun hx => by rw [hx] at hs; cases hs⟩
    rw [cur_at, if_pos rfl]
    have hl : (if (L x).1 = true then rupd L x zRS else L) x = zRS := by
      split
      · simp [rupd]
      · rename_i hn
        have : (M x).isSome = false := by rw [← k.1]; simpa using hn
        exact (k.2.2.2.2.2.2.2 this).2
    rw [hl]
    simp only [upd, if_true]
    exact ⟨rfl, rfl, rfl, ⟨by decide, h0⟩, rfl, ⟨by show (0 : Int) ≤ 0; decide, by show (0 : Int) ≤ _; omega⟩, ⟨by show (0 : Int) ≤ 0; decide, by show (0 : Int) ≤ _; omega⟩, fun _ => ⟨rfl, rfl⟩⟩
  · rw [cur_at, if_neg e]
    have hl : (if (L s).1 = true then rupd L s zRS else L) x = L x := by
      split
      · simp [rupd, e]
      · rfl
    rw [hl]
    simp only [upd, if_neg e]
    exact h x
end Go.Proofs.Ytcbnebabeekegaa
