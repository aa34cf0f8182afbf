/- Rows of a call's own, and a literal of one byte. -/
import Derived.Test.YtomlpkojnipkhaaGreatGa
import Derived.Test.YtomlpkojnipkhaaGreatGwb
import Derived.BigQuiet
import Derived.Deep.RegionHeld3
import Derived.Deep.Cut
namespace Go.Proofs.YtomlpkojnipkhaaGreat
set_option linter.unusedVariables false
set_option linter.unusedSimpArgs false
open Go.RowKit Go.ChangeShapes Go.WideShapes Go.ChangeAt
theorem ow_grown {w w' : World} {B n b size : Nat} {e : TypeId} {v : Value} {f : Nat → Value} (h : Ow w B e size v n f) (hg : w.grownBy w' (some b)) (hne : v.ownBlock ≠ some b) : Ow w' B e size v n f := by
  refine ⟨h.1, ?_⟩
  rcases h.2 with h0 | ⟨g', cap, cur, rfl, hB, hh, h1⟩
  · exact .inl h0
  · refine .inr ⟨g', cap, cur, rfl, hB, ?_, h1⟩
    have hlt : g' < w.heap.size := by
      rcases Nat.lt_or_ge g' w.heap.size with hlt | hge
      · exact hlt
      · rw [Array.getElem?_eq_none hge] at hh; cases hh
    rw [hg.block g' hlt hne]
    exact hh
theorem ow_lt {w : World} {B n size : Nat} {e : TypeId} {v : Value} {f : Nat → Value} (h : Ow w B e size v n f) (x : Nat) (hx : w.heap.size ≤ x) : v.ownBlock ≠ some x := by
  rcases h.2 with ⟨rfl, _⟩ | ⟨g', cap, cur, rfl, hB, hh, h1⟩
  · intro e; cases e
  · intro e
    simp only [Value.ownBlock, Option.some.injEq] at e
    rw [Array.getElem?_eq_none (by omega)] at hh
    cases hh
theorem wpo_b1 {w : World} {o : Oper} {a : Act} {K : Act → World → Prop} {Q : Exit → Act → World → Prop} (hgd : o.guard = none) (s x : Operand) (ho : o.op = .call { callee := .builtin .append, args := #[s, x], argTypes := #[35, 35] })
    (E : Nat) (hs : a.eval s = .slice (some ⟨E, 0, none⟩) 0 0) (hown : ∀ f, Ow w E 5 1 (.slice (some ⟨E, 0, none⟩) 0 0) 0 f) (hE : E < w.heap.size)
    (A : Option Addr) (m c : Nat) (f2 : Nat → Int) (hx : a.eval x = .slice A m c) (hr : By w A m f2) (hsz : m ≤ 140737488355328)
    (h : ∀ A' c' w', OB w' E (.slice A' m c') m f2 → w.grownBy w' (some E) → (∀ x, x ≠ E → x < w.heap.size → (Value.slice A' m c').ownBlock ≠ some x) → K (a.put o.dst (.slice A' m c')) w') : Oper.wp Tryz.prog o a w K Q := by
  have := step_app_b0 (ops := #[]) (a := a) (K := K) (Q := Q) (E := True) hgd s x ho E _ hs hown A m c f2 hx hr hsz (by omega) (fun A' c' w' h1 _ _ h4 h5 h6 => h A' c' w' h1 h5 (fun x h7 h8 h9 => by
    rcases h6 x h9 with h10 | h10
    · exact h7 (by injection h10 with h10; exact h10.symm)
    · omega))
  rw [if_pos (by simp [Region.wanted, hgd])] at this
  exact this
theorem within_any3 (a n : Int) (w : World) (hb : 0 < n) (hb' : n ≤ 4611686018427387904) :
    Calls Tryz.prog 96 #[.int .i64 a, .int .i64 n] w fun e w' => e = .returned (.int .i64 (wi a n)) ∧ w = w' := by
  have ht := tmod_bd a n hb
  have hn := hid (tmod_neg a n hb)
  have hp := hid (tmod_pos a n hb)
  obtain ⟨h1, h2⟩ := ht
  go_enter Tryz.func96, Tryz.ntmps96
  go_wp2
  · go_ret
    exact ⟨ret_i64 (hn.out (by assumption)), rfl⟩
  · go_ret
    exact ⟨ret_i64 (hp.out (by assumption)), rfl⟩
end Go.Proofs.YtomlpkojnipkhaaGreat

