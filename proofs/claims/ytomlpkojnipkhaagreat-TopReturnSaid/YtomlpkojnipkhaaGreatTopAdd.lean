/- What these texts name of the common ones, beside what lies there. -/
import Derived.Test.YtomlpkojnipkhaaGreatGs
import Derived.Test.YtomlpkojnipkhaaGreatGc
import Derived.Test.YtomlpkojnipkhaaGreatGt
import Derived.BigQuiet
import Derived.Deep.RegionHeld3
import Derived.Deep.RegionWith
import Derived.Deep.Cut
import Derived.IntWalk
namespace Go.Proofs.YtomlpkojnipkhaaGreat
set_option linter.unusedVariables false
set_option linter.unusedSimpArgs false
open Go.RowKit Go.ChangeShapes Go.WideShapes Go.ChangeAt
variable {w : World} {e : TypeId} {size : Nat} {f : Nat → Value} {o : Oper} {ops : Array Oper} {a : Act} {K : Act → World → Prop} {Q : Exit → Act → World → Prop} {E : Prop}
theorem Ow.new' {g : Nat} (hg : w.heap.size = g) : Ow (w.alloc (.cells #[] e)) g e size (.slice (some ⟨g, 0, none⟩) 0 0) 0 f := by subst hg; exact Ow.new (Nat.le_refl _)
theorem within_any (a n : Int) (w : World) (hb : 0 < n) (hb' : n ≤ 4611686018427387904) :
    Calls Tryz.prog 24 #[.int .i64 a, .int .i64 n] w fun e w' => e = .returned (.int .i64 (wi a n)) ∧ w = w' := by
  have ht := tmod_bd a n hb
  have hn := hid (tmod_neg a n hb)
  have hp := hid (tmod_pos a n hb)
  obtain ⟨h1, h2⟩ := ht
  go_enter Tryz.func24, Tryz.ntmps24
  go_wp2
  · go_ret
    exact ⟨ret_i64 (hn.out (by assumption)), rfl⟩
  · go_ret
    exact ⟨ret_i64 (hp.out (by assumption)), rfl⟩
/-- append of bytes inside a region whose order is open. -/
theorem step_app_b (hgd : o.guard = none) (s x : Operand) (ho : o.op = .call { callee := .builtin .append, args := #[s, x], argTypes := #[35, 35] })
    (base : Nat) (v : Value) (n : Nat) (f : Nat → Int) (hs : a.eval s = v) (hown : Ow w base 5 1 v n (fun j => .int .u8 (f j)))
    (A : Option Addr) (m c : Nat) (f2 : Nat → Int) (hx : a.eval x = .slice A m c) (hr : By w A m f2) (hsz : n + m ≤ 140737488355328) (hbase : base ≤ w.heap.size)
    (h : ∀ A' c' w', Ow w' base 5 1 (.slice A' (n + m) c') (n + m) (fun j => .int .u8 (if j < n then f j else f2 (j - n))) → n + m ≤ c' → c' ≤ maxLen → Below base w w' → w.grownBy w' v.ownBlock →
      (∀ g, (Value.slice A' (n + m) c').ownBlock = some g → v.ownBlock = some g ∨ g = w.heap.size) → K (a.put o.dst (.slice A' (n + m) c')) w') :
    if Region.wanted o (yielded ops a.tmps) = true then Oper.wp Tryz.prog o a w K Q else E := by
  have hw : Region.wanted o (yielded ops a.tmps) = true := by simp [Region.wanted, hgd]
  rw [if_pos hw]
  obtain ⟨i0, hi, hz0, hz1, hz2⟩ := info_parts info_u8
  refine wpo_app w s x 35 ho base 5 i0 (.int .u8 0) 1 1 Tryz.underlying35 hi hz0 hz1 hz2 rfl (by decide) v n _ hs hown A m c (fun j => .int .u8 (f2 j)) hx (by rw [Nat.mul_one]; exact hr) (fun _ _ => rfl) (by simp only [maxLen]; omega) (by omega) hbase ?_
  intro A' c' w' h1 h2 h3 h4 h5 h6
  refine h A' c' w' (h1.as_ fun j _ => ?_) h2 h3 h4 h5 h6
  simp only [two, Nat.mul_one]
  split <;> rfl
theorem step_app_b0 (hgd : o.guard = none) (s x : Operand) (ho : o.op = .call { callee := .builtin .append, args := #[s, x], argTypes := #[35, 35] })
    (base : Nat) (v : Value) (hs : a.eval s = v) (hown : ∀ f, Ow w base 5 1 v 0 f)
    (A : Option Addr) (m c : Nat) (f2 : Nat → Int) (hx : a.eval x = .slice A m c) (hr : By w A m f2) (hsz : m ≤ 140737488355328) (hbase : base ≤ w.heap.size)
    (h : ∀ A' c' w', Ow w' base 5 1 (.slice A' m c') m (fun j => .int .u8 (f2 j)) → m ≤ c' → c' ≤ maxLen → Below base w w' → w.grownBy w' v.ownBlock →
      (∀ g, (Value.slice A' m c').ownBlock = some g → v.ownBlock = some g ∨ g = w.heap.size) → K (a.put o.dst (.slice A' m c')) w') :
    if Region.wanted o (yielded ops a.tmps) = true then Oper.wp Tryz.prog o a w K Q else E := by
  refine step_app_b hgd s x ho base v 0 (fun _ => 0) hs (hown _) A m c f2 hx hr (by omega) hbase ?_
  intro A' c' w' h1 h2 h3 h4 h5 h6
  rw [Nat.zero_add] at h1 h2 h6 ⊢
  exact h A' c' w' (h1.as_ fun j _ => by simp) h2 h3 h4 h5 h6
theorem rtakes_any (s : Sp) (w : World) : Calls Tryz.prog 25 #[spV s] w fun e w' => e = .returned (.bool (takesB s.st)) ∧ Below w.heap.size w w' := by
  unfold takesB spV
  obtain ⟨st, ad, po, we, si⟩ := s
  simp only
  cases h1 : (st == 1) <;> cases h2 : (st == 2) <;> cases h3 : (st == 3)
  all_goals
    go_enter Tryz.func25, Tryz.ntmps25
    go_wp2
    go_ret
    exact ⟨rfl, (Below.refl _ _).alloc (Nat.le_refl _) _⟩
theorem pool_fb {w : World} {b : Nat} {p : Pl} (h : Fb w b 330 (pc p)) : PoolAt w b p := h
end Go.Proofs.YtomlpkojnipkhaaGreat
