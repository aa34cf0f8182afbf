/- Rows of numbers of the call's own: append. -/
import Derived.Test.YtgmfclpnmhgapaaBytes
namespace Go.Proofs.Ytgmfclpnmhgapaa
set_option linter.unusedVariables false
set_option linter.unusedSimpArgs false
open Go.RowKit Go.ChangeShapes Go.WideShapes Go.ChangeAt

theorem info_i64 : (Try.prog.info? 3).map (fun i => (i.zero, i.size, i.bytes)) = some (some (.int .i64 0), 1, 8) := by kernel_rfl

section
variable {w : World} {ops : Array Oper} {rest : List Oper} {o : Oper} {a : Act} {Q : Exit → Act → World → Prop}
/-- append of numbers onto a row of the call's own. -/
theorem wp_app_i (hgd : o.guard = none) (s x : Operand) (ho : o.op = .call { callee := .builtin .append, args := #[s, x], argTypes := #[34, 34] })
    (base : Nat) (v : Value) (n : Nat) (f : Nat → Int) (hs : a.eval s = v) (hown : Ow w base 3 1 v n (fun j => .int .i64 (f j)))
    (A : Option Addr) (m c : Nat) (f2 : Nat → Int) (hx : a.eval x = .slice A m c) (hr : Is w A m f2) (hsz : n + m ≤ 17592186044416) (hbase : base ≤ w.heap.size)
    (h : ∀ A' c' w', Ow w' base 3 1 (.slice A' (n + m) c') (n + m) (fun j => .int .i64 (if j < n then f j else f2 (j - n))) → n + m ≤ c' → c' ≤ maxLen → Below base w w' → w.grownBy w' v.ownBlock →
      (∀ g, (Value.slice A' (n + m) c').ownBlock = some g → v.ownBlock = some g ∨ g = w.heap.size) → wpList Try.prog ops Q rest (a.put o.dst (.slice A' (n + m) c')) w') : wpList Try.prog ops Q (o :: rest) a w := by
  obtain ⟨i0, hi, hz0, hz1, hz2⟩ := info_parts info_i64
  refine wp_app w hgd s x 34 ho base 3 i0 (.int .i64 0) 1 8 Try.underlying34 hi hz0 hz1 hz2 rfl (by decide) v n _ hs hown A m c (fun j => .int .i64 (f2 j)) hx (by rw [Nat.mul_one]; exact hr) (fun _ _ => rfl) (by simp only [maxLen]; omega) (by omega) hbase ?_
  intro A' c' w' h1 h2 h3 h4 h5 h6
  refine h A' c' w' (h1.as_ fun j _ => ?_) h2 h3 h4 h5 h6
  simp only [two, Nat.mul_one]
  split <;> rfl
/-- The first append, onto an empty row. -/
theorem wp_app_i0 (hgd : o.guard = none) (s x : Operand) (ho : o.op = .call { callee := .builtin .append, args := #[s, x], argTypes := #[34, 34] })
    (base : Nat) (v : Value) (hs : a.eval s = v) (hown : ∀ f, Ow w base 3 1 v 0 f)
    (A : Option Addr) (m c : Nat) (f2 : Nat → Int) (hx : a.eval x = .slice A m c) (hr : Is w A m f2) (hsz : m ≤ 17592186044416) (hbase : base ≤ w.heap.size)
    (h : ∀ A' c' w', Ow w' base 3 1 (.slice A' m c') m (fun j => .int .i64 (f2 j)) → m ≤ c' → c' ≤ maxLen → Below base w w' → w.grownBy w' v.ownBlock →
      (∀ g, (Value.slice A' m c').ownBlock = some g → v.ownBlock = some g ∨ g = w.heap.size) → wpList Try.prog ops Q rest (a.put o.dst (.slice A' m c')) w') : wpList Try.prog ops Q (o :: rest) a w := by
  refine wp_app_i hgd s x ho base v 0 (fun _ => 0) hs (hown _) A m c f2 hx hr (by omega) hbase ?_
  intro A' c' w' h1 h2 h3 h4 h5 h6
  rw [Nat.zero_add] at h1 h2 h6 ⊢
  exact h A' c' w' (h1.as_ fun j _ => by simp) h2 h3 h4 h5 h6

variable {K : Act → World → Prop} {E : Prop}
/-- append of numbers inside a region whose order is open. -/
theorem step_app_i (hgd : o.guard = none) (s x : Operand) (ho : o.op = .call { callee := .builtin .append, args := #[s, x], argTypes := #[34, 34] })
    (base : Nat) (v : Value) (n : Nat) (f : Nat → Int) (hs : a.eval s = v) (hown : Ow w base 3 1 v n (fun j => .int .i64 (f j)))
    (A : Option Addr) (m c : Nat) (f2 : Nat → Int) (hx : a.eval x = .slice A m c) (hr : Is w A m f2) (hsz : n + m ≤ 17592186044416) (hbase : base ≤ w.heap.size)
    (h : ∀ A' c' w', Ow w' base 3 1 (.slice A' (n + m) c') (n + m) (fun j => .int .i64 (if j < n then f j else f2 (j - n))) → n + m ≤ c' → c' ≤ maxLen → Below base w w' → w.grownBy w' v.ownBlock →
      (∀ g, (Value.slice A' (n + m) c').ownBlock = some g → v.ownBlock = some g ∨ g = w.heap.size) → K (a.put o.dst (.slice A' (n + m) c')) w') :
    if Region.wanted o (yielded ops a.tmps) = true then Oper.wp Try.prog o a w K Q else E := by
  have hw : Region.wanted o (yielded ops a.tmps) = true := by simp [Region.wanted, hgd]
  rw [if_pos hw]
  obtain ⟨i0, hi, hz0, hz1, hz2⟩ := info_parts info_i64
  refine wpo_app w s x 34 ho base 3 i0 (.int .i64 0) 1 8 Try.underlying34 hi hz0 hz1 hz2 rfl (by decide) v n _ hs hown A m c (fun j => .int .i64 (f2 j)) hx (by rw [Nat.mul_one]; exact hr) (fun _ _ => rfl) (by simp only [maxLen]; omega) (by omega) hbase ?_
  intro A' c' w' h1 h2 h3 h4 h5 h6
  refine h A' c' w' (h1.as_ fun j _ => ?_) h2 h3 h4 h5 h6
  simp only [two, Nat.mul_one]
  split <;> rfl
theorem step_app_i0 (hgd : o.guard = none) (s x : Operand) (ho : o.op = .call { callee := .builtin .append, args := #[s, x], argTypes := #[34, 34] })
    (base : Nat) (v : Value) (hs : a.eval s = v) (hown : ∀ f, Ow w base 3 1 v 0 f)
    (A : Option Addr) (m c : Nat) (f2 : Nat → Int) (hx : a.eval x = .slice A m c) (hr : Is w A m f2) (hsz : m ≤ 17592186044416) (hbase : base ≤ w.heap.size)
    (h : ∀ A' c' w', Ow w' base 3 1 (.slice A' m c') m (fun j => .int .i64 (f2 j)) → m ≤ c' → c' ≤ maxLen → Below base w w' → w.grownBy w' v.ownBlock →
      (∀ g, (Value.slice A' m c').ownBlock = some g → v.ownBlock = some g ∨ g = w.heap.size) → K (a.put o.dst (.slice A' m c')) w') :
    if Region.wanted o (yielded ops a.tmps) = true then Oper.wp Try.prog o a w K Q else E := by
  refine step_app_i hgd s x ho base v 0 (fun _ => 0) hs (hown _) A m c f2 hx hr (by omega) hbase ?_
  intro A' c' w' h1 h2 h3 h4 h5 h6
  rw [Nat.zero_add] at h1 h2 h6 ⊢
  exact h A' c' w' (h1.as_ fun j _ => by simp) h2 h3 h4 h5 h6
/-- append of numbers inside a region whose order is open. -/
theorem step_app_ig (hw : Region.wanted o (yielded ops a.tmps) = true) (s x : Operand) (ho : o.op = .call { callee := .builtin .append, args := #[s, x], argTypes := #[34, 34] })
    (base : Nat) (v : Value) (n : Nat) (f : Nat → Int) (hs : a.eval s = v) (hown : Ow w base 3 1 v n (fun j => .int .i64 (f j)))
    (A : Option Addr) (m c : Nat) (f2 : Nat → Int) (hx : a.eval x = .slice A m c) (hr : Is w A m f2) (hsz : n + m ≤ 17592186044416) (hbase : base ≤ w.heap.size)
    (h : ∀ A' c' w', Ow w' base 3 1 (.slice A' (n + m) c') (n + m) (fun j => .int .i64 (if j < n then f j else f2 (j - n))) → n + m ≤ c' → c' ≤ maxLen → Below base w w' → w.grownBy w' v.ownBlock →
      (∀ g, (Value.slice A' (n + m) c').ownBlock = some g → v.ownBlock = some g ∨ g = w.heap.size) → K (a.put o.dst (.slice A' (n + m) c')) w') :
    if Region.wanted o (yielded ops a.tmps) = true then Oper.wp Try.prog o a w K Q else E := by
  rw [if_pos hw]
  obtain ⟨i0, hi, hz0, hz1, hz2⟩ := info_parts info_i64
  refine wpo_app w s x 34 ho base 3 i0 (.int .i64 0) 1 8 Try.underlying34 hi hz0 hz1 hz2 rfl (by decide) v n _ hs hown A m c (fun j => .int .i64 (f2 j)) hx (by rw [Nat.mul_one]; exact hr) (fun _ _ => rfl) (by simp only [maxLen]; omega) (by omega) hbase ?_
  intro A' c' w' h1 h2 h3 h4 h5 h6
  refine h A' c' w' (h1.as_ fun j _ => ?_) h2 h3 h4 h5 h6
  simp only [two, Nat.mul_one]
  split <;> rfl
theorem step_app_i0g (hw : Region.wanted o (yielded ops a.tmps) = true) (s x : Operand) (ho : o.op = .call { callee := .builtin .append, args := #[s, x], argTypes := #[34, 34] })
    (base : Nat) (v : Value) (hs : a.eval s = v) (hown : ∀ f, Ow w base 3 1 v 0 f)
    (A : Option Addr) (m c : Nat) (f2 : Nat → Int) (hx : a.eval x = .slice A m c) (hr : Is w A m f2) (hsz : m ≤ 17592186044416) (hbase : base ≤ w.heap.size)
    (h : ∀ A' c' w', Ow w' base 3 1 (.slice A' m c') m (fun j => .int .i64 (f2 j)) → m ≤ c' → c' ≤ maxLen → Below base w w' → w.grownBy w' v.ownBlock →
      (∀ g, (Value.slice A' m c').ownBlock = some g → v.ownBlock = some g ∨ g = w.heap.size) → K (a.put o.dst (.slice A' m c')) w') :
    if Region.wanted o (yielded ops a.tmps) = true then Oper.wp Try.prog o a w K Q else E := by
  refine step_app_ig hw s x ho base v 0 (fun _ => 0) hs (hown _) A m c f2 hx hr (by omega) hbase ?_
  intro A' c' w' h1 h2 h3 h4 h5 h6
  rw [Nat.zero_add] at h1 h2 h6 ⊢
  exact h A' c' w' (h1.as_ fun j _ => by simp) h2 h3 h4 h5 h6
/-- A call of a Go function of two arguments inside such a region. -/
theorem step_call2 (hw : Region.wanted o (yielded ops a.tmps) = true) (x y : Operand) (F : FuncId) (ts : Array TypeId) (ho : o.op = .call { callee := .value (.func F), args := #[x, y], argTypes := ts })
    (hF : (Try.prog.funcs[F]?).map (fun fn => (fn.name == "runtime.NumGoroutine", fn.body.isSome)) = some (false, true)) (vx vy v : Value) (hx : a.eval x = vx) (hy : a.eval y = vy) (R : World → Prop) (hc : Calls Try.prog F #[vx, vy] w fun e w' => e = .returned v ∧ R w') (h : ∀ w', R w' → K (a.put o.dst v) w') :
    if Region.wanted o (yielded ops a.tmps) = true then Oper.wp Try.prog o a w K Q else E := by
  rw [if_pos hw]
  have hr : (execOp a.eval o).run Try.prog w = .ok (.enter F #[vx, vy]) w := by
    have h1 : a.eval (.func F) = .func (.func F) #[] #[] := rfl
    obtain ⟨fn, hfn, hff⟩ := Option.map_eq_some_iff.1 hF
    simp only [Prod.mk.injEq] at hff
    have hn : fn.name ≠ "runtime.NumGoroutine" := by simpa using hff.1
    have hbd : fn.body ≠ none := by
      intro hh
      rw [hh] at hff
      exact absurd hff.2 (by simp)
    simp [hfn, hn, hbd, execOp, ho, resolve, invoke, Deferred.ofValue, callFunc, Sem.run_bind, Sem.run_pure, hx, hy, h1]
  unfold Oper.wp
  rw [hr, Oper.upon_enter]
  refine hc.mono fun e w' ⟨he, hR⟩ => ?_
  subst he
  exact h w' hR
end


/-- The front of a row of the call's own. -/
theorem Ow.less {w : World} {B : Nat} {e : TypeId} {A : Option Addr} {n c k : Nat} {f : Nat → Value} (h : Ow w B e 1 (.slice A n c) n f) (hk : k ≤ n) (h0 : 0 < n) : Ow w B e 1 (.slice A k c) k f := by
  obtain ⟨h1, h2⟩ := h
  refine ⟨by simp, ?_⟩
  rcases h2 with ⟨h2, h3⟩ | ⟨g, cap, cur, hv, hb, hg, hnc, hcm, hcs, ht⟩
  · injection h2 with _ h4 _
    omega
  · injection hv with q1 q2 q3
    subst q1 q3
    refine .inr ⟨g, _, cur, rfl, hb, hg, by omega, hcm, hcs, ?_⟩
    have : cur.toList.take (k * 1) = (cur.toList.take (n * 1)).take (k * 1) := by rw [List.take_take, Nat.min_eq_left (by omega)]
    rw [this, ht, ← List.map_take, List.take_range, Nat.min_eq_left (by omega)]
end Go.Proofs.Ytgmfclpnmhgapaa
