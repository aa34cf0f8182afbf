/- Rows of bytes of the call's own. -/
import Derived.Test.YtjljaecjnpmdoaaBase
import Derived.RegionTactic
import Derived.Deep.RegionLaw
namespace Go.Proofs.Ytjljaecjnpmdoaa
set_option linter.unusedVariables false
open Go.RowKit Go.ChangeShapes Go.WideShapes Go.ChangeAt

theorem info_u8 : (Try.prog.info? 5).map (fun i => (i.zero, i.size, i.bytes)) = some (some (.int .u8 0), 1, 1) := by kernel_rfl

theorem elem_b : Try.prog.underlying 23 = some (.slice (Try.prog.elem 23)) := by kernel_rfl
theorem size_b (W : World) : (sizeOf (Try.prog.elem 23)).run Try.prog W = .ok 1 W := by kernel_rfl
theorem cut_from_b (A : Option Addr) (n c i : Nat) (hi : i ≤ n) (hn : n ≤ c) (z : Int) (hz : z = i) :
    ∃ A' : Option Addr, (∀ W : World, (Instr.slice 23 (.slice A n c) (some (.int .i64 z)) none none).run Try.prog W = .ok (.slice A' (n - i) (c - i)) W) ∧
      ∀ (w : World) (f : Nat → Int), By w A n f → By w A' (n - i) (fun j => f (i + j)) := by
  obtain ⟨A', h1, h2⟩ := cut_from elem_b size_b A n c i hi hn z hz
  exact ⟨A', h1, fun w f h => by simpa using h2 w (fun j => .int .u8 (f j)) (by rw [Nat.mul_one]; exact h)⟩
theorem cut_mid_b (A : Option Addr) (n c i k : Nat) (hi : i ≤ k) (hk : k ≤ n) (hn : n ≤ c) (z y : Int) (hz : z = i) (hy : y = k) :
    ∃ A' : Option Addr, (∀ W : World, (Instr.slice 23 (.slice A n c) (some (.int .i64 z)) (some (.int .i64 y)) none).run Try.prog W = .ok (.slice A' (k - i) (c - i)) W) ∧
      ∀ (w : World) (f : Nat → Int), By w A n f → By w A' (k - i) (fun j => f (i + j)) := by
  obtain ⟨A', h1, h2⟩ := cut_mid elem_b size_b A n c i k hi hk hn z y hz hy
  exact ⟨A', h1, fun w f h => by simpa using h2 w (fun j => .int .u8 (f j)) (by rw [Nat.mul_one]; exact h)⟩

section
variable {w : World} {ops : Array Oper} {rest : List Oper} {o : Oper} {a : Act} {Q : Exit → Act → World → Prop}
/-- append of bytes onto a row of the call's own. -/
theorem wp_app_b (hgd : o.guard = none) (s x : Operand) (ho : o.op = .call { callee := .builtin .append, args := #[s, x], argTypes := #[23, 23] })
    (base : Nat) (v : Value) (n : Nat) (f : Nat → Int) (hs : a.eval s = v) (hown : Ow w base 5 1 v n (fun j => .int .u8 (f j)))
    (A : Option Addr) (m c : Nat) (f2 : Nat → Int) (hx : a.eval x = .slice A m c) (hr : By w A m f2) (hsz : n + m ≤ 140737488355328) (hbase : base ≤ w.heap.size)
    (h : ∀ A' c' w', Ow w' base 5 1 (.slice A' (n + m) c') (n + m) (fun j => .int .u8 (if j < n then f j else f2 (j - n))) → n + m ≤ c' → c' ≤ maxLen → Below base w w' → w.grownBy w' v.ownBlock →
      (∀ g, (Value.slice A' (n + m) c').ownBlock = some g → v.ownBlock = some g ∨ g = w.heap.size) → wpList Try.prog ops Q rest (a.put o.dst (.slice A' (n + m) c')) w') : wpList Try.prog ops Q (o :: rest) a w := by
  obtain ⟨i0, hi, hz0, hz1, hz2⟩ := info_parts info_u8
  refine wp_app w hgd s x 23 ho base 5 i0 (.int .u8 0) 1 1 Try.underlying23 hi hz0 hz1 hz2 rfl (by decide) v n _ hs hown A m c (fun j => .int .u8 (f2 j)) hx (by rw [Nat.mul_one]; exact hr) (fun _ _ => rfl) (by simp only [maxLen]; omega) (by omega) hbase ?_
  intro A' c' w' h1 h2 h3 h4 h5 h6
  refine h A' c' w' (h1.as_ fun j _ => ?_) h2 h3 h4 h5 h6
  simp only [two, Nat.mul_one]
  split <;> rfl
/-- The first append, onto an empty row. -/
theorem wp_app_b0 (hgd : o.guard = none) (s x : Operand) (ho : o.op = .call { callee := .builtin .append, args := #[s, x], argTypes := #[23, 23] })
    (base : Nat) (v : Value) (hs : a.eval s = v) (hown : ∀ f, Ow w base 5 1 v 0 f)
    (A : Option Addr) (m c : Nat) (f2 : Nat → Int) (hx : a.eval x = .slice A m c) (hr : By w A m f2) (hsz : m ≤ 140737488355328) (hbase : base ≤ w.heap.size)
    (h : ∀ A' c' w', Ow w' base 5 1 (.slice A' m c') m (fun j => .int .u8 (f2 j)) → m ≤ c' → c' ≤ maxLen → Below base w w' → w.grownBy w' v.ownBlock →
      (∀ g, (Value.slice A' m c').ownBlock = some g → v.ownBlock = some g ∨ g = w.heap.size) → wpList Try.prog ops Q rest (a.put o.dst (.slice A' m c')) w') : wpList Try.prog ops Q (o :: rest) a w := by
  refine wp_app_b hgd s x ho base v 0 (fun _ => 0) hs (hown _) A m c f2 hx hr (by omega) hbase ?_
  intro A' c' w' h1 h2 h3 h4 h5 h6
  rw [Nat.zero_add] at h1 h2 h6 ⊢
  exact h A' c' w' (h1.as_ fun j _ => by simp) h2 h3 h4 h5 h6

variable {K : Act → World → Prop} {E : Prop}
/-- append of bytes inside a region whose order is open. -/
theorem step_app_b (hgd : o.guard = none) (s x : Operand) (ho : o.op = .call { callee := .builtin .append, args := #[s, x], argTypes := #[23, 23] })
    (base : Nat) (v : Value) (n : Nat) (f : Nat → Int) (hs : a.eval s = v) (hown : Ow w base 5 1 v n (fun j => .int .u8 (f j)))
    (A : Option Addr) (m c : Nat) (f2 : Nat → Int) (hx : a.eval x = .slice A m c) (hr : By w A m f2) (hsz : n + m ≤ 140737488355328) (hbase : base ≤ w.heap.size)
    (h : ∀ A' c' w', Ow w' base 5 1 (.slice A' (n + m) c') (n + m) (fun j => .int .u8 (if j < n then f j else f2 (j - n))) → n + m ≤ c' → c' ≤ maxLen → Below base w w' → w.grownBy w' v.ownBlock →
      (∀ g, (Value.slice A' (n + m) c').ownBlock = some g → v.ownBlock = some g ∨ g = w.heap.size) → K (a.put o.dst (.slice A' (n + m) c')) w') :
    if Region.wanted o (yielded ops a.tmps) = true then Oper.wp Try.prog o a w K Q else E := by
  have hw : Region.wanted o (yielded ops a.tmps) = true := by simp [Region.wanted, hgd]
  rw [if_pos hw]
  obtain ⟨i0, hi, hz0, hz1, hz2⟩ := info_parts info_u8
  refine wpo_app w s x 23 ho base 5 i0 (.int .u8 0) 1 1 Try.underlying23 hi hz0 hz1 hz2 rfl (by decide) v n _ hs hown A m c (fun j => .int .u8 (f2 j)) hx (by rw [Nat.mul_one]; exact hr) (fun _ _ => rfl) (by simp only [maxLen]; omega) (by omega) hbase ?_
  intro A' c' w' h1 h2 h3 h4 h5 h6
  refine h A' c' w' (h1.as_ fun j _ => ?_) h2 h3 h4 h5 h6
  simp only [two, Nat.mul_one]
  split <;> rfl
theorem step_app_b0 (hgd : o.guard = none) (s x : Operand) (ho : o.op = .call { callee := .builtin .append, args := #[s, x], argTypes := #[23, 23] })
    (base : Nat) (v : Value) (hs : a.eval s = v) (hown : ∀ f, Ow w base 5 1 v 0 f)
    (A : Option Addr) (m c : Nat) (f2 : Nat → Int) (hx : a.eval x = .slice A m c) (hr : By w A m f2) (hsz : m ≤ 140737488355328) (hbase : base ≤ w.heap.size)
    (h : ∀ A' c' w', Ow w' base 5 1 (.slice A' m c') m (fun j => .int .u8 (f2 j)) → m ≤ c' → c' ≤ maxLen → Below base w w' → w.grownBy w' v.ownBlock →
      (∀ g, (Value.slice A' m c').ownBlock = some g → v.ownBlock = some g ∨ g = w.heap.size) → K (a.put o.dst (.slice A' m c')) w') :
    if Region.wanted o (yielded ops a.tmps) = true then Oper.wp Try.prog o a w K Q else E := by
  refine step_app_b hgd s x ho base v 0 (fun _ => 0) hs (hown _) A m c f2 hx hr (by omega) hbase ?_
  intro A' c' w' h1 h2 h3 h4 h5 h6
  rw [Nat.zero_add] at h1 h2 h6 ⊢
  exact h A' c' w' (h1.as_ fun j _ => by simp) h2 h3 h4 h5 h6
end

/-- Two bytes stored one behind the other into a row of the call's own. -/
theorem pair_store {w : World} {B G c L : Nat} {f : Nat → Int} (O : Ow w B 5 1 (.slice (some ⟨G, 0, none⟩) L c) L (fun j => .int .u8 (f j))) (i : Nat) (hi : i + 1 < L) :
    w.cell? ⟨G, i, none⟩ = some (.int .u8 (f i)) ∧ w.frozen? ⟨G, i, none⟩ = false ∧ (∀ v, (w.setCell ⟨G, i, none⟩ v).cell? ⟨G, i + 1, none⟩ = some (.int .u8 (f (i + 1)))) ∧ (∀ v, (w.setCell ⟨G, i, none⟩ v).frozen? ⟨G, i + 1, none⟩ = false) ∧
      ∀ x y : Int, Ow ((w.setCell ⟨G, i, none⟩ (.int .u8 x)).setCell ⟨G, i + 1, none⟩ (.int .u8 y)) B 5 1 (.slice (some ⟨G, 0, none⟩) L c) L (fun j => .int .u8 (if j = i + 1 then y else if j = i then x else f j)) ∧
        Below B w ((w.setCell ⟨G, i, none⟩ (.int .u8 x)).setCell ⟨G, i + 1, none⟩ (.int .u8 y)) := by
  obtain ⟨_, e5, hB, _, cell5, fro5⟩ := O.block_ (by omega)
  injection e5 with e5
  injection e5 with e5
  subst e5
  refine ⟨cell5 _ (by omega), fro5 _, fun v => ?_, fun v => ?_, fun x y => ⟨?_, ?_⟩⟩
  · rw [World.cell?_setCell_other _ _ _ _ (by intro e; injection e; omega)]
    exact cell5 _ (by omega)
  · obtain ⟨_, e6, _, _, _, fro6⟩ := (O.store_ i v).block_ (by omega)
    injection e6 with e6
    injection e6 with e6
    subst e6
    exact fro6 _
  · refine ((O.store_ i (.int .u8 x)).store_ (i + 1) (.int .u8 y)).as_ fun j _ => ?_
    simp only [put1]
    split
    · rfl
    · split <;> rfl
  · exact ((Below.refl B w).setCell hB _).setCell hB _

/-- The text of the first n bytes. -/
def bstr (g : Nat → Int) (n : Nat) : ByteArray := ((List.range n).map g).foldl (fun r z => r.push (UInt8.ofNat z.toNat)) ByteArray.empty
theorem bstr_ext {g g' : Nat → Int} {n : Nat} (h : ∀ j, j < n → g j = g' j) : bstr g n = bstr g' n := by
  unfold bstr
  rw [List.map_congr_left (fun j hj => h j (by simpa using hj))]
theorem conv_str {w : World} {A : Option Addr} {n : Nat} (c : Nat) {g : Nat → Int} (h : By w A n g) : (convert 23 9 (.slice A n c)).run Try.prog w = .ok (.string (bstr g n)) w := by
  rw [run_convert_bytes_string w 23 9 5 A n c Try.underlying23 Try.underlying5 Try.underlying9]
  rcases Nat.eq_zero_or_pos n with h0 | h0
  · subst h0
    rcases A with _ | ad
    · rfl
    · exact run_bytesToString w ad 0 c [] (run_loadCells w ad 0 (fun _ => undef) (fun j hj => absurd hj (by omega)))
  · obtain ⟨b, off, rfl, hb, hc⟩ := h h0
    refine run_bytesToString w _ n c _ ?_
    rw [run_loadCells w _ n (fun j => .int .u8 (g j)) (fun j hj => by rw [add_plain]; exact hc j hj), List.map_map]
    rfl
end Go.Proofs.Ytjljaecjnpmdoaa
