/- What PoolMoves keeps in memory. -/
import Derived.Test.YtdobcdhdeagekaaPolRow
import Derived.Test.YtdobcdhdeagekaaFloat2
import Derived.BigQuiet
import Derived.Deep.RegionHeld3
import Derived.Deep.Cut
namespace Go.Proofs.Ytdobcdhdeagekaa
set_option linter.unusedVariables false
set_option linter.unusedSimpArgs false
open Go.RowKit Go.ChangeShapes Go.WideShapes Go.ChangeAt

/-- A row of entries, whole, in a block of its own. -/
def RowIs (w : World) (u : Value) (l : List En) : Prop := ∃ g : Nat, u = .slice (some ⟨g, 0, none⟩) l.length l.length ∧ Se w (some ⟨g, 0, none⟩) l.length (gl l)
theorem RowIs.below {w w' : World} {u : Value} {l : List En} (h : RowIs w u l) (hb : Below w.heap.size w w') : RowIs w' u l := by
  obtain ⟨g, e, hs⟩ := h
  exact ⟨g, e, hs.below hb (Nat.le_refl _)⟩
theorem RowIs.alloc {w : World} {u : Value} {l : List En} (h : RowIs w u l) (o : Obj) : RowIs (w.alloc o) u l := h.below ((Below.refl _ _).alloc (Nat.le_refl _) o)
theorem RowIs.made {w : World} {T : TypeId} (l : List En) : RowIs (w.alloc (.cells (l.flatMap enL).toArray T)) (.slice (some ⟨w.heap.size, 0, none⟩) l.length l.length) l := ⟨_, rfl, se_made l rfl⟩
/-- A row of numbers, whole. -/
def NumIs (w : World) (u : Value) (l : List Int) : Prop := ∃ g : Nat, u = .slice (some ⟨g, 0, none⟩) l.length l.length ∧ Ce w g (l.map (Value.int .i64))
theorem NumIs.below {w w' : World} {u : Value} {l : List Int} (h : NumIs w u l) (hb : Below w.heap.size w w') : NumIs w' u l := by
  obtain ⟨g, e, hs⟩ := h
  exact ⟨g, e, hs.below hb⟩
theorem NumIs.alloc {w : World} {u : Value} {l : List Int} (h : NumIs w u l) (o : Obj) : NumIs (w.alloc o) u l := h.below ((Below.refl _ _).alloc (Nat.le_refl _) o)
theorem NumIs.made {w : World} {T : TypeId} (l : List Int) : NumIs (w.alloc (.cells (l.map (Value.int .i64)).toArray T)) (.slice (some ⟨w.heap.size, 0, none⟩) l.length l.length) l := ⟨_, rfl, Ce.made rfl⟩
section
variable {w : World} {o : Oper} {a : Act} {K : Act → World → Prop} {Q : Exit → Act → World → Prop}
/-- append of a row of entries onto a row of the call's own, in a region. -/
theorem wpo_app_es (s x : Operand) (ho : o.op = .call { callee := .builtin .append, args := #[s, x], argTypes := #[51, 51] })
    (base : Nat) (v : Value) (m : Nat) (G : Nat → En) (hs : a.eval s = v) (hown : OwE w base v m G)
    (A : Option Addr) (k c : Nat) (g : Nat → En) (hx : a.eval x = .slice A k c) (hr : Se w A k g) (hg : ∀ j, j < k → g j = G (m + j)) (hsz : m + k ≤ 1000000) (hbase : base ≤ w.heap.size)
    (h : ∀ A' c' w', OwE w' base (.slice A' (m + k) c') (m + k) G → Below base w w' → K (a.put o.dst (.slice A' (m + k) c')) w') : o.wp Try.prog a w K Q := by
  obtain ⟨i0, hi, hz0, hz1, hz2⟩ := info_parts info_e
  refine wpo_app w s x 51 ho base 43 i0 (.agg #[.int .i64 0, .int .i64 0, .int .i64 0, .int .i64 0, .int .i64 0, .int .u64 0, .int .u64 0]) 7 56 Try.underlying51 hi hz0 hz1 hz2 rfl (by decide) v m _ hs hown A k c _ hx hr (fun j _ => enc_one _ _) (by simp only [maxLen]; omega) (by omega) hbase ?_
  intro A' c' w' h1 h2 h3 h4 h5 h6
  refine h A' c' w' ?_ h4
  unfold OwE
  refine h1.as_ fun j hj => ?_
  unfold two
  by_cases hjm : j < m * 7
  · rw [if_pos hjm]
  · rw [if_neg hjm]
    have e1 : (j - m * 7) / 7 = j / 7 - m := by omega
    have e2 : (j - m * 7) % 7 = j % 7 := by omega
    dsimp only
    rw [e1, e2, hg _ (by omega), show m + (j / 7 - m) = j / 7 by omega]
end
end Go.Proofs.Ytdobcdhdeagekaa
