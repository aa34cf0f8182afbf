/- The rows of WireReads, in whatever order they are made. -/
import Derived.Test.YtjljaecjnpmdoaaWirLaw
import Derived.Test.YtjljaecjnpmdoaaFloat
import Derived.BigQuiet
import Derived.Deep.RegionHeld3
import Derived.Deep.Cut
namespace Go.Proofs.Ytjljaecjnpmdoaa
set_option linter.unusedVariables false
set_option linter.unusedSimpArgs false
open Go.RowKit Go.ChangeShapes Go.WideShapes Go.ChangeAt

theorem wpo_app_g {w : World} {o : Oper} {a : Act} {K : Act → World → Prop} {Q : Exit → Act → World → Prop} (hgd : o.guard = none) (s x : Operand) (ho : o.op = .call { callee := .builtin .append, args := #[s, x], argTypes := #[23, 23] })
    (base : Nat) (v : Value) (n : Nat) (f : Nat → Int) (hs : a.eval s = v) (hown : OB w base v n f)
    (A : Option Addr) (m c : Nat) (f2 : Nat → Int) (hx : a.eval x = .slice A m c) (hr : By w A m f2) (hsz : n + m ≤ 140737488355328) (hbase : base ≤ w.heap.size)
    (h : ∀ A' c' w', OB w' base (.slice A' (n + m) c') (n + m) (fun j => if j < n then f j else f2 (j - n)) → n + m ≤ c' → Below base w w' → w.grownBy w' v.ownBlock → (∀ g, (Value.slice A' (n + m) c').ownBlock = some g → v.ownBlock = some g ∨ g = w.heap.size) → K (a.put o.dst (.slice A' (n + m) c')) w') : Oper.wp Try.prog o a w K Q := by
  have := step_app_b (ops := #[]) (a := a) (K := K) (Q := Q) (E := True) hgd s x ho base v n f hs hown A m c f2 hx hr hsz hbase (fun A' c' w' h1 h2 _ h4 h5 h6 => h A' c' w' h1 h2 h4 h5 h6)
  rw [if_pos (by simp [Region.wanted, hgd])] at this
  exact this
/-- Two rows of one's own and a byte, none of them another's: what is there, of each that is made. -/
def WF (w0 w : World) (a : Bool) (rA : Value) (nA : Nat) (fA : Nat → Int) (b : Bool) (rB : Value) (nB : Nat) (fB : Nat → Int) (c : Bool) (u : Value) : Prop :=
  Below w0.heap.size w0 w ∧ (a = true → OB w w0.heap.size rA nA fA) ∧ (b = true → OB w w0.heap.size rB nB fB) ∧ (a = true → b = true → ∀ g, rA.ownBlock = some g → rB.ownBlock ≠ some g) ∧
    (c = true → ∃ g, u = .slice (some ⟨g, 0, none⟩) 1 1 ∧ g < w.heap.size ∧ w.cell? ⟨g, 0, none⟩ = some (.int .u8 0) ∧ (a = true → rA.ownBlock ≠ some g) ∧ (b = true → rB.ownBlock ≠ some g))
section
variable {w0 w w' : World} {a b c : Bool} {rA rB u : Value} {nA nB : Nat} {fA fB : Nat → Int}
theorem WF.swap (h : WF w0 w a rA nA fA b rB nB fB c u) : WF w0 w b rB nB fB a rA nA fA c u := by
  obtain ⟨h1, h2, h3, h4, h5⟩ := h
  refine ⟨h1, h3, h2, fun hb ha g e e' => h4 ha hb g e' e, fun hc => ?_⟩
  obtain ⟨g, e, x1, x2, x3, x4⟩ := h5 hc
  exact ⟨g, e, x1, x2, x4, x3⟩
theorem WF.empty (h : WF w0 w false rA nA fA b rB nB fB c u) : WF w0 (w.alloc (.cells #[] 5)) true (.slice (some ⟨w.heap.size, 0, none⟩) 0 0) 0 fA b rB nB fB c u := by
  obtain ⟨h1, h2, h3, h4, h5⟩ := h
  have hb := (Below.refl w.heap.size w).alloc (Nat.le_refl _) (.cells #[] 5)
  refine ⟨h1.alloc h1.size _, fun _ => OB.base (Ow.new' rfl) h1.size, fun e => (h3 e).alloc _, fun _ e g hg e' => ?_, fun hc => ?_⟩
  · have : g = w.heap.size := by simpa [Value.ownBlock] using hg.symm
    subst this
    exact ow_lt (h3 e) _ (Nat.le_refl _) e'
  · obtain ⟨g, e, x1, x2, x3, x4⟩ := h5 hc
    refine ⟨g, e, by simp; omega, (hb.cell (p := ⟨g, 0, none⟩) x1).trans x2, fun _ e' => ?_, x4⟩
    have : w.heap.size = g := by simpa [Value.ownBlock] using e'
    omega
theorem WF.grown {A' : Option Addr} {c' n' : Nat} {f' : Nat → Int} (h : WF w0 w true rA nA fA b rB nB fB c u) (hO : OB w' w0.heap.size (.slice A' n' c') n' f') (hb : Below w0.heap.size w w') (hg : w.grownBy w' rA.ownBlock)
    (hs : ∀ g, (Value.slice A' n' c').ownBlock = some g → rA.ownBlock = some g ∨ g = w.heap.size) : WF w0 w' true (.slice A' n' c') n' f' b rB nB fB c u := by
  obtain ⟨h1, h2, h3, h4, h5⟩ := h
  have hlt : ∀ g, rA.ownBlock = some g → g < w.heap.size := fun g e => by
    rcases Nat.lt_or_ge g w.heap.size with h | h
    · exact h
    · exact absurd e (ow_lt (h2 rfl) g h)
  have hk : b = true → OB w' w0.heap.size rB nB fB := fun e => by
    cases hr : rA.ownBlock with
    | none =>
      rw [hr] at hg
      exact OB.keep_ (h3 e) (below_of_none hg)
    | some g =>
      rw [hr] at hg
      exact OB.grown (h3 e) hg (fun e' => h4 rfl e g hr e')
  refine ⟨h1.trans (hb.mono (Nat.le_refl _)), fun _ => hO, hk, fun _ e g e1 e2 => ?_, fun hc => ?_⟩
  · rcases hs g e1 with x | x
    · exact h4 rfl e g x e2
    · subst x; exact ow_lt (h3 e) _ (Nat.le_refl _) e2
  · obtain ⟨g, e, x1, x2, x3, x4⟩ := h5 hc
    refine ⟨g, e, Nat.lt_of_lt_of_le x1 hg.size, ?_, fun _ e' => ?_, x4⟩
    · cases hr : rA.ownBlock with
      | none =>
        rw [hr] at hg
        exact ((below_of_none hg).cell (p := ⟨g, 0, none⟩) x1).trans x2
      | some g' =>
        rw [hr] at hg
        exact (World.cell?_of_block (a := ⟨g, 0, none⟩) (hg.block g x1 (fun e' => by injection e' with e'; subst e'; exact x3 rfl hr))).trans x2
    · rcases hs g e' with x | x
      · exact x3 rfl x
      · omega
theorem WF.one (h : WF w0 w a rA nA fA b rB nB fB false u) : WF w0 (w.alloc (.cells #[.int .u8 0] 5)) a rA nA fA b rB nB fB true (.slice (some ⟨w.heap.size, 0, none⟩) 1 1) := by
  obtain ⟨h1, h2, h3, h4, h5⟩ := h
  have hc := Ce.made (w := w) (l := [.int .u8 0]) (T := 5) rfl
  exact ⟨h1.alloc h1.size _, fun e => (h2 e).alloc _, fun e => (h3 e).alloc _, h4, fun _ => ⟨w.heap.size, rfl, hc.1, hc.2.1 0 _ rfl, fun e => ow_lt (h2 e) _ (Nat.le_refl _), fun e => ow_lt (h3 e) _ (Nat.le_refl _)⟩⟩
theorem WF.alloc (h : WF w0 w a rA nA fA b rB nB fB c u) (o : Obj) : WF w0 (w.alloc o) a rA nA fA b rB nB fB c u := by
  obtain ⟨h1, h2, h3, h4, h5⟩ := h
  have hb := (Below.refl w.heap.size w).alloc (Nat.le_refl _) o
  refine ⟨h1.alloc h1.size _, fun e => (h2 e).alloc _, fun e => (h3 e).alloc _, h4, fun hc => ?_⟩
  obtain ⟨g, e, x1, x2, x3, x4⟩ := h5 hc
  exact ⟨g, e, by simp; omega, (hb.cell (p := ⟨g, 0, none⟩) x1).trans x2, x3, x4⟩
theorem WF.by_ (h : WF w0 w a rA nA fA b rB nB fB true u) : ∃ g : Nat, u = .slice (some ⟨g, 0, none⟩) 1 1 ∧ By w (some ⟨g, 0, none⟩) 1 (fun _ => 0) := by
  obtain ⟨g, e, x1, x2, _⟩ := h.2.2.2.2 rfl
  exact ⟨g, e, fun _ => ⟨g, 0, rfl, x1, fun j hj => by obtain rfl : j = 0 := by omega
                                                       exact x2⟩⟩
end
/-- Where a row stands that is made in three steps. -/
def StC (L : Nat → Bool) (i0 i1 i2 : Nat) (u0 u1 u2 r : Value) (n : Nat) (f : Nat → Int) (n1 : Nat) (f1 : Nat → Int) (n2 : Nat) (f2 : Nat → Int) : Prop :=
  (L i0 = false ∧ L i1 = false ∧ L i2 = false) ∨ (L i0 = true ∧ L i1 = false ∧ L i2 = false ∧ u0 = r ∧ n = 0) ∨ (L i0 = true ∧ L i1 = true ∧ L i2 = false ∧ u1 = r ∧ n1 = n ∧ f1 = f) ∨ (L i0 = true ∧ L i1 = true ∧ L i2 = true ∧ u2 = r ∧ n2 = n ∧ f2 = f)
theorem StC.up_ {L : Nat → Bool} {i0 i1 i2 i : Nat} {u0 u1 u2 r : Value} {n n1 n2 : Nat} {f f1 f2 : Nat → Int} (h : StC L i0 i1 i2 u0 u1 u2 r n f n1 f1 n2 f2) (h0 : i0 ≠ i) (h1 : i1 ≠ i) (h2 : i2 ≠ i) : StC (up L i) i0 i1 i2 u0 u1 u2 r n f n1 f1 n2 f2 := by
  unfold StC at *
  rw [up_ne h0, up_ne h1, up_ne h2]
  exact h
end Go.Proofs.Ytjljaecjnpmdoaa
