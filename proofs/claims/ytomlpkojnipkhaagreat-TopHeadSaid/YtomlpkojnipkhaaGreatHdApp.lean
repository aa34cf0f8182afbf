/- Notes in a row of the call's own. -/
import Derived.Test.YtomlpkojnipkhaaGreatGa
import Derived.Test.YtomlpkojnipkhaaGreatHdNote
import Derived.BigQuiet
import Derived.Deep.RegionHeld3
import Derived.Deep.Cut
import Derived.IntWalk
import Derived.Great.BuildSlice
namespace Go.Proofs.YtomlpkojnipkhaaGreat
set_option linter.unusedVariables false
set_option linter.unusedSimpArgs false
open Go.RowKit Go.ChangeShapes Go.WideShapes Go.ChangeAt

theorem pub_un (h : Hd) : (pubH h).un = h.un := by
  unfold pubH
  split
  · rfl
  · split <;> rfl
theorem send_un (h : Hd) : (sendH h).un = h.un := by
  unfold sendH
  split
  · exact pub_un h
  · rfl
/-- What Send tells, and leaves. -/
def SentOk (w : World) (b c m n : Nat) (h : Hd) (x : Ending) (w' : World) : Prop :=
  ∃ (A : Option Addr) (cc : Nat), x = .returned (.slice A (notesK (sendH h) h.un).length cc) ∧ (notesK (sendH h) h.un).length ≤ cc ∧ HeadAt w' b c m n (sendH h) ∧ Ch [b, c, m] w w' ∧
    (0 < (notesK (sendH h) h.un).length → ∃ g : Nat, A = some ⟨g, 0, none⟩ ∧ w.heap.size ≤ g ∧ Fb w' g ((notesK (sendH h) h.un).length * 342) (ntf (notesK (sendH h) h.un)))
theorem ntf_app (l : List Nt) (x : Nt) (j : Nat) (hj : j < (l.length + 1) * 342) : two (l.length * 342) (ntf l) (ntc x) j = ntf (l ++ [x]) j := by
  unfold two ntf
  by_cases h : j < l.length * 342
  · rw [if_pos h]
    have : j / 342 < l.length := by omega
    simp [List.getD, List.getElem?_append_left this]
  · rw [if_neg h]
    have e1 : j / 342 = l.length := by omega
    have e2 : j - l.length * 342 = j % 342 := by omega
    rw [e1, e2]
    simp [List.getD]
theorem info_nf : (Tryz.prog.info? 90).map (fun i => (i.zero, i.size, i.bytes)) = some (some (.agg (NA zNt)), 342, 2728) := by kernel_rfl
theorem run_bs (x : Nt) (w : World) : (Instr.buildSlice 94 1 #[(0, .agg (FA 342 (ntc x)))]).run Tryz.prog w = .ok (.slice (some ⟨w.heap.size, 0, none⟩) 1 1) (w.alloc (.cells (FA 342 (ntc x)) 90)) := by
  obtain ⟨i0, hi, hz0, hz1, hz2⟩ := info_parts info_nf
  refine run_buildSlice (P := Tryz.prog) w _ _ 1 _ (FA 342 (ntc x)) i0 (.agg (NA zNt)) Tryz.underlying94 hi hz0 (by rw [hz1]; omega) (by rw [hz1]; omega) ?_
  rw [hz1]
  kernel_rfl
section
variable {S : List Nat} {W w : World} {L A B : List Th} {ops : Array Oper} {rest : List Oper} {Q : Exit → Act → World → Prop} {o : Oper} {a : Act} {K : Act → World → Prop}
theorem ow_bs {x : Operand} {nt : Nt} (ho : o.op = .buildSlice 94 1 #[(0, x)]) (hx : a.eval x = .agg (FA 342 (ntc nt))) (hS : HS S W w L)
    (h : ∀ U w', HS S W w' (thB U 342 (ntc nt) :: L) → K (a.put o.dst (.slice (some ⟨U, 0, none⟩) 1 1)) w') : o.wp Tryz.prog a w K Q := by
  refine ow_val (v := .slice (some ⟨w.heap.size, 0, none⟩) 1 1) (w' := w.alloc (.cells (FA 342 (ntc nt)) 90)) ?_ (h _ _ (hS.boxed (n := 342) (ntc nt)))
  unfold execOp
  simp only [ho, List.map_toArray, List.map_cons, List.map_nil, hx, Sem.run_bind, run_bs, Result.andThen_ok, Sem.run_pure]
/-- append of a note onto a row of the call's own. -/
theorem wp_app_n (hgd : o.guard = none) (s x : Operand) (ho : o.op = .call { callee := .builtin .append, args := #[s, x], argTypes := #[94, 94] })
    (base : Nat) (v : Value) (l : List Nt) (nt : Nt) (hs : a.eval s = v) (hown : OwN w base v l)
    (g c : Nat) (hx : a.eval x = .slice (some ⟨g, 0, none⟩) 1 c) (hr : Fb w g 342 (ntc nt)) (hsz : l.length ≤ 1000) (hbase : base ≤ w.heap.size)
    (h : ∀ A' c' w', OwN w' base (.slice A' (l.length + 1) c') (l ++ [nt]) → Below base w w' → wpList Tryz.prog ops Q rest (a.put o.dst (.slice A' (l.length + 1) c')) w') : wpList Tryz.prog ops Q (o :: rest) a w := by
  obtain ⟨i0, hi, hz0, hz1, hz2⟩ := info_parts info_nf
  refine wp_app w hgd s x 94 ho base 90 i0 (.agg (NA zNt)) 342 2728 Tryz.underlying94 hi hz0 hz1 hz2 (na_size _) (by decide) v l.length _ hs hown (some ⟨g, 0, none⟩) 1 c (ntc nt) hx hr.sl (fun j _ => ntc_one _ _) (by simp only [maxLen]; omega) (by omega) hbase ?_
  intro A' c' w' h1 h2 h3 h4 h5 h6
  refine h A' c' w' ?_ h4
  unfold OwN
  rw [List.length_append, List.length_singleton]
  exact h1.as_ fun j hj => ntf_app l nt j hj
end
theorem OwN.keep {w w' : World} {B : Nat} {v : Value} {l : List Nt} (h : OwN w B v l) {D : Nat} (hb : Below D w w') (hD : w.heap.size ≤ D) : OwN w' B v l := Ow.keep h hb hD
end Go.Proofs.YtomlpkojnipkhaaGreat

