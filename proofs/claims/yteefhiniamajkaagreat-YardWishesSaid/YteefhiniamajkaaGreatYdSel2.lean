/- A send in a region whose order is open. -/
import Derived.Test.YteefhiniamajkaaGreatGa
import Derived.Orders
namespace Go.Proofs.YteefhiniamajkaaGreat
set_option linter.unusedVariables false
open Go.RowKit Go.Conc Go.ChangeShapes Go.WideShapes Go.ChangeAt
section
variable {P : Program} {Q : Exit → Act → World → Prop} {a : Act} {w w' : World} {ops : Array Oper} {n : Nat} {rest : List Oper} {o : Oper} {v : Value}
/-- One operation, of frames of plain calls. -/
def StepN (P : Program) (ops : Array Oper) (i : Nat) (K : Act → World → Prop) (a : Act) (w : World) : Prop :=
  ∀ (b : Frame) (k : List Item) (cs : List Frame) (rest : List Nat), b.kind = .normal → ∃ a' w', K a' w' ∧ Steps P (lone (b.at a (.inRegion ops (i :: rest) :: k)) cs w) (lone (b.at a' (.inRegion ops rest :: k)) cs w')
theorem stepN_mono {i : Nat} {K K' : Act → World → Prop} (h : ∀ a w, K a w → K' a w) (hs : StepN P ops i K a w) : StepN P ops i K' a w := fun b k cs rest hb => by
  obtain ⟨a', w', hk, hst⟩ := hs b k cs rest hb
  exact ⟨a', w', h _ _ hk, hst⟩
theorem stepN_val {i : Nat} {K : Act → World → Prop} (hd : ops[i]? = some o) (hw : Region.wanted o (yielded ops a.tmps) = true) (he : (execOp a.eval o).run P w = .ok (.value v) w') (h : K (a.put o.dst v) w') : StepN P ops i K a w := by
  intro b k cs rest hb
  have hg := stepG_op (P := P) (b := b) (k := k) (cs := cs) (w := w) (rest := rest) hd hw
  have hfin : ∀ v, (b.at a (.inRegion ops (i :: rest) :: k)).finish v = b.at (a.put o.dst v) (.inRegion ops rest :: k) := by
    intro v; rw [Frame.finish_at, hd]; rfl
  refine ⟨_, _, h, .one (step_lone_go ?_)⟩
  rw [hg, ← hfin]
  simp [stepG.apply, he]
theorem stepN_comm {i : Nat} {K : Act → World → Prop} {cases : Array CommCase} {blocking : Bool} {shape : CommShape} (hd : ops[i]? = some o) (hw : Region.wanted o (yielded ops a.tmps) = true) (hr : (execOp a.eval o).run P w = .ok (.comm cases blocking shape) w)
    (hs : ∀ (fr : Frame) (cs : List Frame) (es : Array Event), stepG P true (G fr cs) w = .comm (G fr cs) cases blocking shape w es → step P (solo (G fr cs) w) = .next (solo (G (fr.finish v) cs) w'))
    (h : K (a.put o.dst v) w') : StepN P ops i K a w := by
  intro b k cs rest hb
  refine ⟨_, _, h, .one ?_⟩
  have h2 := hs (b.at a (.inRegion ops (i :: rest) :: k)) cs _ (stepG_comm (o := o) hd hw (by rw [hb]; decide) hr)
  rw [Frame.finish_at, hd] at h2
  exact h2
theorem stepN_send {i : Nat} {K : Act → World → Prop} {c cap s r : Nat} {l : List Value} {u z : Value} {tm : Bool} (hd : ops[i]? = some o) (hw : Region.wanted o (yielded ops a.tmps) = true) (hr : (execOp a.eval o).run P w = .ok (.comm #[scase c u z] true .send) w)
    (hc : w.heap[c]? = some (.chan cap l.toArray false s r tm)) (hroom : l.length < cap) (h : K (a.put o.dst undef) (w.setChan c cap (l ++ [u]).toArray false (s + 1) r tm)) : StepN P ops i K a w := by
  have e : l.toArray.push u = (l ++ [u]).toArray := by simp
  rw [← e] at h
  exact stepN_comm hd hw hr (fun _ _ _ h => step_lone_send_room h hc (by simpa using hroom)) h
/-- The operations of a region in whatever order. -/
def wpAnyN (P : Program) (ops : Array Oper) (Q : Exit → Act → World → Prop) : Nat → Array Bool → Act → World → Prop
  | 0, listed, a, w => Region.ready .any ops listed = [] ∧ Q .normal a w
  | fuel + 1, listed, a, w => (Region.ready .any ops listed = [] → Q .normal a w) ∧ ∀ i ∈ Region.ready .any ops listed, StepN P ops i (wpAnyN P ops Q fuel (listed.setIfInBounds i true)) a w
theorem anyN_only {fuel : Nat} {listed : Array Bool} (i : Nat) (hr : Region.ready .any ops listed = [i]) (h : StepN P ops i (wpAnyN P ops Q fuel (listed.setIfInBounds i true)) a w) : wpAnyN P ops Q (fuel + 1) listed a w :=
  ⟨fun e => (by rw [hr] at e; cases e), fun j hj => by rw [hr, List.mem_singleton] at hj; subst hj; exact h⟩
theorem anyN_two {fuel : Nat} {listed : Array Bool} (i j : Nat) (hr : Region.ready .any ops listed = [i, j]) (h : StepN P ops i (wpAnyN P ops Q fuel (listed.setIfInBounds i true)) a w) (h2 : StepN P ops j (wpAnyN P ops Q fuel (listed.setIfInBounds j true)) a w) : wpAnyN P ops Q (fuel + 1) listed a w :=
  ⟨fun e => (by rw [hr] at e; cases e), fun x hx => by
    rw [hr, List.mem_cons, List.mem_singleton] at hx
    rcases hx with rfl | rfl
    · exact h
    · exact h2⟩
theorem wpAnyN_sound : ∀ (fuel t : Nat) (listed : Array Bool) (a : Act) (w : World), wpAnyN P ops Q fuel listed a w → ∀ (b : Frame) (k : List Item) (cs : List Frame), b.kind = .normal →
    ∃ e a' w', Q e a' w' ∧ Arrives P (lone (b.at a (.inRegion ops (Region.linearise.go .any ops fuel t listed []) :: k)) cs w) b k cs e a' w' := by
  intro fuel
  induction fuel with
  | zero => intro t listed a w h b k cs _; exact ⟨.normal, a, w, h.2, by simp only [Region.linearise.go]; exact .one step_region_end⟩
  | succ fuel ih =>
    intro t listed a w h b k cs hb
    obtain ⟨h₀, h₁⟩ := h
    simp only [Region.linearise.go]
    change ∃ e a' w', Q e a' w' ∧ Arrives P (lone (b.at a (.inRegion ops (match (Region.ready .any ops listed)[t % (Region.ready .any ops listed).length]? with
      | some i => Region.linearise.go .any ops fuel (t / (Region.ready .any ops listed).length) (listed.setIfInBounds i true) [i]
      | none => [].reverse) :: k)) cs w) b k cs e a' w'
    cases hi : (Region.ready .any ops listed)[t % (Region.ready .any ops listed).length]? with
    | none =>
      have hnil : Region.ready .any ops listed = [] := by
        cases hr : Region.ready .any ops listed with
        | nil => rfl
        | cons x xs =>
          rw [hr] at hi
          have hlt : t % (x :: xs).length < (x :: xs).length := Nat.mod_lt _ (by simp)
          simp at hi
          simp at hlt
          omega
      exact ⟨.normal, a, w, h₀ hnil, .one step_region_end⟩
    | some i =>
      simp only []
      rw [linearise_go_acc, List.reverse_singleton, List.singleton_append]
      obtain ⟨a', w', hk, hst⟩ := h₁ i (List.mem_of_getElem? hi) b k cs _ hb
      obtain ⟨e, a'', w'', hq, harr⟩ := ih _ _ _ _ hk b k cs hb
      exact ⟨e, a'', w'', hq, .of_steps hst harr⟩
theorem wpN_draw {id : Nat} (hm : P.follows .mixedOrders = true) (h : wpAnyN P ops Q ops.size (Array.replicate ops.size false) a w.drew) : wpN P (.region id ops true) Q a w := by
  intro b k cs hb
  have key : ∀ t, ∃ e a' w', Q e a' w' ∧ Arrives P (lone (b.at a (.inRegion ops (Region.schedule (P.follows .mixedOrders) ops t) :: k)) cs w.drew) b k cs e a' w' := fun t => by
    simp only [Region.schedule, hm, Bool.true_or, if_true]
    exact wpAnyN_sound ops.size t _ a _ h b k cs hb
  obtain ⟨e, a', w', hq, harr⟩ := key _
  exact ⟨e, a', w', hq, .of_steps (.one step_region_draw) harr⟩
end
end Go.Proofs.YteefhiniamajkaaGreat
