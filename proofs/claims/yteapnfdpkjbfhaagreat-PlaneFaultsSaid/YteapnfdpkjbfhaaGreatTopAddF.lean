/- What these texts name of the common ones, beside what lies there. -/
import Derived.Test.YteapnfdpkjbfhaaGreatGa
import Derived.BigQuiet
import Derived.Deep.RegionHeld3
import Derived.Deep.RegionWith
import Derived.Deep.Cut
import Derived.IntWalk
namespace Go.Proofs.YteapnfdpkjbfhaaGreat
set_option linter.unusedVariables false
set_option linter.unusedSimpArgs false
open Go.RowKit Go.ChangeShapes Go.WideShapes Go.ChangeAt
set_option maxRecDepth 100000
variable {P : Program} {v : Value} {H : Type} {enc : TypeId × Value → H} {S : List Nat} {W w : World}
theorem own_ : ownKnob Tryz.prog.godebug = none := by kernel_rfl
theorem laid_ : laidOutB Tryz.prog = true := by kernel_rfl
theorem trodAll_below {W W' : World} (hb : Below W.heap.size W W') : ∀ {ts : List TypeId} {vs : List Value} {ds : List (DataW H)} {ps : List MemPlace}, (∀ t ∈ ts, Tryz.prog.readableRec t = true ∧ t < Tryz.prog.types.size) →
 DataW.TrodAll enc Tryz.prog W 0 (fun _ => true) true ts vs ds ps → (∀ x ∈ ps, x.block < W.heap.size) → DataW.TrodAll enc Tryz.prog W' 0 (fun b => decide (b < W.heap.size)) true ts vs ds ps
 | [], [], [], _, _, h, _ => h
 | t :: ts, v :: vs, d :: ds, _, hT, ⟨p, q, h1, h2, e⟩, hs => by
   subst e
   exact ⟨p, q, Below.trod laid_ (hT t (List.mem_cons.2 (Or.inl rfl))).1 (hT t (List.mem_cons.2 (Or.inl rfl))).2 h1 hb (fun x hx => hs x (List.mem_append_left _ hx)),
    trodAll_below hb (fun t ht => hT t (List.mem_cons.2 (Or.inr ht))) h2 (fun x hx => hs x (List.mem_append_right _ hx)), rfl⟩
theorem trod_len {W : World} {b : Nat} {sp : Nat → Bool} {hd : Bool} : ∀ {ts : List TypeId} {vs : List Value} {ds : List (DataW H)} {ps : List MemPlace}, DataW.TrodAll enc Tryz.prog W b sp hd ts vs ds ps → ds.length = ts.length
 | [], [], [], _, _ => rfl
 | _ :: ts, _ :: vs, _ :: ds, _, ⟨_, _, _, h2, _⟩ => by simp [trod_len h2]
set_option maxRecDepth 100000 in
/-- A slice of whole numbers of whatever kind that came in. -/
theorem open_row {W : World} {base : Nat} {t e : TypeId} {k : IntKind} {v : Value} {d : DataW H} {ps : List MemPlace} (ht : Tryz.prog.underlying t = some (.slice e)) (he : Tryz.prog.underlying e = some (.int k)) (hc : Tryz.prog.cellsOf e = 1)
 (hval : Value.okWide Tryz.prog W .any base t v) (h : DataW.Trod enc Tryz.prog W 0 (fun _ => true) true t v d ps) :
 ∃ (A : Option Addr) (n c : Nat) (g : Nat → Int), v = .slice A n c ∧ n ≤ c ∧ c ≤ maxLen ∧ Sl W A n (fun j => .int k (g j)) ∧ (∀ j, (Lit.int k (g j)).wf = true) ∧ (∀ ad, A = some ad → 0 < n → ad.block < W.heap.size) ∧
   (d = .nil ∧ c = 0 ∨ ∃ xs ys, d = .slice xs ys ∧ xs.length + ys.length = c) := by
 have wf0 : (Lit.int k 0).wf = true := by cases k <;> rfl
 obtain ⟨A, n, c, rfl⟩ := okWide_slice ht hval
 obtain ⟨fuel, hf⟩ := h
 rcases open_ints ht he hc hf with ⟨hcs, hx⟩ | ⟨a, len', cap', zs, hcs, _, hl, hm, hz, hx, hcell, hwz⟩
 ·simp [Value.cells] at hcs
  obtain ⟨rfl, rfl, rfl⟩ := hcs
  simp only [Prod.mk.injEq] at hx
  exact ⟨none, 0, 0, fun _ => 0, rfl, Nat.le_refl _, Nat.zero_le _, Sl.nil _ _ _, (fun _ => wf0), (fun _ h _ => by cases h), .inl ⟨hx.1, rfl⟩⟩
 ·simp [Value.cells] at hcs
  obtain ⟨rfl, rfl, rfl⟩ := hcs
  simp only [if_true] at hz
  simp only [Prod.mk.injEq] at hx
  have hlt : 0 < n → ∃ b off : Nat, a = ⟨b, off, none⟩ ∧ b < W.heap.size := by
   intro h0
   obtain ⟨b, off, spot⟩ := a
   have h1 := hcell 0 (by omega)
   have hs : spot = none := by simpa [Addr.add] using World.cell?_spot h1
   subst hs
   refine ⟨b, off, rfl, ?_⟩
   rcases Nat.lt_or_ge b W.heap.size with hlt | hge
   ·exact hlt
   ·simp [World.cell?, Addr.add, Array.getElem?_eq_none hge] at h1
  refine ⟨some a, n, c, fun j => zs.getD j 0, rfl, hl, hm, ?_, fun j => ?_, fun ad e h0 => ?_, .inr ⟨_, _, hx.1, by simp [lits]; omega⟩⟩
  ·intro h0
   obtain ⟨b, off, rfl, hb⟩ := hlt h0
   refine ⟨b, off, rfl, hb, fun j hj => ?_⟩
   rw [← add_plain]
   exact hcell j (by omega)
  ·rcases Nat.lt_or_ge j zs.length with hj | hj
   ·refine hwz _ ?_
    simp only [List.getD_eq_getElem?_getD, List.getElem?_eq_getElem hj, Option.getD_some]
    exact List.getElem_mem hj
   ·simp only [List.getD_eq_getElem?_getD, List.getElem?_eq_none hj, Option.getD_none]
    exact wf0
  ·obtain ⟨b, off, rfl, hb⟩ := hlt h0
   have e := Option.some.inj e
   subst e
   exact hb
set_option maxRecDepth 100000 in
/-- THE LAST STEP OF A LAW: it answers true and leaves all that was as it was. -/
theorem law_step {os : Os} (started : os.Started) {K : FuncId} {fn : Func} {s : ChangeSpec} {tb : TypeId} (noInit : Tryz.prog.inits.idxOf? K = none) (hfn : Tryz.prog.funcs[K]? = some fn)
 (witness : ∃ (w : World) (tape : Tape) (i : Input), w.os = os ∧ (w.forCall tape i).Shaped Tryz.prog ∧ i.vars = [] ∧ Input.okWide Tryz.prog (w.forCall tape i) .any w.heap.size K i ∧
  s.pre6 enc Tryz.prog fn [] false (w.forCall tape i).memory i.args ∧ ({} : Assume).holds Tryz.prog (lone (Frame.enter Tryz.prog K i.args .normal) [] (w.forCall tape i)))
 (hv : s.vars = []) (hrd : ∀ t ∈ fn.params.toList, Tryz.prog.readableRec t = true ∧ t < Tryz.prog.types.size) (hres : fn.resultTypes = #[tb]) (htb : Tryz.prog.underlying tb = some .bool)
 (hs : ∀ ds : List (DataW H), ds.length = fn.params.toList.length → s.fn H ds = { results := [.lit (.bool true)], args := ds })
 (walk : ∀ (W : World) (base : Nat) (args : Array Value) (ds : List (DataW H)) (ps : List MemPlace), (∀ (j : Nat) t v, fn.params[j]? = some t → args[j]? = some v → Value.okWide Tryz.prog W .any base t v) →
  DataW.TrodAll enc Tryz.prog W 0 (fun _ => true) true fn.params.toList args.toList ds ps → (DataW.weightsEach Tryz.prog fn.params.toList ds).all (· ≤ reachBytes) = true →
  Calls Tryz.prog K args W fun e W' => e = .returned (.bool true) ∧ Below W.heap.size W W') :
 ReturnsInHanded {} Tryz.checked os K .any (s.pre6 enc Tryz.prog fn [] false) (s.post enc Tryz.prog fn false true false false) := by
 refine returnsInHanded_of_change_sized (C := Tryz.checked) own_ started noInit hfn witness ?_
 intro W base args ds gs before hval hW _ hsz _
 have hlt : ∀ x ∈ before, x.block < W.heap.size := fun x hx => by simpa using hW.lt x hx
 have hW' := hW
 obtain ⟨p, q, hA, hV, rfl, _, _⟩ := hW
 rw [hv] at hV
 obtain ⟨rfl, rfl⟩ := trodVars_none hV
 have hsz' : (DataW.weightsEach Tryz.prog fn.params.toList ds).all (· ≤ reachBytes) = true := by
  have h1 : DataSpec.varTypes Tryz.checked.prog s.plain = [] := by simp [ChangeSpec.plain, DataSpec.varTypes, hv]
  rw [h1, List.append_nil, List.append_nil] at hsz
  exact hsz
 refine (walk W base args ds p hval hA hsz').mono fun e W' ⟨he, hb⟩ => ?_
 subst he
 have hlen := trod_len hA
 have hfn' := hs ds hlen
 refine ⟨_, rfl, ds, [], _, [], p, [], hW', ?_, ?_, ?_, hb.frame _, fun h => by cases h⟩
 ·rw [hres, List.append_nil, hfn']
  exact trodAll_cons_mk (shut_bool htb true) trodAll_mk0
 ·rw [List.append_nil, hfn']
  exact trodAll_below hb hrd hA (fun x hx => hlt x (List.mem_append_left _ hx))
 ·rw [hv, List.append_nil, hfn']
  rfl
end Go.Proofs.YteapnfdpkjbfhaaGreat
