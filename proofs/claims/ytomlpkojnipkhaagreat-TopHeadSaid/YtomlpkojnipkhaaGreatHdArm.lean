/- Channels and maps that are made; a word is laid. -/
import Derived.Test.YtomlpkojnipkhaaGreatGa
import Derived.Test.YtomlpkojnipkhaaGreatHdSel
import Derived.BigQuiet
import Derived.Deep.RegionHeld3
import Derived.Deep.Cut
namespace Go.Proofs.YtomlpkojnipkhaaGreat
set_option linter.unusedVariables false
set_option linter.unusedSimpArgs false
open Go.RowKit Go.ChangeShapes Go.WideShapes Go.ChangeAt

def thCh (c : Nat) (q : List En) : Th := ⟨fun w => ∃ s r, w.heap[c]? = some (.chan 200 (q.map enV).toArray false s r false), [c], fun _ _ ⟨s, r, h⟩ e => ⟨s, r, (e c (by simp)).trans h⟩, fun _ ⟨_, _, h⟩ x hx => by simp at hx; subst hx; exact chan_lt h⟩
def thM (m n : Nat) (M : Int → Option Wd) : Th := ⟨fun w => HMap w m n M, [m], fun _ _ h e => h.same (e m (by simp)), fun _ h x hx => by simp at hx; subst hx; exact h.lt⟩
theorem HMap.update {w : World} {m n : Nat} {M : Int → Option Wd} (h : HMap w m n M) (hn : n ≤ 1000000) (s : Int) (hs : IHd s) (l : Wd) :
    ∃ w', (Instr.mapUpdate 185 (.map (some m)) (.int .i64 s) (wdV l)).run Tryz.prog w = .ok () w' ∧ HMap w' m (n + 1) (hupd M s (some l)) ∧ Ch [m] w w' := by
  obtain ⟨D, h1, h2, h3⟩ := h
  obtain ⟨w', hrun, hown, hg⟩ := h1.update keyedW Tryz.underlying185 (by unfold maxLen; omega) (hkey_of hs) (wdR_at l)
  refine ⟨w', hrun, HMap.put_ h2 h3 s l hown, ⟨hg.os, hg.tape, hg.output⟩, hg.size, fun k hk hs => hg.block k hk (fun e => hs (by injection e with e; simp [e]))⟩
theorem mk_chan (w : World) : (Instr.makeChan 184 (.int .i64 200)).run Tryz.prog w = .ok (.chan (some w.heap.size)) (w.alloc (.chan 200 #[] false 0 0 false)) := by
  have h : (Tryz.prog.info? 79).map (·.bytes) = some 56 := by kernel_rfl
  obtain ⟨i, hi, hb⟩ := Option.map_eq_some_iff.1 h
  exact Go.Conc.run_makeChan (P := Tryz.prog) (w := w) Tryz.underlying184 hi .i64 200 (by omega) (by rw [hb]; omega)
section
variable {S : List Nat} {W w : World} {L A B : List Th} {Q : Exit → Act → World → Prop} {o : Oper} {a : Act} {K : Act → World → Prop}
theorem ow_mkchan {x : Operand} (ho : o.op = .makeChan 184 x) (hx : a.eval x = .int .i64 200) (hS : HS S W w L)
    (h : ∀ c w', HS S W w' (thCh c [] :: L) → W.heap.size ≤ c → K (a.put o.dst (.chan (some c))) w') : o.wp Tryz.prog a w K Q := by
  refine ow_val (v := .chan (some w.heap.size)) (w' := w.alloc (.chan 200 #[] false 0 0 false)) ?_ (h _ _ (hS.new (thCh w.heap.size []) ((Below.refl _ _).alloc (Nat.le_refl _) _) ⟨0, 0, heap_alloc_new w _⟩ (by simp [thCh]) (fun b hb => by simp [thCh] at hb; omega)) hS.wsize)
  unfold execOp
  simp only [ho, hx, Sem.run_bind, mk_chan, Result.andThen_ok, Sem.run_pure]
theorem ow_mkmap (ho : o.op = .makeMap 185 none) (hS : HS S W w L)
    (h : ∀ m w', HS S W w' (thM m 0 (fun _ => none) :: L) → W.heap.size ≤ m → K (a.put o.dst (.map (some m))) w') : o.wp Tryz.prog a w K Q := by
  have hmm := @run_makeMap Tryz.prog
  refine ow_val (v := .map (some w.heap.size)) (w' := w.alloc (.map #[] 0)) ?_ (h _ _ (hS.new (thM w.heap.size 0 (fun _ => none)) ((Below.refl _ _).alloc (Nat.le_refl _) _) (HMap.made w) (by simp [thM]) (fun b hb => by simp [thM] at hb; omega)) hS.wsize)
  unfold execOp
  simp only [ho]
  go_simp
end
section
variable {P : Program} {w : World} {v : Value} {f : Operand → Value} {o : Oper} {T : TypeId} {i1 i2 i3 i4 i5 : Nat} {x1 x2 x3 x4 x5 : Operand} {v1 v2 v3 v4 v5 : Value}
theorem ex_build2 (ho : o.op = .build T #[(i1, x1), (i2, x2)]) (h1 : f x1 = v1) (h2 : f x2 = v2) (hl : (Instr.build T #[(i1, v1), (i2, v2)]).run P w = .ok v w) : (execOp f o).run P w = .ok (.value v) w := by
  unfold execOp; simp only [ho, List.map_toArray, List.map_cons, List.map_nil, h1, h2, Sem.run_bind, hl, Result.andThen_ok, Sem.run_pure]
theorem ex_build3 (ho : o.op = .build T #[(i1, x1), (i2, x2), (i3, x3)]) (h1 : f x1 = v1) (h2 : f x2 = v2) (h3 : f x3 = v3) (hl : (Instr.build T #[(i1, v1), (i2, v2), (i3, v3)]).run P w = .ok v w) : (execOp f o).run P w = .ok (.value v) w := by
  unfold execOp; simp only [ho, List.map_toArray, List.map_cons, List.map_nil, h1, h2, h3, Sem.run_bind, hl, Result.andThen_ok, Sem.run_pure]
theorem ex_build5 (ho : o.op = .build T #[(i1, x1), (i2, x2), (i3, x3), (i4, x4), (i5, x5)]) (h1 : f x1 = v1) (h2 : f x2 = v2) (h3 : f x3 = v3) (h4 : f x4 = v4) (h5 : f x5 = v5) (hl : (Instr.build T #[(i1, v1), (i2, v2), (i3, v3), (i4, v4), (i5, v5)]).run P w = .ok v w) : (execOp f o).run P w = .ok (.value v) w := by
  unfold execOp; simp only [ho, List.map_toArray, List.map_cons, List.map_nil, h1, h2, h3, h4, h5, Sem.run_bind, hl, Result.andThen_ok, Sem.run_pure]
end
theorem build_hdF (p a : Pl) (c : Nat) (u : Int) (m : Nat) (w : World) : (Instr.build 187 #[(0, .agg (FA 330 (pc p))), (1, .agg (FA 330 (pc a))), (2, .chan (some c)), (4, .int .i64 u), (5, .map (some m))]).run Tryz.prog w = .ok (.agg (FA 670 (hdc p a c zEn u m))) w := build_hd p a c u m w
theorem HS.boxed {S : List Nat} {W w : World} {L : List Th} (h : HS S W w L) {n : Nat} (f : Nat → Value) {T : TypeId} : HS S W (w.alloc (.cells (FA n f) T)) (thB w.heap.size n f :: L) :=
  h.new (thB w.heap.size n f) ((Below.refl _ _).alloc (Nat.le_refl _) _) (Fb.made rfl) (by simp [thB]) (fun b hb => by simp [thB] at hb; omega)
theorem HS.head {S : List Nat} {W w : World} {L : List Th} {b c m n : Nat} {p a : Pl} {q : List En} {la : En} {un : Nat} {M : Int → Option Wd} {wd : Nat → Wd}
    (h : HS S W w (thB b 670 (hdc p a c la un m) :: thM m n M :: thCh c q :: L)) (hw : ∀ i : Nat, i < un → M i = some (wd i)) : HS S W w (thH b c m n ⟨p, a, q, la, un, wd⟩ :: L) := by
  have hF : Fb w b 670 (hdc p a c la un m) := h.nth 0 rfl
  have hM : HMap w m n M := h.nth 1 rfl
  have hC : ∃ s r, w.heap[c]? = some (.chan 200 (q.map enV).toArray false s r false) := h.nth 2 rfl
  obtain ⟨h1, h2, h3, h4⟩ := h
  have h3' := h3
  simp only [List.flatMap_cons, thB, thM, thCh, List.nodup_append, List.cons_append, List.nil_append, List.nodup_cons, List.mem_cons, not_or] at h3'
  obtain ⟨⟨n1, n2, n3⟩, ⟨n4, n5⟩, n6, n7⟩ := h3'
  refine ⟨fun t ht => ?_, h2, ?_, fun x hx => ?_⟩
  · rcases List.mem_cons.1 ht with rfl | ht
    · exact ⟨hF, hC, ⟨M, hM, hw⟩, n2, n1, fun e => n4 e.symm⟩
    · exact h1 t (by simp [ht])
  · simp only [List.flatMap_cons, thH, List.cons_append, List.nil_append, List.nodup_cons, List.mem_cons, not_or]
    exact ⟨⟨n2, n1, n3⟩, ⟨fun e => n4 e.symm, n6⟩, n5, n7⟩
  · refine h4 x ?_
    simp only [List.flatMap_cons, thH, thB, thM, thCh, List.cons_append, List.nil_append, List.mem_cons] at hx ⊢
    rcases hx with h | h | h | h
    · exact .inl h
    · exact .inr (.inr (.inl h))
    · exact .inr (.inl h)
    · exact .inr (.inr (.inr h))
end Go.Proofs.YtomlpkojnipkhaaGreat

