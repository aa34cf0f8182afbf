/- Things that lie in blocks of their own, and what each operation does to them. -/
import Derived.Test.YtppcanaelagfmaaFb
import Derived.BigQuiet
import Derived.Deep.RegionHeld3
import Derived.Deep.Cut
namespace Go.Proofs.Ytppcanaelagfmaa
set_option linter.unusedVariables false
set_option linter.unusedSimpArgs false
open Go.RowKit Go.ChangeShapes Go.WideShapes Go.ChangeAt

/-- A thing: what is known of it in a world, by its blocks alone. -/
structure Th where
  at_ : World → Prop
  bs : List Nat
  keep : ∀ w w' : World, at_ w → (∀ b, b ∈ bs → w'.heap[b]? = w.heap[b]?) → at_ w'
  lt : ∀ w : World, at_ w → ∀ b, b ∈ bs → b < w.heap.size
def thB (b n : Nat) (f : Nat → Value) : Th := ⟨fun w => Fb w b n f, [b], fun _ _ h e => h.same (e b (by simp)), fun _ h x hx => by simp at hx; subst hx; exact h.1⟩
def thC (b : Nat) (l : List Value) : Th := ⟨fun w => Ce w b l, [b], fun _ _ h e => ⟨lt_of_same h.1 (e b (by simp)), fun j v hj => (World.cell?_of_block (a := ⟨b, j, none⟩) (e b (by simp))).trans (h.2.1 j v hj), fun j => (World.frozen?_of_block (a := ⟨b, j, none⟩) (e b (by simp))).trans (h.2.2 j)⟩, fun _ h x hx => by simp at hx; subst hx; exact h.1⟩
/-- Things, all apart; all else is as it was, but for new blocks and those of S. -/
def HS (S : List Nat) (W w : World) (L : List Th) : Prop := (∀ t, t ∈ L → t.at_ w) ∧ Ch S W w ∧ (L.flatMap Th.bs).Nodup ∧ ∀ b, b ∈ L.flatMap Th.bs → b ∈ S ∨ W.heap.size ≤ b
section
variable {S : List Nat} {W w w' : World} {L A B : List Th} {t t' : Th}
theorem HS.start : HS S W W [] := ⟨fun _ h => (by cases h), Ch.refl _ _, by simp, fun _ h => (by simp at h)⟩
theorem HS.start1 (t : Th) (ht : t.at_ W) (hn : t.bs.Nodup) (hS : ∀ b, b ∈ t.bs → b ∈ S) : HS S W W [t] :=
  ⟨fun x hx => by simp at hx; subst hx; exact ht, Ch.refl _ _, by simpa using hn, fun b hb => .inl (hS b (by simpa using hb))⟩
theorem HS.ch (h : HS S W w L) : Ch S W w := h.2.1
theorem HS.nth (h : HS S W w L) (k : Nat) (hk : L[k]? = some t) : t.at_ w := h.1 t (List.mem_of_getElem? hk)
theorem HS.fb {b n : Nat} {f : Nat → Value} (h : HS S W w L) (k : Nat) (hk : L[k]? = some (thB b n f)) : Fb w b n f := h.nth k hk
theorem HS.below (h : HS S W w L) (hb : Below w.heap.size w w') : HS S W w' L :=
  ⟨fun t ht => t.keep w w' (h.1 t ht) fun b hbb => hb.block b (t.lt w (h.1 t ht) b hbb), h.2.1.then hb, h.2.2⟩
theorem HS.alloc (h : HS S W w L) (o : Obj) : HS S W (w.alloc o) L := h.below ((Below.refl _ _).alloc (Nat.le_refl _) o)
theorem HS.drew (h : HS S W w L) : HS S W w.drew L := h.below ⟨rfl, rfl, rfl, Nat.le_refl _, fun _ _ => rfl⟩
theorem HS.drewN (h : HS S W w L) (k : Nat) : HS S W (w.drewN k) L := h.below ⟨rfl, rfl, rfl, Nat.le_refl _, fun _ _ => rfl⟩
theorem HS.bl (h : HS [] W w L) : Below W.heap.size W w := h.2.1.below (by simp) (Nat.le_refl _)
theorem HS.wsize (h : HS S W w L) : W.heap.size ≤ w.heap.size := h.2.1.2.1
theorem HS.new (h : HS S W w L) (t : Th) (hb : Below w.heap.size w w') (ht : t.at_ w') (hn : t.bs.Nodup) (hg : ∀ b, b ∈ t.bs → w.heap.size ≤ b) : HS S W w' (t :: L) := by
  have h' := h.below hb
  refine ⟨fun x hx => ?_, h'.2.1, ?_, fun b hbb => ?_⟩
  · rcases List.mem_cons.1 hx with rfl | hx
    · exact ht
    · exact h'.1 x hx
  · rw [List.flatMap_cons, List.nodup_append]
    refine ⟨hn, h.2.2.1, fun a ha b hbb e => ?_⟩
    subst e
    obtain ⟨x, hx, hxa⟩ := List.mem_flatMap.1 hbb
    have h1 := x.lt w (h.1 x hx) a hxa
    have h2 := hg a ha
    omega
  · rw [List.flatMap_cons] at hbb
    rcases List.mem_append.1 hbb with h1 | h1
    · exact .inr (Nat.le_trans h.wsize (hg b h1))
    · exact h.2.2.2 b h1
theorem HS.upd (h : HS S W w (A ++ t :: B)) (t' : Th) (hbs : t'.bs = t.bs) (hc : Ch t.bs w w') (ht : t'.at_ w') : HS S W w' (A ++ t' :: B) := by
  obtain ⟨h1, h2, h3, h4⟩ := h
  have hb2 : (A ++ t' :: B).flatMap Th.bs = (A ++ t :: B).flatMap Th.bs := by simp [hbs]
  have hd : ∀ x, x ∈ A ++ B → ∀ b, b ∈ x.bs → b ∉ t.bs := by
    intro x hx b hb hbt
    rw [List.flatMap_append, List.flatMap_cons, List.nodup_append] at h3
    obtain ⟨_, h5, h6⟩ := h3
    rcases List.mem_append.1 hx with hx | hx
    · exact h6 b (List.mem_flatMap.2 ⟨x, hx, hb⟩) b (List.mem_append.2 (.inl hbt)) rfl
    · rw [List.nodup_append] at h5
      exact h5.2.2 b hbt b (List.mem_flatMap.2 ⟨x, hx, hb⟩) rfl
  have hk : ∀ x, x ∈ A ++ B → x.at_ w → x.at_ w' := fun x hx hat => x.keep w w' hat fun b hb => hc.2.2 b (x.lt w hat b hb) (hd x hx b hb)
  refine ⟨fun x hx => ?_, ?_, by rw [hb2]; exact h3, by rw [hb2]; exact h4⟩
  · rcases List.mem_append.1 hx with hx | hx
    · exact hk x (List.mem_append.2 (.inl hx)) (h1 x (List.mem_append.2 (.inl hx)))
    · rcases List.mem_cons.1 hx with rfl | hx
      · exact ht
      · exact hk x (List.mem_append.2 (.inr hx)) (h1 x (List.mem_append.2 (.inr (List.mem_cons_of_mem _ hx))))
  · exact h2.step hc fun k hk => h4 k (List.mem_flatMap.2 ⟨t, by simp, hk⟩)
/-- A block is written. -/
theorem HS.set {b n : Nat} {f : Nat → Value} (h : HS S W w (A ++ thB b n f :: B)) (o k : Nat) (g : Nat → Value) (ho : o + k ≤ n) (f' : Nat → Value) (hf : ∀ j, j < n → patch f o k g j = f' j) : HS S W (w.setCells b o (FL k g)) (A ++ thB b n f' :: B) := by
  have hF : Fb w b n f := h.1 (thB b n f) (by simp)
  exact h.upd (thB b n f') rfl ((Ch.refl _ _).sets (.inl (by simp [thB]))) ((hF.set o k g ho).as hf)
theorem HS.cells (h : HS S W w L) (l : List Value) {T : TypeId} : HS S W (w.alloc (.cells l.toArray T)) (thC w.heap.size l :: L) :=
  h.new (thC w.heap.size l) ((Below.refl _ _).alloc (Nat.le_refl _) _) (Ce.made rfl) (by simp [thC]) (fun b hb => by simp [thC] at hb; omega)
theorem HS.ce {b : Nat} {l : List Value} (h : HS S W w L) (k : Nat) (hk : L[k]? = some (thC b l)) : Ce w b l := h.nth k hk
theorem HS.setC {b : Nat} {l : List Value} (h : HS S W w (A ++ thC b l :: B)) (j : Nat) (v : Value) (hj : j < l.length) : HS S W (w.setCell ⟨b, j, none⟩ v) (A ++ thC b (l.set j v) :: B) := by
  have hF : Ce w b l := h.1 (thC b l) (by simp)
  exact h.upd (thC b (l.set j v)) rfl ((Ch.refl _ _).set1 (.inl (by simp [thC]))) (Ce.set hF j v hj)
theorem HS.drop (h : HS S W w (A ++ t :: B)) : HS S W w (A ++ B) := by
  obtain ⟨h1, h2, h3, h4⟩ := h
  have hm : ∀ x, x ∈ A ++ B → x ∈ A ++ t :: B := fun x hx => by
    rcases List.mem_append.1 hx with hx | hx
    · exact List.mem_append.2 (.inl hx)
    · exact List.mem_append.2 (.inr (List.mem_cons_of_mem _ hx))
  refine ⟨fun x hx => h1 x (hm x hx), h2, ?_, fun b hb => ?_⟩
  · refine h3.sublist ?_
    rw [List.flatMap_append, List.flatMap_append, List.flatMap_cons]
    exact List.Sublist.append (List.Sublist.refl _) (List.sublist_append_right _ _)
  · obtain ⟨x, hx, hxb⟩ := List.mem_flatMap.1 hb
    exact h4 b (List.mem_flatMap.2 ⟨x, hm x hx, hxb⟩)
theorem HS.tail (h : HS S W w (t :: L)) : HS S W w L := HS.drop (A := []) h
theorem HS.drop2 {a b : Th} (h : HS S W w (a :: b :: t :: L)) : HS S W w (a :: b :: L) := HS.drop (A := [a, b]) h
theorem HS.drop1 {a : Th} (h : HS S W w (a :: t :: L)) : HS S W w (a :: L) := HS.drop (A := [a]) h
theorem patch_all (f : Nat → Value) (k : Nat) (g : Nat → Value) (j : Nat) (hj : j < k) : patch f 0 k g j = g j := by unfold patch; rw [if_pos ⟨by omega, by omega⟩]; rfl
theorem HS.cons_ne {b n : Nat} {f : Nat → Value} (h : HS S W w (thB b n f :: L)) : ∀ x, x ∈ L.flatMap Th.bs → b ≠ x := by
  intro x hx e
  subst e
  have h3 := h.2.2.1
  rw [List.flatMap_cons, List.nodup_append] at h3
  exact h3.2.2 b (by simp [thB]) b hx rfl
end
section
variable {S : List Nat} {W w : World} {L A B : List Th} {ops : Array Oper} {rest : List Oper} {Q : Exit → Act → World → Prop} {o : Oper} {a : Act} {K : Act → World → Prop}
theorem wl_ow (hw : Region.wanted o (yielded ops a.tmps) = true) (h : o.wp Try.prog a w (wpList Try.prog ops Q rest) Q) : wpList Try.prog ops Q (o :: rest) a w := by
  unfold wpList
  rw [if_pos hw]
  exact .inl h
theorem ow_val {v : Value} {w' : World} (he : (execOp a.eval o).run Try.prog w = .ok (.value v) w') (h : K (a.put o.dst v) w') : o.wp Try.prog a w K Q := by
  unfold Oper.wp; rw [he]; exact h
theorem ow_skip {w' : World} (he : (execOp a.eval o).run Try.prog w = .ok .skip w') (h : K (a.put o.dst undef) w') : o.wp Try.prog a w K Q := by
  unfold Oper.wp; rw [he]; exact h
theorem ex_alloc {T : TypeId} {n : Nat} {f : Nat → Value} (ho : o.op = .alloc T) (hz : (zeroValue T).run Try.prog w = .ok (.agg (FA n f)) w) (hn : 0 < n) : (execOp a.eval o).run Try.prog w = .ok (.value (.pointer (some ⟨w.heap.size, 0, none⟩))) (w.alloc (.cells (FA n f) T)) := by
  have h1 : (FA n f).size = n := fa_size _ _
  have h2 : (FA n f = #[]) = False := eq_false fun h => by rw [h] at h1; simp at h1; omega
  unfold execOp
  simp only [ho]
  go_simp
theorem ex_box {T : TypeId} {x : Operand} {n : Nat} {f : Nat → Value} (ho : o.op = .box T x) (hx : a.eval x = .agg (FA n f)) (hn : 0 < n) : (execOp a.eval o).run Try.prog w = .ok (.value (.pointer (some ⟨w.heap.size, 0, none⟩))) (w.alloc (.cells (FA n f) T)) := by
  have h1 : (FA n f).size = n := fa_size _ _
  have h2 : (FA n f = #[]) = False := eq_false fun h => by rw [h] at h1; simp at h1; omega
  unfold execOp
  simp only [ho, hx]
  go_simp
theorem ow_alloc {T : TypeId} {n : Nat} {f : Nat → Value} (ho : o.op = .alloc T) (hz : (zeroValue T).run Try.prog w = .ok (.agg (FA n f)) w) (hn : 0 < n) (hS : HS S W w L)
    (h : ∀ U w', HS S W w' (thB U n f :: L) → W.heap.size ≤ U → K (a.put o.dst (.pointer (some ⟨U, 0, none⟩))) w') : o.wp Try.prog a w K Q :=
  ow_val (ex_alloc ho hz hn) (h _ _ (hS.new (thB w.heap.size n f) ((Below.refl _ _).alloc (Nat.le_refl _) _) (Fb.made rfl) (by simp [thB]) (fun b hb => by simp [thB] at hb; omega)) hS.wsize)
theorem ow_box {T : TypeId} {x : Operand} {n : Nat} {f : Nat → Value} (ho : o.op = .box T x) (hx : a.eval x = .agg (FA n f)) (hn : 0 < n) (hS : HS S W w L)
    (h : ∀ U w', HS S W w' (thB U n f :: L) → W.heap.size ≤ U → K (a.put o.dst (.pointer (some ⟨U, 0, none⟩))) w') : o.wp Try.prog a w K Q :=
  ow_val (ex_box ho hx hn) (h _ _ (hS.new (thB w.heap.size n f) ((Below.refl _ _).alloc (Nat.le_refl _) _) (Fb.made rfl) (by simp [thB]) (fun b hb => by simp [thB] at hb; omega)) hS.wsize)
theorem ow_load {T : TypeId} {x : Operand} {d : TypeDesc} {b n : Nat} {f : Nat → Value} (i : Nat) (hi : L[i]? = some (thB b n f)) (off k : Nat) (g : Nat → Value) (ho : o.op = .load T x) (hx : a.eval x = .pointer (some ⟨b, off, none⟩)) (hS : HS S W w L) (hok : off + k ≤ n) (hg : ∀ j, j < k → f (off + j) = g j)
    (hu : Try.prog.underlying T = some d) (hd : d.isRow = true) (hi : (Try.prog.info? T).map (·.size) = some k) (h : K (a.put o.dst (.agg (FA k g))) w) : o.wp Try.prog a w K Q :=
  ov_val (ex_load ho hx ((hS.fb i ‹_›).load off k g hok hg hu hd hi)) h
theorem ow_store {T : TypeId} {x y : Operand} {b n : Nat} {f : Nat → Value} (off k : Nat) (g f' : Nat → Value) (ho : o.op = .store T x y) (hx : a.eval x = .pointer (some ⟨b, off, none⟩)) (hy : a.eval y = .agg (FA k g)) (hS : HS S W w (A ++ thB b n f :: B)) (hok : off + k ≤ n) (hf : ∀ j, j < n → patch f off k g j = f' j)
    (hi : (Try.prog.info? T).map (·.size) = some k) (h1 : ∀ j, (g j).oneCell' = true) (h : ∀ w', HS S W w' (A ++ thB b n f' :: B) → K (a.put o.dst undef) w') : o.wp Try.prog a w K Q :=
  have hF : Fb w b n f := hS.1 (thB b n f) (by simp)
  ov_store ho hx hy (hF.store off k g hok hi h1) (h _ (hS.set off k g hok f' hf))
end
end Go.Proofs.Ytppcanaelagfmaa
