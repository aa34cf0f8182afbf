/- slices.Delete of one of a row of pointers. -/
import Derived.Test.YteefhiniamajkaaGreatLan
import Derived.BigQuiet
import Derived.Deep.RegionHeld3
import Derived.Deep.Cut
import Derived.IntWalk
namespace Go.Proofs.YteefhiniamajkaaGreat
set_option linter.unusedVariables false
set_option linter.unusedSimpArgs false
open Go.RowKit Go.ChangeShapes Go.WideShapes Go.ChangeAt
section
variable {P : Program} {w : World} {o : Oper} {v : Value}
theorem ex_slice_h {f : Operand → Value} {T : TypeId} {x y : Operand} {u z : Value} (ho : o.op = .slice T x none (some y) none) (hx : f x = u) (hy : f y = z) (hT : P.underlying T = some (.slice (P.elem T))) (hl : (Instr.slice T u none (some z) none).run P w = .ok v w) : (execOp f o).run P w = .ok (.value v) w := by
  unfold execOp; simp only [ho, hx, hy, Option.map_some, Option.map_none, Sem.run_bind, run_sliceAt_slice _ _ _ _ _ _ hT, hl, Result.andThen_ok, Sem.run_pure]
theorem ex_slice_l {f : Operand → Value} {T : TypeId} {x y : Operand} {u z : Value} (ho : o.op = .slice T x (some y) none none) (hx : f x = u) (hy : f y = z) (hT : P.underlying T = some (.slice (P.elem T))) (hl : (Instr.slice T u (some z) none none).run P w = .ok v w) : (execOp f o).run P w = .ok (.value v) w := by
  unfold execOp; simp only [ho, hx, hy, Option.map_some, Option.map_none, Sem.run_bind, run_sliceAt_slice _ _ _ _ _ _ hT, hl, Result.andThen_ok, Sem.run_pure]
end
theorem elem_pn : Tryz.prog.underlying 67 = some (.slice (Tryz.prog.elem 67)) := by kernel_rfl
theorem el_pn : Tryz.prog.elem 67 = 133 := by kernel_rfl
theorem siz_pn (W : World) : (sizeOf (Tryz.prog.elem 67)).run Tryz.prog W = .ok 1 W := by kernel_rfl
theorem zero_pn (w : World) : (zeroValue 133).run Tryz.prog w = .ok (.pointer none) w := by kernel_rfl
section
variable {Q : Exit → Act → World → Prop} {o : Oper} {a : Act} {w : World} {K : Act → World → Prop}
/-- append where there is room. -/
theorem ow_room (s x : Operand) (ho : o.op = .call { callee := .builtin .append, args := #[s, x], argTypes := #[67, 67] }) (g sLen sCap : Nat) (cur : Array Value) (hg : w.heap[g]? = some (.cells cur 133 (0, 0))) (hs : a.eval s = .slice (some ⟨g, 0, none⟩) sLen sCap)
    (ad : Addr) (m c : Nat) (hx : a.eval x = .slice (some ad) m c) (news : List Value) (hl : news.length = m) (hnews : ∀ j u, news[j]? = some u → w.cell? (ad.add j) = some u) (h1 : ∀ u ∈ news, u.oneCell' = true) (hroom : sLen + m ≤ sCap) (hfit : sLen + news.length ≤ cur.size)
    (h : K (a.put o.dst (.slice (some ⟨g, 0, none⟩) (sLen + m) sCap)) (w.setRow g (cur.toList.take sLen ++ news ++ cur.toList.drop (sLen + news.length)).toArray)) : o.wp Tryz.prog a w K Q := by
  obtain ⟨i0, hi, hz0, hz1, hz2⟩ := info_parts info_pn
  have hrun := run_append_room (P := Tryz.prog) w 67 o.type 133 i0 Tryz.underlying67 hi g sLen sCap cur hg ad m c news (by rw [hz1, Nat.mul_one]; exact hl) hnews h1 hroom (by rw [hz1, Nat.mul_one]; exact hfit)
  rw [hz1, Nat.mul_one] at hrun
  unfold Oper.wp execOp
  simp only [ho, resolve, invoke, builtin, Sem.run_bind, Sem.run_pure, Result.andThen_ok, List.map_toArray, List.map_cons, List.map_nil, hs, hx, hrun]
  exact h
end
theorem erase_at {α : Type} (l : List α) (i j : Nat) (d : α) : (l.eraseIdx i).getD j d = if j < i then l.getD j d else l.getD (j + 1) d := by
  simp only [List.getD_eq_getElem?_getD]
  rw [List.getElem?_eraseIdx]
  split <;> rfl
theorem laf_erase (ns : List (Nat × Nt)) (i j : Nat) : laf (ns.eraseIdx i) j = if j < i then laf ns j else laf ns (j + 1) := by
  unfold laf
  rw [erase_at]
  split <;> rfl
theorem nths_erase (ns : List (Nat × Nt)) (i : Nat) : nths (ns.eraseIdx i) = (nths ns).eraseIdx i := by
  unfold nths
  induction ns generalizing i with
  | nil => rfl
  | cons x xs ih => cases i with
    | zero => rfl
    | succ k => simp only [List.eraseIdx_cons_succ, List.map_cons, ih]
theorem cut_ptr (g n c j : Nat) (hj : j ≤ n) (hn : n ≤ c) : ∃ ad : Addr, (∀ W, (Instr.slice 67 (.slice (some ⟨g, 0, none⟩) n c) (some (.int .i64 (j : Int))) none none).run Tryz.prog W = .ok (.slice (some ad) (n - j) (c - j)) W) ∧ (j < n → ad = ⟨g, j, none⟩) := by
  by_cases h : c = j
  · refine ⟨⟨g, 0, none⟩, fun W => ?_, fun hlt => absurd hlt (by omega)⟩
    rw [run_slice_l W 67 _ n c elem_pn .i64 (j : Int) (by omega) (by omega), siz_pn W]
    simp [Result.andThen, sliced, h]
  · refine ⟨⟨g, j, none⟩, fun W => ?_, fun _ => rfl⟩
    rw [run_slice_l W 67 _ n c elem_pn .i64 (j : Int) (by omega) (by omega), siz_pn W]
    simp [Result.andThen, sliced, h, Addr.add]
    try (intro h0; omega)
theorem cut_head (g n c i : Nat) (hi : i ≤ n) (hn : n ≤ c) (hc : 0 < c) (W : World) : (Instr.slice 67 (.slice (some ⟨g, 0, none⟩) n c) none (some (.int .i64 (i : Int))) none).run Tryz.prog W = .ok (.slice (some ⟨g, 0, none⟩) i c) W := by
  rw [run_slice_h W 67 _ n c elem_pn .i64 (i : Int) (by omega) (by omega), siz_pn W]
  have : ¬ c = 0 := by omega
  simp [Result.andThen, sliced, this, Addr.add]

def shf (f : Nat → Value) (i n j : Nat) : Value := if j < i then f j else if j + 1 < n then f (j + 1) else f j
section
variable {w : World} {g n c i : Nat} {f : Nat → Value} {cur : Array Value} {news : List Value}
theorem row_del (hg : w.heap[g]? = some (.cells cur 133 (0, 0))) (hnc : n ≤ c) (hcm : c ≤ maxLen) (hcs : cur.size = c) (hcu : ∀ j, j < n → cur.toList[j]? = some (f j)) (hi : i < n) (hn : news = (List.range (n - (i + 1))).map fun t => f (i + 1 + t)) :
    Ow (w.setRow g (cur.toList.take i ++ news ++ cur.toList.drop (i + news.length)).toArray) 0 133 1 (.slice (some ⟨g, 0, none⟩) n c) n (shf f i n) := by
  have hl : news.length = n - (i + 1) := by rw [hn]; simp
  refine ⟨by simp, .inr ⟨g, c, _, rfl, Nat.zero_le _, setRow_heap w g cur _ _ _ hg, hnc, hcm, ?_, ?_⟩⟩
  · simp only [List.size_toArray, List.length_append, List.length_take, List.length_drop, hl, Array.length_toList, hcs]
    omega
  · have l1 : (cur.toList.take i).length = i := by simp; omega
    rw [Nat.mul_one]
    apply List.ext_getElem?
    intro j
    rw [List.getElem?_take]
    by_cases hj : j < n
    · rw [if_pos hj, List.getElem?_map, List.getElem?_range hj]
      unfold shf
      simp only [Option.map_some]
      by_cases c1 : j < i
      · rw [if_pos c1, List.getElem?_append_left (by rw [List.length_append, l1]; omega), List.getElem?_append_left (by rw [l1]; exact c1), List.getElem?_take, if_pos c1, hcu j hj]
      · rw [if_neg c1]
        by_cases c2 : j + 1 < n
        · rw [if_pos c2, List.getElem?_append_left (by rw [List.length_append, l1, hl]; omega), List.getElem?_append_right (by rw [l1]; omega), l1, hn, List.getElem?_map, List.getElem?_range (by omega)]
          simp only [Option.map_some]
          rw [show i + 1 + (j - i) = j + 1 by omega]
        · rw [if_neg c2, List.getElem?_append_right (by rw [List.length_append, l1, hl]; omega), List.length_append, l1, hl, List.getElem?_drop, show i + (n - (i + 1)) + (j - (i + (n - (i + 1)))) = j by omega, hcu j hj]
    · rw [if_neg hj, List.getElem?_eq_none (by simp; omega)]
theorem grown_setRow (w : World) (g : Nat) (cs : Array Value) : w.grownBy (w.setRow g cs) (some g) :=
  ⟨rfl, rfl, rfl, by simp [World.setRow], fun k _ hk => setRow_other w g k cs fun e => hk (by rw [e])⟩
theorem Ow.less {B : Nat} {e : TypeId} (h : Ow w B e 1 (.slice (some ⟨g, 0, none⟩) n c) n f) (m : Nat) (hm : m ≤ n) : Ow w B e 1 (.slice (some ⟨g, 0, none⟩) m c) m f := by
  rcases h.2 with ⟨h', _⟩ | ⟨g', c', cur, h', hb, hg, hnc, hcm, hcs, ht⟩
  · simp at h'
  · simp only [Value.slice.injEq, Option.some.injEq, Addr.mk.injEq, and_true, true_and] at h'
    obtain ⟨rfl, rfl⟩ := h'
    refine ⟨by simp, .inr ⟨g, c, cur, rfl, hb, hg, by omega, hcm, hcs, ?_⟩⟩
    rw [Nat.mul_one] at ht ⊢
    rw [show cur.toList.take m = (cur.toList.take n).take m by rw [List.take_take, Nat.min_eq_left hm], ht, ← List.map_take, List.take_range, Nat.min_eq_left hm]
theorem Ow.curs {A : Option Addr} {B : Nat} {e : TypeId} (h : Ow w B e 1 (.slice A n c) n f) (hn : 0 < n) : ∃ g cur, A = some ⟨g, 0, none⟩ ∧ w.heap[g]? = some (.cells cur e (0, 0)) ∧ n ≤ c ∧ c ≤ maxLen ∧ cur.size = c ∧ ∀ j, j < n → cur.toList[j]? = some (f j) := by
  rcases h.2 with ⟨_, h'⟩ | ⟨g', c', cur, h', hb, hg, hnc, hcm, hcs, ht⟩
  · omega
  · injection h' with h1 h2 h3
    subst h1
    subst h3
    refine ⟨g', cur, rfl, hg, hnc, hcm, by rw [hcs, Nat.mul_one], fun j hj => ?_⟩
    rw [Nat.mul_one] at ht
    have h2 : (cur.toList.take n)[j]? = some (f j) := by rw [ht, List.getElem?_map, List.getElem?_range hj]; rfl
    rwa [List.getElem?_take, if_pos hj] at h2
end
section
variable {Q : Exit → Act → World → Prop} {o : Oper} {a : Act} {w w' : World} {K : Act → World → Prop} {v : Value}
theorem ow_clear (s : Operand) (ho : o.op = .call { callee := .builtin .clear, args := #[s], argTypes := #[67] }) (hs : a.eval s = v) (hrun : ∀ ty, (Builtin.clear_ #[67] ty #[v]).run Tryz.prog w = .ok (.tuple #[]) w') (h : K (a.put o.dst (.tuple #[])) w') : o.wp Tryz.prog a w K Q := by
  unfold Oper.wp execOp
  simp only [ho, resolve, invoke, builtin, Sem.run_bind, Sem.run_pure, Result.andThen_ok, List.map_toArray, List.map_cons, List.map_nil, hs, hrun]
  exact h
end
theorem laf_len (ns : List (Nat × Nt)) (i m j : Nat) (hm : ns.length = m + 1) (hj : j < m) : put1 (shf (laf ns) i (m + 1)) m (.pointer none) j = laf (ns.eraseIdx i) j := by
  rw [laf_erase]
  unfold put1 shf
  rw [if_neg (by omega), if_pos (show j + 1 < m + 1 by omega)]
end Go.Proofs.YteefhiniamajkaaGreat
