/- One text, read and written. -/
import Derived.Test.YtljgcffpijjliaaDoorOrdW
import Derived.Test.YtljgcffpijjliaaDoorPolLoop
import Derived.Test.YtljgcffpijjliaaDoorShelf
import Derived.Lib.OthersKept
import Derived.Laws.RangeAny
import Derived.Laws.RangeString
import Derived.BigQuiet
import Derived.Deep.RegionHeld3
import Derived.Deep.Cut
namespace Go.Proofs.YtljgcffpijjliaaDoor
set_option linter.unusedVariables false
set_option linter.unusedSimpArgs false
open Go.RowKit Go.ChangeShapes Go.WideShapes Go.ChangeAt

theorem info_u : (Tryd.prog.info? 27).map (fun i => (i.zero, i.size, i.bytes)) = some (some (.int .u64 0), 1, 8) := by kernel_rfl
theorem info_s : (Tryd.prog.info? 9).map (fun i => (i.zero, i.size, i.bytes)) = some (some (.string ⟨#[]⟩), 1, 16) := by kernel_rfl
section
variable {w : World} {ops : Array Oper} {rest : List Oper} {o : Oper} {a : Act} {Q : Exit → Act → World → Prop}
theorem wp_app_u (hgd : o.guard = none) (s x : Operand) (ho : o.op = .call { callee := .builtin .append, args := #[s, x], argTypes := #[77, 77] })
    (base : Nat) (v : Value) (m : Nat) (f : Nat → Value) (hf : (f m).oneCell' = true) (hs : a.eval s = v) (hown : Ow w base 27 1 v m f)
    (g c : Nat) (hx : a.eval x = .slice (some ⟨g, 0, none⟩) 1 c) (hr : Ce w g [f m]) (hsz : m ≤ 1000000) (hbase : base ≤ w.heap.size)
    (h : ∀ A' c' w', Ow w' base 27 1 (.slice A' (m + 1) c') (m + 1) f → Below base w w' → w.grownBy w' v.ownBlock → wpList Tryd.prog ops Q rest (a.put o.dst (.slice A' (m + 1) c')) w') : wpList Tryd.prog ops Q (o :: rest) a w := by
  obtain ⟨i0, hi, hz0, hz1, hz2⟩ := info_parts info_u
  refine wp_app w hgd s x 77 ho base 27 i0 (.int .u64 0) 1 8 Tryd.underlying77 hi hz0 hz1 hz2 rfl (by decide) v m _ hs hown (some ⟨g, 0, none⟩) 1 c (fun _ => f m) hx ?_ (fun _ _ => hf) (by simp only [maxLen]; omega) (by omega) hbase ?_
  · refine Sl.mk hr.1 fun j hj => ?_
    rw [Nat.zero_add]
    obtain rfl : j = 0 := by omega
    exact hr.2.1 0 _ rfl
  · intro A' c' w' h1 h2 h3 h4 h5 h6
    refine h A' c' w' ?_ h4 h5
    refine h1.as_ fun j hj => ?_
    unfold two
    by_cases hjm : j < m * 1
    · rw [if_pos hjm]
    · rw [if_neg hjm, show j = m by omega]
theorem wp_app_s (hgd : o.guard = none) (s x : Operand) (ho : o.op = .call { callee := .builtin .append, args := #[s, x], argTypes := #[64, 64] })
    (base : Nat) (v : Value) (m : Nat) (f : Nat → Value) (hf : (f m).oneCell' = true) (hs : a.eval s = v) (hown : Ow w base 9 1 v m f)
    (g c : Nat) (hx : a.eval x = .slice (some ⟨g, 0, none⟩) 1 c) (hr : Ce w g [f m]) (hsz : m ≤ 1000000) (hbase : base ≤ w.heap.size)
    (h : ∀ A' c' w', Ow w' base 9 1 (.slice A' (m + 1) c') (m + 1) f → Below base w w' → w.grownBy w' v.ownBlock → wpList Tryd.prog ops Q rest (a.put o.dst (.slice A' (m + 1) c')) w') : wpList Tryd.prog ops Q (o :: rest) a w := by
  obtain ⟨i0, hi, hz0, hz1, hz2⟩ := info_parts info_s
  refine wp_app w hgd s x 64 ho base 9 i0 (.string ⟨#[]⟩) 1 16 Tryd.underlying64 hi hz0 hz1 hz2 rfl (by decide) v m _ hs hown (some ⟨g, 0, none⟩) 1 c (fun _ => f m) hx ?_ (fun _ _ => hf) (by simp only [maxLen]; omega) (by omega) hbase ?_
  · refine Sl.mk hr.1 fun j hj => ?_
    rw [Nat.zero_add]
    obtain rfl : j = 0 := by omega
    exact hr.2.1 0 _ rfl
  · intro A' c' w' h1 h2 h3 h4 h5 h6
    refine h A' c' w' ?_ h4 h5
    refine h1.as_ fun j hj => ?_
    unfold two
    by_cases hjm : j < m * 1
    · rw [if_pos hjm]
    · rw [if_neg hjm, show j = m by omega]
end
theorem Ce.other {w : World} {b : Nat} {l : List Value} (h : Ce w b l) {c j : Nat} {v : Value} (hne : c ≠ b) : Ce (w.setCell ⟨c, j, none⟩ v) b l :=
  ⟨by simpa using h.1, fun i u hi => by rw [World.cell?_setCell_other _ _ _ _ (fun e => hne (by cases e; rfl))]; exact h.2.1 i u hi, fun i => by rw [World.frozen?_setCell]; exact h.2.2 i⟩
def S7 (w : World) (b : Nat) (v0 v1 v2 v3 v4 v5 v6 : Value) : World := ((((((w.setCell ⟨b, 0, none⟩ v0).setCell ⟨b, 1, none⟩ v1).setCell ⟨b, 2, none⟩ v2).setCell ⟨b, 3, none⟩ v3).setCell ⟨b, 4, none⟩ v4).setCell ⟨b, 5, none⟩ v5).setCell ⟨b, 6, none⟩ v6
theorem Ce.s7 {w : World} {b : Nat} {x0 x1 x2 x3 x4 x5 x6 : Value} (h : Ce w b [x0, x1, x2, x3, x4, x5, x6]) (v0 v1 v2 v3 v4 v5 v6 : Value) : Ce (S7 w b v0 v1 v2 v3 v4 v5 v6) b [v0, v1, v2, v3, v4, v5, v6] :=
  ((((((h.set 0 v0 (by simp)).set 1 v1 (by simp)).set 2 v2 (by simp)).set 3 v3 (by simp)).set 4 v4 (by simp)).set 5 v5 (by simp)).set 6 v6 (by simp)
theorem below_s7 {B : Nat} {w w' : World} {b : Nat} (h : Below B w w') (hb : B ≤ b) (v0 v1 v2 v3 v4 v5 v6 : Value) : Below B w (S7 w' b v0 v1 v2 v3 v4 v5 v6) :=
  ((((((h.setCell (p := ⟨b, 0, none⟩) hb v0).setCell (p := ⟨b, 1, none⟩) hb v1).setCell (p := ⟨b, 2, none⟩) hb v2).setCell (p := ⟨b, 3, none⟩) hb v3).setCell (p := ⟨b, 4, none⟩) hb v4).setCell (p := ⟨b, 5, none⟩) hb v5).setCell (p := ⟨b, 6, none⟩) hb v6
theorem Ow.ce1 {w : World} {B c : Nat} {T : TypeId} {A : Option Addr} {f : Nat → Value} (h : Ow w B T 1 (.slice A 1 c) 1 f) : ∃ g, A = some ⟨g, 0, none⟩ ∧ 1 ≤ c ∧ Ce w g [f 0] := by
  obtain ⟨A', c', hv, hcc, _⟩ := Ow.form_ h
  injection hv with _ _ h3
  obtain ⟨g, e, _, hg, hc, hf⟩ := Ow.block_ h (by omega)
  refine ⟨g, e, by omega, hg, fun j v hj => ?_, hf⟩
  rcases j with _ | j
  · rw [hc 0 (by omega)]; simpa using hj
  · simp at hj
set_option maxRecDepth 100000 in
set_option maxHeartbeats 4000000 in
theorem pall3 (b off c : Nat) (w : World) (hc : w.cell? ⟨b, off, none⟩ = some (.string ⟨#[51]⟩)) (hb : b < w.heap.size) (h1 : 1 ≤ c) : Calls Tryd.prog 50 #[.slice (some ⟨b, off, none⟩) 1 c] w fun e w' => ∃ B d, 1 ≤ d ∧ e = .returned (.tuple #[.slice (some ⟨B, 0, none⟩) 1 d, .bool true]) ∧ Ce w' B [.int .u64 3] ∧ Below w.heap.size w w' := by
  have HC := hid hc
  clear hc
  go_enter Tryd.func50, Tryd.ntmps50
  go_wp2_with fail
  go_loopw [4, 11] (fun l i wr => ∃ (k : Nat) (A : Option Addr) (d : Nat), k ≤ 1 ∧ l = .slice A k d ∧ i = .int .i64 (k : Int) ∧ Ow wr w.heap.size 27 1 (.slice A k d) k (fun _ => .int .u64 3) ∧ Below w.heap.size w wr) (fun _ i _ => 1 - (intOf i).toNat)
  case atStart => exact ⟨0, none, 0, by omega, rfl, rfl, Ow.none_, Below.refl _ _⟩
  case round =>
    obtain ⟨k, A, d, hk, rfl, rfl, ho, hbl⟩ := hrel
    have HO := hid ho
    have HB := hid hbl
    have xc : wr.cell? ⟨b, off, none⟩ = some (.string ⟨#[51]⟩) := (World.cell?_of_block (a := ⟨b, off, none⟩) (hbl.block b hb)).trans HC.out
    clear ho hbl
    have hk2 : k = 0 ∨ k = 1 := by omega
    rcases hk2 with rfl | rfl
    · go_wp2_with fail
      refine (pnum3 _).mono ?_
      rintro e w2 ⟨rfl, hb2⟩
      have HO2 := hid (HO.out.keep hb2 (Nat.le_refl _))
      have HB2 := hid (HB.out.trans (hb2.mono HB.out.size))
      have l2 := HB2.out.size
      clear hb2 HO HB xc
      go_wp2_with (at_builtin; refine wp_app_u rfl (.tmp 22) (.tmp 24) rfl w.heap.size _ 0 (fun _ => .int .u64 3) rfl rfl (Ow.alloc HO2.out _) w2.heap.size 1 rfl (Ce.made (l := [.int .u64 3]) rfl) (by omega) (by simp; omega) ?_; intro A' d' w3 hown hbel hgr; have HO3 := hid hown; have HB3 := hid ((HB2.out.alloc l2 (.cells #[.int .u64 3] 27)).trans hbel); clear hown hbel hgr HO2 HB2)
      go_roundw
      case rel => exact ⟨1, A', d', by omega, rfl, rfl, HO3.out, HB3.out⟩
      case measure => simp [intOf]
    · clear xc
      obtain ⟨g, rfl, hd1, hce⟩ := Ow.ce1 HO.out
      have HCE := hid hce
      clear hce
      go_wp2_with fail
      go_ret2
      exact ⟨g, d, hd1, rfl, HCE.out, HB.out⟩
set_option maxRecDepth 100000 in
set_option maxHeartbeats 4000000 in
theorem nums2 (s : Int) (w : World) : Calls Tryd.prog 46 #[.agg #[.int .i64 2, .int .i64 s, .int .i64 0, .int .i64 0, .int .i64 0, .int .u64 0, .int .u64 0]] w fun e w' => ∃ b : Nat, e = .returned (.slice (some ⟨b, 0, none⟩) 1 1) ∧ Ce w' b [.int .u64 (IntKind.u64.wrap s)] ∧ Below w.heap.size w w' := by
  go_enter Tryd.func46, Tryd.ntmps46
  have HB := hid ((Below.refl w.heap.size w).alloc (Nat.le_refl _) (.cells #[.int .i64 2, .int .i64 s, .int .i64 0, .int .i64 0, .int .i64 0, .int .u64 0, .int .u64 0] 56))
  go_wp2_with fail
  go_ret
  exact ⟨_, rfl, Ce.made (l := [.int .u64 (IntKind.u64.wrap s)]) (by simp), HB.out.alloc HB.out.size _⟩
set_option maxRecDepth 100000 in
set_option maxHeartbeats 4000000 in
theorem entry3 (b d : Nat) (hd : 1 ≤ d) (w : World) (hc : Ce w b [.int .u64 3]) : Calls Tryd.prog 51 #[.int .i64 2, .slice (some ⟨b, 0, none⟩) 1 d] w fun e w' => e = .returned (.tuple #[.agg #[.int .i64 2, .int .i64 3, .int .i64 0, .int .i64 0, .int .i64 0, .int .u64 0, .int .u64 0], .bool true]) ∧ Below w.heap.size w w' := by
  have HC := hid hc
  clear hc
  go_enter Tryd.func51, Tryd.ntmps51
  go_upto_region 2 with (fail)
  have CR := hid ((Ce.made (w := w) (l := [.int .i64 0, .int .i64 0, .int .i64 0, .int .i64 0, .int .i64 0, .int .u64 0, .int .u64 0]) (T := 56) (g := w.heap.size) rfl).alloc (.cells #[.int .i64 2, .int .i64 0, .int .i64 0, .int .i64 0, .int .i64 0, .int .u64 0, .int .u64 0] 56))
  have CE := hid (Ce.made (w := w.alloc (.cells #[.int .i64 0, .int .i64 0, .int .i64 0, .int .i64 0, .int .i64 0, .int .u64 0, .int .u64 0] 56)) (l := [.int .i64 2, .int .i64 0, .int .i64 0, .int .i64 0, .int .i64 0, .int .u64 0, .int .u64 0]) (T := 56) (g := w.heap.size + 1) (by simp))
  have CB := hid ((HC.out.alloc (.cells #[.int .i64 0, .int .i64 0, .int .i64 0, .int .i64 0, .int .i64 0, .int .u64 0, .int .u64 0] 56)).alloc (.cells #[.int .i64 2, .int .i64 0, .int .i64 0, .int .i64 0, .int .i64 0, .int .u64 0, .int .u64 0] 56))
  have HB := hid (((Below.refl w.heap.size w).alloc (Nat.le_refl _) (.cells #[.int .i64 0, .int .i64 0, .int .i64 0, .int .i64 0, .int .i64 0, .int .u64 0, .int .u64 0] 56)).alloc (by simp) (.cells #[.int .i64 2, .int .i64 0, .int .i64 0, .int .i64 0, .int .i64 0, .int .u64 0, .int .u64 0] 56))
  simp only [List.toArray] at CR CE
  generalize (w.alloc (.cells #[.int .i64 0, .int .i64 0, .int .i64 0, .int .i64 0, .int .i64 0, .int .u64 0, .int .u64 0] 56)).alloc (.cells #[.int .i64 2, .int .i64 0, .int .i64 0, .int .i64 0, .int .i64 0, .int .u64 0, .int .u64 0] 56) = w1 at *
  have lb := HC.out.1
  have e0 := CE.out.2.1 0 _ rfl
  have e1 := CE.out.2.1 1 _ rfl
  have e2 := CE.out.2.1 2 _ rfl
  have e3 := CE.out.2.1 3 _ rfl
  have e4 := CE.out.2.1 4 _ rfl
  have e5 := CE.out.2.1 5 _ rfl
  have e6 := CE.out.2.1 6 _ rfl
  have ef := CE.out.2.2
  go_wp2_with fail
  clear e0 e1 e2 e3 e4 e5 e6 ef
  refine (nums2 0 _).mono ?_
  rintro x w2 ⟨bb, rfl, _, hb⟩
  have CR2 := hid (CR.out.below hb)
  have CE2 := hid (CE.out.below hb)
  have CB2 := hid (CB.out.below hb)
  have HB2 := hid (HB.out.trans (hb.mono HB.out.size))
  clear hb CR CE CB HB
  have e0 := CE2.out.2.1 0 _ rfl
  have e1 := CE2.out.2.1 1 _ rfl
  have e2 := CE2.out.2.1 2 _ rfl
  have e3 := CE2.out.2.1 3 _ rfl
  have e4 := CE2.out.2.1 4 _ rfl
  have e5 := CE2.out.2.1 5 _ rfl
  have e6 := CE2.out.2.1 6 _ rfl
  have ef := CE2.out.2.2
  have c0 := CB2.out.2.1 0 _ rfl
  go_upto_region 10 with (fail)
  clear e0 e1 e2 e3 e4 e5 e6 ef c0
  have CE3 := hid (CE2.out.set 1 (.int .i64 3) (by simp))
  simp only [List.set_cons_succ, List.set_cons_zero] at CE3
  have CR3 := hid (CR2.out.other (c := w.heap.size + 1) (j := 1) (v := .int .i64 3) (by omega))
  have HB3 := hid (HB2.out.setCell (p := ⟨w.heap.size + 1, 1, none⟩) (Nat.le_succ _) (.int .i64 3))
  clear CE2 CR2 CB2 HB2
  generalize w2.setCell ⟨w.heap.size + 1, 1, none⟩ (.int .i64 3) = w3 at *
  have e0 := CE3.out.2.1 0 _ rfl
  have e1 := CE3.out.2.1 1 _ rfl
  have e2 := CE3.out.2.1 2 _ rfl
  have e3 := CE3.out.2.1 3 _ rfl
  have e4 := CE3.out.2.1 4 _ rfl
  have e5 := CE3.out.2.1 5 _ rfl
  have e6 := CE3.out.2.1 6 _ rfl
  have ef := CE3.out.2.2
  have r0 := CR3.out.2.1 0 _ rfl
  have r1 := CR3.out.2.1 1 _ rfl
  have r2 := CR3.out.2.1 2 _ rfl
  have r3 := CR3.out.2.1 3 _ rfl
  have r4 := CR3.out.2.1 4 _ rfl
  have r5 := CR3.out.2.1 5 _ rfl
  have r6 := CR3.out.2.1 6 _ rfl
  have rf := CR3.out.2.2
  go_wp2_with fail
  clear e0 e1 e2 e3 e4 e5 e6 ef r0 r1 r2 r3 r4 r5 r6 rf
  have CF := hid (Ce.s7 CR3.out (.int .i64 2) (.int .i64 3) (.int .i64 0) (.int .i64 0) (.int .i64 0) (.int .u64 0) (.int .u64 0))
  have BF := hid (below_s7 HB3.out (Nat.le_refl _) (.int .i64 2) (.int .i64 3) (.int .i64 0) (.int .i64 0) (.int .i64 0) (.int .u64 0) (.int .u64 0))
  unfold S7 at CF BF
  refine at_world (fun w' => Ce w' w.heap.size [.int .i64 2, .int .i64 3, .int .i64 0, .int .i64 0, .int .i64 0, .int .u64 0, .int .u64 0] ∧ Below w.heap.size w w') ⟨CF.out, BF.out⟩ (fun wf hwf => ?_)
  obtain ⟨hc2, hbf⟩ := hwf
  have x0 := hc2.2.1 0 _ rfl
  have x1 := hc2.2.1 1 _ rfl
  have x2 := hc2.2.1 2 _ rfl
  have x3 := hc2.2.1 3 _ rfl
  have x4 := hc2.2.1 4 _ rfl
  have x5 := hc2.2.1 5 _ rfl
  have x6 := hc2.2.1 6 _ rfl
  refine bodyPost_ret (v := .tuple #[.agg #[.int .i64 2, .int .i64 3, .int .i64 0, .int .i64 0, .int .i64 0, .int .u64 0, .int .u64 0], .bool true]) (by simp [results, Tryd.results51, go_sem, x0, x1, x2, x3, x4, x5, x6]) rfl ?_
  exact ⟨rfl, hbf⟩
end Go.Proofs.YtljgcffpijjliaaDoor
