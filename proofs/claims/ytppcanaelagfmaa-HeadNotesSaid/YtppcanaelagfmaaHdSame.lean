/- Rows of notes: as, Same. -/
import Derived.Test.YtppcanaelagfmaaHdLaw
import Derived.Test.YtppcanaelagfmaaPolEq
import Derived.BigQuiet
import Derived.Deep.RegionHeld3
import Derived.Deep.Cut
import Derived.IntWalk
namespace Go.Proofs.Ytppcanaelagfmaa
set_option linter.unusedVariables false
set_option linter.unusedSimpArgs false
open Go.RowKit Go.ChangeShapes Go.WideShapes Go.ChangeAt
theorem eq_plD (d : Nat) (p : Pl) (w : World) : (Op.equalIn (d + 5) 33 (.agg (PA p)) (.agg (PA p))).run Try.prog w = .ok true w := by
  obtain ⟨q0, q1, q2, q3, q4⟩ := part_pl p w
  have hu := Try.underlying33
  have hi : ∀ x : Int, (Op.equalIn (d + 4) 3 (.int .i64 x) (.int .i64 x)).run Try.prog w = .ok true w := fun x => by
    rw [run_equalIn_int w (d + 3) 3 .i64 .i64 x x Try.underlying3, beq_self_eq_true]
  rw [run_equalIn_struct w (d + 4) 33 (PA p) (PA p) (by unfold Program.fieldsOf; rw [hu]) (by kernel_rfl)]
  unfold Program.fieldsOf
  rw [hu]
  show (Op.eqFields (d + 4) (PA p) (PA p) (_ :: _ :: _ :: _ :: _ :: [])).run Try.prog w = .ok true w
  refine eqF_step (by decide) q0 q0 (hi _) ?_
  refine eqF_step (by decide) q1 q1 (hi _) ?_
  refine eqF_step (by decide) q2 q2 (hi _) ?_
  refine eqF_step (by decide) q3 q3 (eq_sl d p.s w) ?_
  refine eqF_step (by decide) q4 q4 (eq_rg d p.r w) ?_
  rfl
theorem eq_enD (d : Nat) (e : En) (w : World) : (Op.equalIn (d + 4) 44 (enV e) (enV e)).run Try.prog w = .ok true w := by
  unfold enV
  simp [go_sem]
theorem na_at (n : Nt) (j : Nat) (hj : j < 342) : (NA n)[j]? = some (ntc n j) := by
  unfold NA FA
  rw [List.getElem?_toArray, fl_at _ hj]
theorem na_sz (n : Nt) : (NA n).size = 342 := fa_size _ _
theorem part_nt (n : Nt) (w : World) : (part 3 (NA n) 0).run Try.prog w = .ok (.int .i64 n.u) w ∧ (part 3 (NA n) 1).run Try.prog w = .ok (.int .i64 n.b) w ∧ (part 3 (NA n) 2).run Try.prog w = .ok (.int .i64 n.v) w ∧
    (part 4 (NA n) 3).run Try.prog w = .ok (.bool n.wh) w ∧ (part 4 (NA n) 4).run Try.prog w = .ok (.bool n.ak) w ∧ (part 44 (NA n) 5).run Try.prog w = .ok (enV n.e) w ∧ (part 33 (NA n) 12).run Try.prog w = .ok (.agg (PA n.p)) w := by
  have ai : (isAgg 3).run Try.prog w = .ok false w := by kernel_rfl
  have ab : (isAgg 4).run Try.prog w = .ok false w := by kernel_rfl
  have ae : (isAgg 44).run Try.prog w = .ok true w := by kernel_rfl
  have ap : (isAgg 33).run Try.prog w = .ok true w := by kernel_rfl
  have se : (sizeOf 44).run Try.prog w = .ok 7 w := by kernel_rfl
  have sp : (sizeOf 33).run Try.prog w = .ok 330 w := by kernel_rfl
  have e0 := na_at n 0 (by omega)
  have e1 := na_at n 1 (by omega)
  have e2 := na_at n 2 (by omega)
  have e3 := na_at n 3 (by omega)
  have e4 := na_at n 4 (by omega)
  have hs := na_sz n
  have x1 : (NA n).extract 5 (5 + 7) = #[.int .i64 n.e.k, .int .i64 n.e.s, .int .i64 n.e.a, .int .i64 n.e.p, .int .i64 n.e.w, .int .u64 n.e.y.a, .int .u64 n.e.y.b] := by
    apply Array.ext
    · simp [hs]
    · intro j h1 h2
      have hj : j < 7 := by simpa using h2
      rw [Array.getElem_extract]
      have h3 := na_at n (5 + j) (by omega)
      rw [Array.getElem?_eq_getElem (by omega)] at h3
      rw [Option.some.inj h3]
      have h4 : ntc n (5 + j) = enc n.e j := by
        unfold ntc
        rw [if_pos (by omega)]
        rcases j with _ | _ | _ | _ | _ | _ | _ | j
        · rfl
        · rfl
        · rfl
        · rfl
        · rfl
        · rfl
        · rfl
        · omega
      rw [h4, enc_cells n.e j hj]
      rcases j with _ | _ | _ | _ | _ | _ | _ | j
      · rfl
      · rfl
      · rfl
      · rfl
      · rfl
      · rfl
      · rfl
      · omega
  have x2 : (NA n).extract 12 (12 + 330) = PA n.p := by
    apply Array.ext
    · simp [hs, pa_size]
    · intro j h1 h2
      have hj : j < 330 := by rw [pa_size] at h2; exact h2
      rw [Array.getElem_extract]
      have h3 := na_at n (12 + j) (by omega)
      rw [Array.getElem?_eq_getElem (by omega)] at h3
      rw [Option.some.inj h3]
      have h4 := pa_at n.p j hj
      rw [Array.getElem?_eq_getElem h2] at h4
      rw [Option.some.inj h4]
      unfold ntc
      rw [if_neg (by omega), show 12 + j - 12 = j by omega]
  refine ⟨?_, ?_, ?_, ?_, ?_, ?_, ?_⟩
  · simp only [part, Sem.run_bind, ai, Result.andThen_ok, Bool.false_eq_true, if_false, e0]; rfl
  · simp only [part, Sem.run_bind, ai, Result.andThen_ok, Bool.false_eq_true, if_false, e1]; rfl
  · simp only [part, Sem.run_bind, ai, Result.andThen_ok, Bool.false_eq_true, if_false, e2]; rfl
  · simp only [part, Sem.run_bind, ab, Result.andThen_ok, Bool.false_eq_true, if_false, e3]; rfl
  · simp only [part, Sem.run_bind, ab, Result.andThen_ok, Bool.false_eq_true, if_false, e4]; rfl
  · simp only [part, Sem.run_bind, ae, Result.andThen_ok, if_true, se, x1, Sem.run_pure]; rfl
  · simp only [part, Sem.run_bind, ap, Result.andThen_ok, if_true, sp, x2, Sem.run_pure]
theorem eq_nt (n : Nt) (w : World) : (Op.equalIn 10000 89 (.agg (NA n)) (.agg (NA n))).run Try.prog w = .ok true w := by
  obtain ⟨q0, q1, q2, q3, q4, q5, q6⟩ := part_nt n w
  have hu := Try.underlying89
  have hE := eq_enD 9995 n.e w
  have hP := eq_plD 9994 n.p w
  have hi : ∀ x : Int, (Op.equalIn 9999 3 (.int .i64 x) (.int .i64 x)).run Try.prog w = .ok true w := fun x => by
    rw [run_equalIn_int w 9998 3 .i64 .i64 x x Try.underlying3, beq_self_eq_true]
  have hb : ∀ x : Bool, (Op.equalIn 9999 4 (.bool x) (.bool x)).run Try.prog w = .ok true w := fun x => by
    simp [go_sem]
  rw [run_equalIn_struct w 9999 89 (NA n) (NA n) (by unfold Program.fieldsOf; rw [hu]) (by kernel_rfl)]
  unfold Program.fieldsOf
  rw [hu]
  show (Op.eqFields 9999 (NA n) (NA n) (_ :: _ :: _ :: _ :: _ :: _ :: _ :: [])).run Try.prog w = .ok true w
  refine eqF_step (by decide) q0 q0 (hi _) ?_
  refine eqF_step (by decide) q1 q1 (hi _) ?_
  refine eqF_step (by decide) q2 q2 (hi _) ?_
  refine eqF_step (by decide) q3 q3 (hb _) ?_
  refine eqF_step (by decide) q4 q4 (hb _) ?_
  refine eqF_step (by decide) q5 q5 hE ?_
  refine eqF_step (by decide) q6 q6 hP ?_
  rfl
theorem eqg_nt (op : BinOp) (x y : Operand) (p q : Nt) (w : World) : (eqGuard op 89 x y (.agg (NA p)) (.agg (NA q))).run Try.prog w = .ok () w := run_eqGuard_agg w _ _ _ _ _ _ (by kernel_rfl)
theorem ex_neqN {o : Oper} {f : Operand → Value} (x y : Operand) (ho : o.op = .binOp .neq 89 x y 89) (p : Nt) (hx : f x = .agg (FA 342 (ntc p))) (hy : f y = .agg (FA 342 (ntc p))) (w : World) : (execOp f o).run Try.prog w = .ok (.value (.bool false)) w := by
  rw [← na_fa] at hx hy
  unfold execOp
  simp only [ho, hx, hy, Sem.run_bind, eqg_nt, Result.andThen_ok, run_neq_struct, eq_nt, Sem.run_pure]
  rfl
theorem info_rn : (Try.prog.info? 89).map (fun i => (i.zero, i.size, i.bytes)) = some (some (.agg (NA zNt)), 342, 2728) := by kernel_rfl
theorem run_bsR (x : Nt) (w : World) : (Instr.buildSlice 66 1 #[(0, .agg (FA 342 (ntc x)))]).run Try.prog w = .ok (.slice (some ⟨w.heap.size, 0, none⟩) 1 1) (w.alloc (.cells (FA 342 (ntc x)) 89)) := by
  obtain ⟨i0, hi, hz0, hz1, hz2⟩ := info_parts info_rn
  refine run_buildSlice (P := Try.prog) w _ _ 1 _ (FA 342 (ntc x)) i0 (.agg (NA zNt)) Try.underlying66 hi hz0 (by rw [hz1]; omega) (by rw [hz1]; omega) ?_
  rw [hz1]
  kernel_rfl
def OwR (w : World) (B : Nat) (v : Value) (l : List Nt) : Prop := Ow w B 89 342 v l.length (ntf l)
/-- A row of notes that may be empty. -/
def RowN (w : World) (A : Option Addr) (l : List Nt) : Prop := 0 < l.length → ∃ g : Nat, A = some ⟨g, 0, none⟩ ∧ Fb w g (l.length * 342) (ntf l)
theorem RowN.below {w w' : World} {A : Option Addr} {l : List Nt} (h : RowN w A l) {D : Nat} (hb : Below D w w') (hD : w.heap.size ≤ D) : RowN w' A l := fun h0 => by
  obtain ⟨g, e, hF⟩ := h h0
  exact ⟨g, e, hF.same (hb.block g (Nat.lt_of_lt_of_le hF.1 hD))⟩
theorem RowN.ch {S : List Nat} {w w' : World} {A : Option Addr} {l : List Nt} (h : RowN w A l) (hc : Ch S w w') (hS : ∀ ad, A = some ad → ad.block ∉ S) : RowN w' A l := fun h0 => by
  obtain ⟨g, e, hF⟩ := h h0
  exact ⟨g, e, hc.fb hF (hS _ e)⟩
section
variable {S : List Nat} {W w : World} {L A B : List Th} {ops : Array Oper} {rest : List Oper} {Q : Exit → Act → World → Prop} {o : Oper} {a : Act} {K : Act → World → Prop}
theorem ow_bsR {x : Operand} {nt : Nt} (ho : o.op = .buildSlice 66 1 #[(0, x)]) (hx : a.eval x = .agg (FA 342 (ntc nt))) (hS : HS S W w L)
    (h : ∀ U w', HS S W w' (thB U 342 (ntc nt) :: L) → K (a.put o.dst (.slice (some ⟨U, 0, none⟩) 1 1)) w') : o.wp Try.prog a w K Q := by
  refine ow_val (v := .slice (some ⟨w.heap.size, 0, none⟩) 1 1) (w' := w.alloc (.cells (FA 342 (ntc nt)) 89)) ?_ (h _ _ (hS.boxed (n := 342) (ntc nt)))
  unfold execOp
  simp only [ho, List.map_toArray, List.map_cons, List.map_nil, hx, Sem.run_bind, run_bsR, Result.andThen_ok, Sem.run_pure]
theorem wp_app_r (hgd : o.guard = none) (s x : Operand) (ho : o.op = .call { callee := .builtin .append, args := #[s, x], argTypes := #[66, 66] })
    (base : Nat) (v : Value) (l : List Nt) (nt : Nt) (hs : a.eval s = v) (hown : OwR w base v l)
    (g c : Nat) (hx : a.eval x = .slice (some ⟨g, 0, none⟩) 1 c) (hr : Fb w g 342 (ntc nt)) (hsz : l.length ≤ 1000) (hbase : base ≤ w.heap.size)
    (h : ∀ A' c' w', OwR w' base (.slice A' (l.length + 1) c') (l ++ [nt]) → Below base w w' → wpList Try.prog ops Q rest (a.put o.dst (.slice A' (l.length + 1) c')) w') : wpList Try.prog ops Q (o :: rest) a w := by
  obtain ⟨i0, hi, hz0, hz1, hz2⟩ := info_parts info_rn
  refine wp_app w hgd s x 66 ho base 89 i0 (.agg (NA zNt)) 342 2728 Try.underlying66 hi hz0 hz1 hz2 (na_size _) (by decide) v l.length _ hs hown (some ⟨g, 0, none⟩) 1 c (ntc nt) hx hr.sl (fun j _ => ntc_one _ _) (by simp only [maxLen]; omega) (by omega) hbase ?_
  intro A' c' w' h1 h2 h3 h4 h5 h6
  refine h A' c' w' ?_ h4
  unfold OwR
  rw [List.length_append, List.length_singleton]
  exact h1.as_ fun j hj => ntf_app l nt j hj
end
theorem OwR.keep {w w' : World} {B : Nat} {v : Value} {l : List Nt} (h : OwR w B v l) {D : Nat} (hb : Below D w w') (hD : w.heap.size ≤ D) : OwR w' B v l := Ow.keep h hb hD
theorem nt_row (l : List Nt) (i : Nat) (x : Nt) (hx : l[i]? = some x) (j : Nat) (hj : j < 342) : ntf l (i * 342 + j) = ntc x j := nt_k l i x hx j hj
theorem info_hn : (Try.prog.info? 58).map (·.size) = some 342 := by kernel_rfl
theorem info_hr : (Try.prog.info? 89).map (·.size) = some 342 := by kernel_rfl
attribute [local irreducible] FA FL
def AsOk (w : World) (l : List Nt) (k : Nat) (x : Ending) (w' : World) : Prop := ∃ A' cc, x = .returned (.slice A' k cc) ∧ RowN w' A' l ∧ Below w.heap.size w w'
set_option maxRecDepth 100000 in
set_option maxHeartbeats 8000000 in
theorem as_any (w : World) (A : Option Addr) (l : List Nt) (c : Nat) (hl : l.length ≤ 16) (hr : RowN w A l) : Calls Try.prog 27 #[.slice A l.length c] w (AsOk w l l.length) := by
  obtain ⟨ln, hln⟩ : ∃ ln, ln = l.length := ⟨_, rfl⟩
  rw [← hln] at hl ⊢
  have HLN := hid hln
  clear hln
  have HR := hid hr
  clear hr
  go_enter Try.func27, Try.ntmps27
  go_wp2_with fail
  obtain ⟨B, hB⟩ : ∃ B, B = w.heap.size := ⟨_, rfl⟩
  have HB := hid hB
  clear hB
  go_loopw [3, 4] (fun v i wx => ∃ k : Nat, k ≤ ln ∧ i = .int .i64 (k : Int) ∧ OwR wx B v (l.take k) ∧ Below B w wx) (fun _ i _ => ln - (intOf i).toNat)
  case atStart => exact ⟨0, Nat.zero_le _, rfl, Ow.none_, Below.refl _ _⟩
  case round =>
    obtain ⟨k, hk, rfl, hO, hBl⟩ := hrel
    have HO := hid hO
    have BL := hid hBl
    clear hO hBl
    have BS := hid (show B ≤ wr.heap.size from by rw [HB.out]; exact BL.out.size)
    by_cases hlt : (k : Int) < ln
    · obtain ⟨x, hx⟩ : ∃ x, l[k]? = some x := ⟨l[k]'(by have := HLN.out; omega), List.getElem?_eq_getElem _⟩
      have HX := hid hx
      clear hx
      obtain ⟨g, rfl, hF⟩ := (HR.out.below BL.out (by rw [HB.out]; exact Nat.le_refl _)) (by have := HLN.out; omega)
      have HF := hid hF
      clear hF
      have TL := hid (show (l.take k).length = k from by have := HLN.out; simp; omega)
      have TK := hid (show l.take k ++ [x] = l.take (k + 1) from by rw [List.take_add_one, HX.out]; rfl)
      have S5 : Hid (HS [] wr wr []) := hid HS.start
      go_upto_region 5 with (fail)
      apply wp_region_lit
      refine wl_val (v := ?_) rfl ?_ ?_; rotate_left; (focus ( go_simp; (try with_reducible rfl))); (try simp only [Act.put, List.setIfInBounds_toArray, List.set_cons_zero, List.set_cons_succ])
      refine wl_val (v := ?_) rfl ?_ ?_; rotate_left; (focus ( go_simp; (try with_reducible rfl))); (try simp only [Act.put, List.setIfInBounds_toArray, List.set_cons_zero, List.set_cons_succ])
      refine wl_val (v := ?_) rfl ?_ ?_; rotate_left; (focus ( go_simp; (try with_reducible rfl))); (try simp only [Act.put, List.setIfInBounds_toArray, List.set_cons_zero, List.set_cons_succ])
      refine wl_val (v := ?_) rfl ?_ ?_; rotate_left; (focus (have z1 : (0 : Int) ≤ k := (by omega); have z2 : (k : Int) < ln := (by omega); have z3 : k < ln := (by omega); have z4 : (0 : Nat) ≤ k := Nat.zero_le _; go_simp; (try with_reducible rfl))); (try simp only [Act.put, List.setIfInBounds_toArray, List.set_cons_zero, List.set_cons_succ])
      refine wl_ow rfl (ov_val (ex_load rfl rfl (HF.out.load (k * 342) 342 (ntc x) (by have := HLN.out; omega) (fun j hj => nt_row l k x HX.out j hj) Try.underlying58 rfl info_hn)) ?_)
      try simp only [Act.put, List.setIfInBounds_toArray, List.set_cons_zero, List.set_cons_succ]
      refine wl_ow rfl (ow_bsR rfl rfl S5.out ?_)
      intro U w6 hZ
      have S6 := hid hZ
      have O6 := hid (HO.out.keep hZ.bl (Nat.le_refl _))
      clear hZ
      try simp only [Act.put, List.setIfInBounds_toArray, List.set_cons_zero, List.set_cons_succ]
      refine wp_app_r rfl (.tmp 11) (.tmp 16) rfl B _ (l.take k) x rfl O6.out U 1 rfl (S6.out.fb 0 rfl) (by have := TL.out; omega) (Nat.le_trans BS.out S6.out.bl.size) ?_
      intro A' c' w7 hO7 hB7
      rw [TL.out] at hO7 ⊢
      have O7 := hid hO7
      have B7 := hid hB7
      clear hO7 hB7
      try simp only [Act.put, List.setIfInBounds_toArray, List.set_cons_zero, List.set_cons_succ]
      refine wl_val (v := ?_) rfl ?_ ?_; rotate_left; (focus ( go_simp; (try with_reducible rfl))); (try simp only [Act.put, List.setIfInBounds_toArray, List.set_cons_zero, List.set_cons_succ])
      have B8 := hid (BL.out.trans ((S6.out.bl.mono BS.out).trans B7.out))
      go_wp2_with fail
      go_roundw
      case rel => exact ⟨k + 1, by omega, by go_num, by rw [← TK.out]; exact O7.out, B8.out⟩
      case measure => simp [intOf]; omega
    · have hkl : k = ln := by omega
      subst hkl
      have O9 := hid (show OwR wr B _ l from by have h := HO.out; rw [HLN.out, List.take_length] at h; exact h)
      obtain ⟨A', c', hv', hlc, _, _⟩ := Ow.form_ O9.out
      rw [← HLN.out] at hv'
      subst hv'
      go_wp2_with fail
      go_ret
      refine (⟨A', c', rfl, fun h0 => ?_, ?_⟩ : AsOk w l _ _ _)
      rotate_left
      · rw [← HB.out]; exact BL.out
      have h9 : Ow wr B 89 342 (.slice A' l.length c') l.length (ntf l) := by have := O9.out; rw [HLN.out] at this; exact this
      obtain ⟨g, e, hg, hgl, hcell, hfr⟩ := Ow.block_ h9 h0
      exact ⟨g, e, hgl, fun j hj => hcell j hj, hfr⟩
set_option maxRecDepth 100000 in
set_option maxHeartbeats 8000000 in
theorem rsame_any (w : World) (A1 A2 : Option Addr) (l : List Nt) (c1 c2 : Nat) (hl : l.length ≤ 16) (h1 : RowN w A1 l) (h2 : RowN w A2 l) : Calls Try.prog 26 #[.slice A1 l.length c1, .slice A2 l.length c2] w fun x w' => x = .returned (.bool true) ∧ Below w.heap.size w w' := by
  obtain ⟨ln, hln⟩ : ∃ ln, ln = l.length := ⟨_, rfl⟩
  rw [← hln] at hl ⊢
  have HLN := hid hln
  clear hln
  have HR1 := hid h1
  have HR2 := hid h2
  clear h1 h2
  go_enter Try.func26, Try.ntmps26
  go_wp2_with fail
  go_loopw [5] (fun i wx => ∃ k : Nat, k ≤ ln ∧ i = .int .i64 (k : Int) ∧ Below w.heap.size w wx) (fun i _ => ln - (intOf i).toNat)
  case atStart => exact ⟨0, Nat.zero_le _, rfl, Below.refl _ _⟩
  case round =>
    obtain ⟨k, hk, rfl, hBl⟩ := hrel
    have BL := hid hBl
    clear hBl
    by_cases hlt : (k : Int) < ln
    · obtain ⟨x, hx⟩ : ∃ x, l[k]? = some x := ⟨l[k]'(by have := HLN.out; omega), List.getElem?_eq_getElem _⟩
      have HX := hid hx
      clear hx
      obtain ⟨g1, rfl, hF⟩ := (HR1.out.below BL.out (Nat.le_refl _)) (by have := HLN.out; omega)
      have HF1 := hid hF
      clear hF
      obtain ⟨g2, rfl, hF⟩ := (HR2.out.below BL.out (Nat.le_refl _)) (by have := HLN.out; omega)
      have HF2 := hid hF
      clear hF
      go_upto_region 6 with (fail)
      refine wp_region_held_drew (S := fun (w' : World) => Fb w' g1 (l.length * 342) (ntf l) ∧ Fb w' g2 (l.length * 342) (ntf l) ∧ Below w.heap.size w w') (by kernel_rfl) ?_ (fun hHeld => ?_)
      · exact ⟨HF1.out.drew, HF2.out.drew, BL.out.drew⟩
      refine tk 0 (v := ?_) rfl (by kernel_rfl) (by kernel_rfl) (by kernel_rfl) (fun _ _ _ h => h) rfl ?_ hHeld ?_; rotate_left; (focus (intro w hSw; (try dsimp only at hSw);  go_simp; (try with_reducible rfl))); (try simp only [Act.put, List.setIfInBounds_toArray, List.set_cons_zero, List.set_cons_succ])
      refine tk 1 (v := ?_) rfl (by kernel_rfl) (by kernel_rfl) (by kernel_rfl) (fun _ _ _ h => h) rfl ?_ hHeld ?_; rotate_left; (focus (intro w hSw; (try dsimp only at hSw);  go_simp; (try with_reducible rfl))); (try simp only [Act.put, List.setIfInBounds_toArray, List.set_cons_zero, List.set_cons_succ])
      refine tk 2 (v := ?_) rfl (by kernel_rfl) (by kernel_rfl) (by kernel_rfl) (fun _ _ _ h => h) rfl ?_ hHeld ?_; rotate_left; (focus (intro w hSw; (try dsimp only at hSw); have z1 : (0 : Int) ≤ k := (by omega); have z2 : (k : Int) < ln := (by omega); have z3 : k < ln := (by omega); have z4 : (0 : Nat) ≤ k := Nat.zero_le _; go_simp; (try with_reducible rfl))); (try simp only [Act.put, List.setIfInBounds_toArray, List.set_cons_zero, List.set_cons_succ])
      refine tk 3 (v := .agg (FA 342 (ntc x))) rfl (by kernel_rfl) (by kernel_rfl) (by kernel_rfl) (fun _ _ _ h => h) rfl (fun w hSw => ex_load rfl rfl (hSw.1.load (k * 342) 342 (ntc x) (by have := HLN.out; omega) (fun j hj => nt_row l k x HX.out j hj) Try.underlying89 rfl info_hr)) hHeld ?_; (try simp only [Act.put, List.setIfInBounds_toArray, List.set_cons_zero, List.set_cons_succ])
      refine tk 4 (v := ?_) rfl (by kernel_rfl) (by kernel_rfl) (by kernel_rfl) (fun _ _ _ h => h) rfl ?_ hHeld ?_; rotate_left; (focus (intro w hSw; (try dsimp only at hSw);  go_simp; (try with_reducible rfl))); (try simp only [Act.put, List.setIfInBounds_toArray, List.set_cons_zero, List.set_cons_succ])
      refine tk 5 (v := ?_) rfl (by kernel_rfl) (by kernel_rfl) (by kernel_rfl) (fun _ _ _ h => h) rfl ?_ hHeld ?_; rotate_left; (focus (intro w hSw; (try dsimp only at hSw);  go_simp; (try with_reducible rfl))); (try simp only [Act.put, List.setIfInBounds_toArray, List.set_cons_zero, List.set_cons_succ])
      refine tk 6 (v := ?_) rfl (by kernel_rfl) (by kernel_rfl) (by kernel_rfl) (fun _ _ _ h => h) rfl ?_ hHeld ?_; rotate_left; (focus (intro w hSw; (try dsimp only at hSw); have z1 : (0 : Int) ≤ k := (by omega); have z2 : (k : Int) < ln := (by omega); have z3 : k < ln := (by omega); have z4 : (0 : Nat) ≤ k := Nat.zero_le _; go_simp; (try with_reducible rfl))); (try simp only [Act.put, List.setIfInBounds_toArray, List.set_cons_zero, List.set_cons_succ])
      refine tk 7 (v := .agg (FA 342 (ntc x))) rfl (by kernel_rfl) (by kernel_rfl) (by kernel_rfl) (fun _ _ _ h => h) rfl (fun w hSw => ex_load rfl rfl (hSw.2.1.load (k * 342) 342 (ntc x) (by have := HLN.out; omega) (fun j hj => nt_row l k x HX.out j hj) Try.underlying89 rfl info_hr)) hHeld ?_; (try simp only [Act.put, List.setIfInBounds_toArray, List.set_cons_zero, List.set_cons_succ])
      refine tk 8 (v := .bool false) rfl (by kernel_rfl) (by kernel_rfl) (by kernel_rfl) (fun _ _ _ h => h) rfl (fun w hSw => ex_neqN _ _ rfl x rfl rfl w) hHeld ?_; (try simp only [Act.put, List.setIfInBounds_toArray, List.set_cons_zero, List.set_cons_succ])
      have B2 := hid hHeld.2.2
      clear hHeld
      refine wpAnyH_done (by kernel_rfl) ?_ _
      go_wp2_with fail
      go_roundw
      case rel => exact ⟨k + 1, by omega, by go_num, B2.out⟩
      case measure => simp [intOf]; omega
    · go_wp2_with fail
      go_ret
      exact ⟨rfl, BL.out⟩
end Go.Proofs.Ytppcanaelagfmaa
