/- An array of numbers against another one; built, indexed. Make of the package. What the wheel asks of a pool holds of those that are made. -/
import Derived.Test.YteefhiniamajkaaGreatWhlWt
import Derived.BigQuiet
import Derived.Deep.RegionHeld3
import Derived.Deep.Cut
import Derived.Deep.LoopGhost
import Derived.Deep.CutRange
import Derived.Test.YteefhiniamajkaaGreatGt
namespace Go.Proofs.YteefhiniamajkaaGreat
set_option linter.unusedVariables false
set_option linter.unusedSimpArgs false
open Go.RowKit Go.ChangeShapes Go.WideShapes Go.ChangeAt

section
variable {P : Program}
theorem run_equalIn_arr2 (w : World) (d : Nat) (t elem : TypeId) (len n : Nat) (xs ys : Array Value) (hu : P.underlying t = some (.array len elem)) (hs : (sizeOf elem).run P w = .ok n w) (f g : Nat → Value) (e : Nat → Bool)
    (hp : ∀ i, i < len → (part elem xs (i * n)).run P w = .ok (f i) w) (hq : ∀ i, i < len → (part elem ys (i * n)).run P w = .ok (g i) w) (he : ∀ i, i < len → (Op.equalIn d elem (f i) (g i)).run P w = .ok (e i) w) :
    (Op.equalIn (d + 1) t (.agg xs) (.agg ys)).run P w = .ok ((List.range' 0 len 1).all e) w := by
  simp only [Op.equalIn, Sem.run_bind, run_underlying hu, Result.andThen_ok, hs]
  rw [Std.Legacy.Range.forIn_eq_forIn_range']
  have hl : ∀ j ∈ List.range' 0 len 1, j < len := fun j hj => by simp at hj; omega
  simp only [Std.Legacy.Range.size, Nat.sub_zero, Nat.add_sub_cancel, Nat.div_one]
  revert hl
  generalize List.range' 0 len 1 = l
  intro hl
  induction l with
  | nil => simp
  | cons j l ih =>
    have hj := hl j (List.mem_cons_self ..)
    have ih' := ih (fun i hi => hl i (List.mem_cons_of_mem _ hi))
    cases hb : e j
    · simp only [List.forIn_cons, Sem.run_bind, hp j hj, hq j hj, Result.andThen_ok, he j hj, hb, Bool.not_false, if_true, Sem.run_pure, List.all_cons, Bool.false_and]
    · simp only [List.forIn_cons, Sem.run_bind, hp j hj, hq j hj, Result.andThen_ok, he j hj, hb, Bool.not_true, Bool.false_eq_true, if_false, Sem.run_pure, List.all_cons, Bool.true_and]
      exact ih'
end
theorem part_ia (n : Nat) (f : Nat → Int) (i : Nat) (hi : i < n) (w : World) : (part 3 (ia n f) (i * 1)).run Tryz.prog w = .ok (.int .i64 (f i)) w := by
  have ai : (isAgg 3).run Tryz.prog w = .ok false w := by kernel_rfl
  have e0 := ia_at n f i hi
  rw [Nat.mul_one]
  simp [part, ai, e0, go_sem]
theorem eq_ia (f g : Nat → Int) (w : World) : (Op.equalIn 10000 155 (.agg (ia 64 f)) (.agg (ia 64 g))).run Tryz.prog w = .ok ((List.range' 0 64 1).all fun j => f j == g j) w :=
  run_equalIn_arr2 w 9999 155 3 64 1 (ia 64 f) (ia 64 g) Tryz.underlying155 (by kernel_rfl) (fun i => .int .i64 (f i)) (fun i => .int .i64 (g i)) _ (fun i hi => part_ia 64 f i hi w) (fun i hi => part_ia 64 g i hi w) (fun i _ => run_equalIn_int w 9998 3 .i64 .i64 (f i) (g i) Tryz.underlying3)
theorem ex_eql_a {o : Oper} {h : Operand → Value} (x y : Operand) (ho : o.op = .binOp .eql 155 x y 155) (f g : Nat → Int) (r : Bool) (hx : h x = .agg (ia 64 f)) (hy : h y = .agg (ia 64 g)) (hr : ((List.range' 0 64 1).all fun j => f j == g j) = r) (w : World) : (execOp h o).run Tryz.prog w = .ok (.value (.bool r)) w := by
  have hg : (eqGuard .eql 155 x y (.agg (ia 64 f)) (.agg (ia 64 g))).run Tryz.prog w = .ok () w := run_eqGuard_agg w _ _ _ _ _ _ (by kernel_rfl)
  unfold execOp
  simp only [ho, hx, hy, Sem.run_bind, hg, Result.andThen_ok, run_eql_struct, eq_ia, Sem.run_pure, hr]
theorem build60 (w : World) : (Instr.build 155 #[]).run Tryz.prog w = .ok (.agg (ia 64 fun _ => 0)) w := run_build w _ _ _ (by kernel_rfl)
theorem index_ia (f : Nat → Int) (i : Nat) (hi : i < 64) (w : World) : (Instr.index 155 (.agg (ia 64 f)) (.int .i64 (i : Int))).run Tryz.prog w = .ok (.int .i64 (f i)) w := by
  have hsz : (sizeOf 3).run Tryz.prog w = .ok 1 w := by kernel_rfl
  have hp := part_ia 64 f i hi w
  have hu := run_underlying (P := Tryz.prog) Tryz.underlying155 w
  simp only [Instr.index, asIntOf, Sem.run_bind, Sem.run_pure, Result.andThen_ok, hu]
  rw [if_pos (by omega)]
  simp only [Sem.run_bind, hsz, Result.andThen_ok, Int.toNat_natCast, hp]
theorem zeros_ia (n : Nat) : Array.replicate n (Value.int .i64 0) = ia n (fun _ => 0) := by
  apply Array.ext
  · simp [ia_size]
  · intro j h1 h2
    have hj : j < n := by simpa using h1
    have := ia_at n (fun _ => 0) j hj
    rw [Array.getElem?_eq_getElem h2] at this
    rw [Option.some.inj this]
    simp
end Go.Proofs.YteefhiniamajkaaGreat
namespace Go.Proofs.YteefhiniamajkaaGreat
set_option linter.unusedVariables false
set_option linter.unusedSimpArgs false
open Go.RowKit Go.ChangeShapes Go.WideShapes Go.ChangeAt

def whlW (p : Pl) : Nat → Int := if offW (wtP p) 64 = 0 then fun _ => -1 else wkW (wtP p) (atP p) (byP p) 127
/-- Each course stands where all that is behind it is somebody's. -/
def CO (p : Pl) (f g : Nat → Int) : Prop := ∀ i, i < 64 → 0 < wtP p i → ∃ k, g (2 * i) = (posW (atP p i) (byP p i) k : Nat) ∧ g (2 * i + 1) = (byP p i : Nat) ∧ ∀ j, j < k → f (posW (atP p i) (byP p i) j) ≠ -1
theorem off_zero {wt : Nat → Nat} : ∀ {m : Nat}, offW wt m = 0 → ∀ i, i < m → wt i = 0
  | 0, _, i, h => absurd h (by omega)
  | m + 1, h, i, hi => by
    have h1 : offW wt (m + 1) = offW wt m + wt m := rfl
    by_cases e : i = m
    · subst e; omega
    · exact off_zero (m := m) (by omega) i (by omega)
theorem zero_off {wt : Nat → Nat} : ∀ {m : Nat}, (∀ i, i < m → wt i = 0) → offW wt m = 0
  | 0, _ => rfl
  | m + 1, h => by
    show offW wt m + wt m = 0
    rw [zero_off (fun i hi => h i (by omega)), h m (by omega)]
theorem all_zero (p : Pl) : ((List.range' 0 64 1).all fun j => (wtP p j : Int) == 0) = decide (offW (wtP p) 64 = 0) := by
  by_cases h : offW (wtP p) 64 = 0
  · rw [decide_eq_true h, List.all_eq_true]
    intro j hj
    have := off_zero h j (by simp at hj; omega)
    simp [this]
  · rw [decide_eq_false h]
    cases hb : (List.range' 0 64 1).all fun j => (wtP p j : Int) == 0
    · rfl
    · rw [List.all_eq_true] at hb
      refine absurd (zero_off fun i hi => ?_) h
      have := hb i (by simp; omega)
      simpa using this
theorem by_of (p : Pl) : ∀ i, i < 64 → 0 < wtP p i → 1 ≤ byP p i ∧ byP p i ≤ 126 := fun i _ _ => by_bd p i
theorem wt_le {p : Pl} (hp : Pw p) (i : Nat) (hi : i < 64) : wtP p i ≤ 8 := by
  unfold wtP
  split
  · rename_i h
    have := (hp i hi).2.2 (by rw [h]; decide)
    omega
  · omega
/-- One turn more: slot i's, at n of its turns. -/
theorem turn_one {p : Pl} {i n r k : Nat} (hi : i < 64) (hn : n < wtP p i) (hk : k = min 127 (r * offW (wtP p) 64 + offW (wtP p) i + n)) (hk7 : k < 127) :
    let f := wkW (wtP p) (atP p) (byP p) k
    let F := ffW f (atP p i) (byP p i)
    F < 127 ∧ f (posW (atP p i) (byP p i) F) = -1 ∧ (∀ j, j < F → f (posW (atP p i) (byP p i) j) ≠ -1) ∧ wkW (wtP p) (atP p) (byP p) (k + 1) = putW f (posW (atP p i) (byP p i) F) i := by
  have hT : 0 < offW (wtP p) 64 := by
    have := off_mono (wtP p) (show i + 1 ≤ 64 by omega)
    have h1 : offW (wtP p) (i + 1) = offW (wtP p) i + wtP p i := rfl
    omega
  have hle := off_mono (wtP p) (show i + 1 ≤ 64 by omega)
  have h1 : offW (wtP p) (i + 1) = offW (wtP p) i + wtP p i := rfl
  have hk' : k = offW (wtP p) i + n + r * offW (wtP p) 64 := by omega
  have hm : k % offW (wtP p) 64 = offW (wtP p) i + n := by
    rw [hk', Nat.add_mul_mod_self_right]
    exact Nat.mod_eq_of_lt (by omega)
  have hs : slW (wtP p) (k % offW (wtP p) 64) = i := by rw [hm]; exact sl_eq hi hn
  have hfr := wk_free (at_ := atP p) hT (by_of p) k (by omega)
  have hff := ff_spec (f := wkW (wtP p) (atP p) (byP p) k) (a := atP p i) (b := byP p i) (by_bd p i) (by rw [hfr]; omega)
  refine ⟨hff.1, hff.2.1, hff.2.2, ?_⟩
  show putW _ _ _ = _
  rw [hs]
/-- The courses behind a turn. -/
theorem CO.turn {p : Pl} {f g : Nat → Int} {i F : Nat} (h : CO p f g) (hi : i < 64) (hF : ∀ j, j < F → f (posW (atP p i) (byP p i) j) ≠ -1) :
    CO p (putW f (posW (atP p i) (byP p i) F) i) (putW g (2 * i) (posW (atP p i) (byP p i) (F + 1) : Nat)) := by
  intro s hs hw
  obtain ⟨k, h1, h2, h3⟩ := h s hs hw
  have hput : ∀ q, f q ≠ -1 → putW f (posW (atP p i) (byP p i) F) (i : Int) q ≠ -1 := fun q hq => by
    unfold putW
    split
    · omega
    · exact hq
  by_cases e : s = i
  · subst e
    refine ⟨F + 1, putW_same _ _ _, by rw [putW_ne _ _ (by omega)]; exact h2, fun j hj => ?_⟩
    by_cases ej : j = F
    · subst ej; rw [putW_same]; omega
    · exact hput _ (hF j (by omega))
  · exact ⟨k, by rw [putW_ne _ _ (by omega)]; exact h1, by rw [putW_ne _ _ (by omega)]; exact h2, fun j hj => hput _ (h3 j hj)⟩
theorem CO.start {p : Pl} : CO p (fun _ => -1) (coF p) := by
  intro i hi hw
  have hst : (p.s i).st = 2 := by
    unfold wtP at hw
    by_cases h : (p.s i).st = 2
    · exact h
    · rw [if_neg h] at hw; omega
  refine ⟨0, ?_, ?_, fun j hj => absurd hj (by omega)⟩
  · unfold coF
    rw [show 2 * i / 2 = i by omega, if_pos hst, if_pos (by omega)]
    have : posW (atP p i) (byP p i) 0 = atP p i := by unfold posW; rw [Nat.zero_mul, Nat.add_zero]; exact Nat.mod_eq_of_lt (at_bd p i)
    rw [this]
  · unfold coF
    rw [show (2 * i + 1) / 2 = i by omega, if_pos hst, if_neg (by omega)]
theorem info_int : (Tryz.prog.info? 3).map (fun i => (i.zero, i.size, i.bytes)) = some (some (.int .i64 0), 1, 8) := by kernel_rfl
section
variable {w : World} {ops : Array Oper} {rest : List Oper} {o : Oper} {a : Act} {Q : Exit → Act → World → Prop}
/-- make([]int, n). -/
theorem wp_make_i (hgd : o.guard = none) (l c : Operand) (ho : o.op = .makeSlice 22 l c) (n : Nat) (L C : Int) (hl : a.eval l = .int .i64 L) (hc : a.eval c = .int .i64 C) (hL : L = n) (hC : C = n) (hn0 : 0 < n) (hsz : n ≤ 1000000)
    (h : ∀ w', IA w' w.heap.size n (fun _ => 0) → Below w.heap.size w w' → wpList Tryz.prog ops Q rest (a.put o.dst (.slice (some ⟨w.heap.size, 0, none⟩) n n)) w') : wpList Tryz.prog ops Q (o :: rest) a w := by
  obtain ⟨i0, hi, hz0, hz1, hz2⟩ := info_parts info_int
  refine wpList_make_full w hgd l c _ ho w.heap.size 3 i0 (.int .i64 0) 1 Tryz.underlying22 hi hz0 hz1 .i64 .i64 L C n hl hc hL hC (by rw [hz2]; omega) (by simp only [maxLen]; omega) (Nat.le_refl _) ?_
  intro w' h1 h2
  have e : (madeCells (Value.int .i64 0).cells (n * 1)).toList = (List.range (n * 1)).map (fun _ => Value.int .i64 0) := by
    rw [show (Value.int .i64 0).cells = #[Value.int .i64 0] from rfl, toList_madeCells_one]
    simp [List.map_const']
  rw [e] at h1
  have hO : Ow w' w.heap.size 3 1 (.slice (some ⟨w.heap.size, 0, none⟩) n n) n (fun _ => .int .i64 0) := h1
  obtain ⟨g, hg, _, hlt, hc2, hf⟩ := hO.block_ hn0
  injection hg with hg
  injection hg with hg _ _
  subst hg
  exact h w' ⟨hlt, fun j hj => hc2 j (by omega), hf⟩ (Ow.below_ (v := .slice none 0 0) (Ow.none_ (w := w) (B := w.heap.size) (e := 3) (size := 1) (f := fun _ => .int .i64 0)) h2 (Nat.le_refl _))
end
attribute [local irreducible] PA ia
set_option maxRecDepth 100000 in
set_option maxHeartbeats 4000000 in
theorem make7_any (p : Pl) (hp : Pw p) (w : World) : Calls Tryz.prog 92 #[plV p] w fun x w' => ∃ B : Nat, x = .returned (.slice (some ⟨B, 0, none⟩) 127 127) ∧ w.heap.size ≤ B ∧ IA w' B 127 (whlW p) ∧ Below w.heap.size w w' := by
  have hz : ∀ w : World, (zeroValue 155).run Tryz.prog w = .ok (.agg (ia 64 fun _ => 0)) w := fun w => zero60 w
  have hz1 := ia_size 64 (fun _ => 0)
  have hz2 := ia_ne (n := 64) (fun _ => 0) (by omega)
  have hy : ∀ w : World, (zeroValue 176).run Tryz.prog w = .ok (.agg (ia 128 fun _ => 0)) w := fun w => zero64 w
  have hy1 := ia_size 128 (fun _ => 0)
  have hy2 := ia_ne (n := 128) (fun _ => 0) (by omega)
  have HPW := hid hp
  have WC := hid (show ∀ w, Calls Tryz.prog 96 #[.agg (PA p)] w fun x w' => x = .returned (.agg (ia 64 (fun j => (wtP p j : Int)))) ∧ Below w.heap.size w w' from fun w => weights_any p hp w)
  have CC := hid (show ∀ w, Calls Tryz.prog 97 #[.agg (PA p)] w fun x w' => x = .returned (.agg (ia 128 (coF p))) ∧ Below w.heap.size w w' from fun w => courses_any p hp w)
  clear hp
  unfold plV
  go_enter Tryz.func92, Tryz.ntmps92
  go_upto_region 1 with (fail)
  have P0 := hid (PoolAt.made (w := w) (p := p) (T := 33) rfl)
  have B0 := hid ((Below.refl w.heap.size w).alloc (Nat.le_refl _) (.cells (PA p) 33))
  generalize w.alloc (.cells (PA p) 33) = w0 at *
  obtain ⟨P, hP⟩ : ∃ P, P = w.heap.size := ⟨_, rfl⟩
  rw [← hP] at P0
  rw [show (Value.pointer (some ⟨w.heap.size, 0, none⟩)) = Value.pointer (some ⟨P, 0, none⟩) from by rw [hP]]
  have HP := hid hP
  clear hP
  go_step3
  go_upto_region 2 with (at_make; refine wp_make_i rfl _ _ rfl 127 127 127 rfl rfl rfl rfl (by omega) (by omega) ?_; intro w1 hI1 hb1; have I1 := hid hI1; have P1 := hid (P0.out.below hb1); have B1 := hid (B0.out.trans (hb1.mono B0.out.size)); have dBP : w0.heap.size ≠ P := Nat.ne_of_gt P0.out.1; have lB := B0.out.size; clear hI1 hb1 P0 B0)
  generalize w0.heap.size = B at *
  go_wp2_with fail
  go_loopw [13] (fun i wr => ∃ k : Nat, k ≤ 127 ∧ i = .int .i64 (k : Int) ∧ IA wr B 127 (fun j => if j < k then -1 else 0) ∧ PoolAt wr P p ∧ Below w.heap.size w wr) (fun i _ => 127 - (intOf i).toNat)
  case atStart => exact ⟨0, by omega, rfl, I1.out.as_ (fun j _ => by rw [if_neg (by omega)]), P1.out, B1.out⟩
  case round =>
    clear I1 P1 B1
    obtain ⟨k, hk, rfl, hI, hP, hB⟩ := hrel
    have I2 := hid hI
    have P2 := hid hP
    have B2 := hid hB
    clear hI hP hB
    by_cases hlt : k < 127
    · have i0 : (0 : Int) ≤ k := by omega
      have i1 : (k : Int) < 127 := by omega
      have cb : wr.cell? ⟨B, k, none⟩ = some (.int .i64 0) := by have h := I2.out.2.1 k hlt; simp only [Nat.lt_irrefl, if_false] at h; exact h
      have zb := I2.out.2.2 k
      have I3 := hid ((I2.out.set k hlt (-1)).as_ (g := fun j => if j < k + 1 then -1 else 0) (fun j hj => by by_cases e : j = k; (subst e; rw [putW_same, if_pos (by omega)]); (rw [putW_ne _ _ e]; by_cases e2 : j < k; (rw [if_pos e2, if_pos (by omega)]); (rw [if_neg e2, if_neg (by omega)]))))
      have P3 := hid (P2.out.other (c := B) (j := k) (v := .int .i64 (-1)) dBP)
      have B3 := hid (B2.out.setCell (p := ⟨B, k, none⟩) lB (.int .i64 (-1)))
      clear I2 P2 B2
      go_wp2_with fail
      go_roundw
      case rel => exact ⟨k + 1, by omega, by go_num, I3.out, P3.out, B3.out⟩
      case measure => simp [intOf]; omega
    · have e : k = 127 := by omega
      subst e
      have I4 := hid (I2.out.as_ (g := fun _ => -1) (fun j hj => by rw [if_pos hj]))
      clear I2
      have LP := P2.out.loadA
      go_wp2_with ((with_reducible refine wl_id ?_); refine wl_load rfl rfl rfl LP ?_)
      refine (WC.out _).mono ?_
      rintro x w3 ⟨rfl, hb⟩
      clear LP
      have I5 := hid (I4.out.below hb)
      have P5 := hid (P2.out.below hb)
      have B5 := hid (B2.out.trans (hb.mono B2.out.size))
      clear hb I4 P2 B2
      have W0 := IA.made (w := w3) (n := 64) (f := fun _ => 0) (T := 155) (d := w3.heap.size) rfl
      have SW := hid (W0.store (T := 155) (fun j => (wtP p j : Int)) (by kernel_rfl))
      have W6 := hid (W0.whole (fun j => (wtP p j : Int)) (by omega))
      have dWB : w3.heap.size ≠ B := Nat.ne_of_gt I5.out.1
      have dWP : w3.heap.size ≠ P := Nat.ne_of_gt P5.out.1
      have I6 := hid ((I5.out.alloc (.cells (ia 64 fun _ => 0) 155)).others (c := w3.heap.size) (o := 0) (vs := (ia 64 (fun j => (wtP p j : Int))).toList) dWB (by omega))
      have P6 := hid ((P5.out.alloc (.cells (ia 64 fun _ => 0) 155)).others (c := w3.heap.size) (o := 0) (vs := (ia 64 (fun j => (wtP p j : Int))).toList) dWP)
      have B6 := hid ((B5.out.alloc B5.out.size (.cells (ia 64 fun _ => 0) 155)).trans (keeps_setCells w3.heap.size (ia 64 (fun j => (wtP p j : Int))).toList 0 _ w.heap.size B5.out.size))
      go_upto_region 8 with ((with_reducible refine wl_id ?_); refine wl_store rfl rfl rfl rfl SW.out ?_)
      clear SW W0 I5 P5
      have lW := B5.out.size
      clear B5
      generalize (w3.alloc (.cells (ia 64 fun _ => 0) 155)).setCells w3.heap.size 0 (ia 64 (fun j => (wtP p j : Int))).toList = w4 at *
      generalize w3.heap.size = Wb at *
      have LW := W6.out.load (T := 155) Tryz.underlying155 rfl (by kernel_rfl)
      have hZ := all_zero p
      by_cases hT : offW (wtP p) 64 = 0
      · rw [decide_eq_true hT] at hZ
        go_wp2_with (first | ((with_reducible refine wl_id ?_); refine wl_load rfl rfl rfl LW ?_) | ((with_reducible refine wl_id ?_); refine wl_build0 rfl rfl (build60 _) ?_) | ((with_reducible refine wl_id ?_); refine wl_val rfl (ex_eql_a _ _ rfl _ _ true rfl rfl hZ _) ?_))
        (try rw [Exit.noGoto_ret])
        go_ret
        exact ⟨B, rfl, lB, by unfold whlW; rw [if_pos hT]; exact I6.out, B6.out⟩
      · rw [decide_eq_false hT] at hZ
        have LP := P6.out.loadA
        go_wp2_with (first | ((with_reducible refine wl_id ?_); refine wl_load rfl rfl rfl LW ?_) | ((with_reducible refine wl_id ?_); refine wl_load rfl rfl rfl LP ?_) | ((with_reducible refine wl_id ?_); refine wl_build0 rfl rfl (build60 _) ?_) | ((with_reducible refine wl_id ?_); refine wl_val rfl (ex_eql_a _ _ rfl _ _ false rfl rfl hZ _) ?_))
        clear LW hZ
        refine (CC.out _).mono ?_
        rintro x w5 ⟨rfl, hb⟩
        clear LP
        have I7 := hid (I6.out.below hb)
        have W7 := hid (W6.out.below hb)
        have B7 := hid (B6.out.trans (hb.mono B6.out.size))
        clear hb I6 W6 P6 B6
        have C0 := IA.made (w := w5) (n := 128) (f := fun _ => 0) (T := 176) (d := w5.heap.size) rfl
        have SC := hid (C0.store (T := 176) (coF p) (by kernel_rfl))
        have C8 := hid (C0.whole (coF p) (by omega))
        have dCB : w5.heap.size ≠ B := Nat.ne_of_gt I7.out.1
        have dCW : w5.heap.size ≠ Wb := Nat.ne_of_gt W7.out.1
        have lC := B7.out.size
        have I8 := hid ((I7.out.alloc (.cells (ia 128 fun _ => 0) 176)).others (c := w5.heap.size) (o := 0) (vs := (ia 128 (coF p)).toList) dCB (by omega))
        have W8 := hid ((W7.out.alloc (.cells (ia 128 fun _ => 0) 176)).others (c := w5.heap.size) (o := 0) (vs := (ia 128 (coF p)).toList) dCW (by omega))
        have B8 := hid ((B7.out.alloc B7.out.size (.cells (ia 128 fun _ => 0) 176)).trans (keeps_setCells w5.heap.size (ia 128 (coF p)).toList 0 _ w.heap.size B7.out.size))
        go_upto_region 11 with ((with_reducible refine wl_id ?_); refine wl_store rfl rfl rfl rfl SC.out ?_)
        clear SC C0 I7 W7 B7
        generalize (w5.alloc (.cells (ia 128 fun _ => 0) 176)).setCells w5.heap.size 0 (ia 128 (coF p)).toList = w6 at *
        generalize w5.heap.size = Cb at *
        have T0 : 0 < offW (wtP p) 64 := by omega
        have dBC := Ne.symm dCB
        have dBW := Ne.symm dWB
        go_wp2_with fail
        go_step3
        go_wp2_with fail
        go_loopg [7] 128 (fun gh l wr => ∃ (r k : Nat) (g : Nat → Int), gh = 128 - k ∧ k = r * offW (wtP p) 64 ∧ k ≤ 127 ∧ l = .int .i64 (127 - (k : Int)) ∧ IA wr B 127 (wkW (wtP p) (atP p) (byP p) k) ∧ IA wr Wb 64 (fun j => (wtP p j : Int)) ∧ IA wr Cb 128 g ∧ CO p (wkW (wtP p) (atP p) (byP p) k) g ∧ Below w.heap.size w wr)
        case atStart => exact ⟨0, 0, coF p, rfl, by omega, by omega, rfl, I8.out, W8.out, C8.out, CO.start, B8.out⟩
        case round =>
          clear I8 W8 C8 B8
          obtain ⟨r, k0, g, rfl, hk, hk7, rfl, hI, hW, hC, hco, hB⟩ := hrel
          have W9 := hid hW
          have K0 := hid hk
          have st0 := hid (show IA wr B 127 (wkW (wtP p) (atP p) (byP p) k0) ∧ IA wr Wb 64 (fun j => (wtP p j : Int)) ∧ IA wr Cb 128 g ∧ CO p (wkW (wtP p) (atP p) (byP p) k0) g ∧ Below w.heap.size w wr from ⟨hI, hW, hC, hco, hB⟩)
          clear hI hW hC hco hB hk
          have LW := W9.out.load (T := 155) Tryz.underlying155 rfl (by kernel_rfl)
          go_wp2_with ((with_reducible refine wl_id ?_); refine wl_load rfl rfl rfl LW ?_)
          clear LW W9
          go_loopg [7, 31] 64 (fun gh l i wr => ∃ (i' k : Nat) (g : Nat → Int), gh = 64 - i' ∧ i' ≤ 64 ∧ k = r * offW (wtP p) 64 + offW (wtP p) i' ∧ k ≤ 127 ∧ l = .int .i64 (127 - (k : Int)) ∧ i = .int .i64 (i' : Int) ∧ IA wr B 127 (wkW (wtP p) (atP p) (byP p) k) ∧ IA wr Wb 64 (fun j => (wtP p j : Int)) ∧ IA wr Cb 128 g ∧ CO p (wkW (wtP p) (atP p) (byP p) k) g ∧ Below w.heap.size w wr)
          case atStart => exact ⟨0, k0, g, rfl, by omega, by rw [K0.out]; rfl, hk7, rfl, rfl, st0.out⟩
          case round =>
            clear st0
            obtain ⟨i, k1, g1, rfl, hi, hk1, hk17, rfl, rfl, hst⟩ := hrel
            have K1 := hid hk1
            have st1 := hid hst
            clear hst hk1
            by_cases hlt : i < 64
            · have i0 : (0 : Int) ≤ i := by omega
              have i1 : (i : Int) < 64 := by omega
              have w8 := wt_le HPW.out i hlt
              have IX := index_ia (fun j => (wtP p j : Int)) i hlt wr
              (try simp only at IX)
              have HOF := hid (show offW (wtP p) (i + 1) = offW (wtP p) i + wtP p i from rfl)
              obtain ⟨wn, hwn⟩ : ∃ wn, wn = wtP p i := ⟨_, rfl⟩
              rw [← hwn] at IX HOF w8
              have HWN := hid hwn
              clear hwn
              go_upto_region 15 with ((with_reducible refine wl_id ?_); refine wl_index rfl rfl rfl rfl IX ?_)
              clear IX
              go_wp2_with fail
              go_loopg [7, 36] (wn + 1) (fun gh l n wr => ∃ (n' k : Nat) (g : Nat → Int), gh = wn + 1 - n' ∧ n' ≤ wn ∧ k = r * offW (wtP p) 64 + offW (wtP p) i + n' ∧ k ≤ 127 ∧ l = .int .i64 (127 - (k : Int)) ∧ n = .int .i64 (n' : Int) ∧ IA wr B 127 (wkW (wtP p) (atP p) (byP p) k) ∧ IA wr Wb 64 (fun j => (wtP p j : Int)) ∧ IA wr Cb 128 g ∧ CO p (wkW (wtP p) (atP p) (byP p) k) g ∧ Below w.heap.size w wr)
              case atStart => exact ⟨0, k1, g1, rfl, by omega, by rw [K1.out]; rfl, hk17, rfl, rfl, st1.out⟩
              case round =>
                clear st1
                obtain ⟨n, k, g, rfl, hn, hk, hk7', rfl, rfl, hI, hW, hC, hco, hB⟩ := hrel
                have K2 := hid hk
                have I9 := hid hI
                have W9 := hid hW
                have C9 := hid hC
                have CO9 := hid hco
                have B9 := hid hB
                clear hI hW hC hco hB hk
                have n0 : (0 : Int) ≤ n := by omega
                by_cases hnw : n < wn
                · have n1 : (n : Int) < wn := by omega
                  by_cases h127 : k = 127
                  · have b0 : ((127 : Int) - (k : Int) == 0) = true := by simp; omega
                    go_wp2_with fail
                    (try rw [Exit.noGoto_ret])
                    go_ret
                    exact ⟨B, rfl, lB, by unfold whlW; rw [if_neg (by omega)]; have h := I9.out; rw [h127] at h; exact h, B9.out⟩
                  · have b0 : ((127 : Int) - (k : Int) == 0) = false := by simp; omega
                    have hkk : k < 127 := by omega
                    obtain ⟨F1, F2, F3, F4⟩ := turn_one (p := p) (i := i) (n := n) (r := r) (k := k) hlt (by rw [← HWN.out]; exact hnw) (by have := K2.out; omega) hkk
                    obtain ⟨kc, c1, c2, c3⟩ := CO9.out i hlt (by rw [← HWN.out]; omega)
                    obtain ⟨F, hF⟩ : ∃ F, F = ffW (wkW (wtP p) (atP p) (byP p) k) (atP p i) (byP p i) := ⟨_, rfl⟩
                    rw [← hF] at F1 F2 F3 F4
                    clear hF
                    have HF4 := hid F4
                    have HCO := hid (CO9.out.turn (F := F) hlt F3)
                    rw [show 2 * i = i * 2 by omega] at c1 c2 HCO
                    have NX := hid (fun (w0 : World) (h : IA w0 Cb 128 g) (h2 : IA w0 B 127 (wkW (wtP p) (atP p) (byP p) k)) => next_any_w Cb (i * 2) B 127 (atP p i) (byP p i) kc F (by omega) dCB (by_bd p i) g (wkW (wtP p) (atP p) (byP p) k) c1 c2 (hid c3) F2 F3 w0 h h2)
                    clear c1 c2 c3 F2 F3 F4
                    have hpl := pos_lt (atP p i) (byP p i) F
                    obtain ⟨q, hq⟩ : ∃ q, q = posW (atP p i) (byP p i) F := ⟨_, rfl⟩
                    rw [← hq] at NX HF4 HCO hpl
                    clear hq
                    generalize posW (atP p i) (byP p i) (F + 1) = q2 at *
                    have q0 : (0 : Int) ≤ q := by omega
                    have q1 : (q : Int) < 127 := by omega
                    have i64' : i * 2 + 1 < 128 := by omega
                    go_wp2_with fail
                    refine (NX.out _ C9.out I9.out).mono ?_
                    rintro x w7 ⟨rfl, hC2, hg2⟩
                    have I10 := hid (I9.out.grown hg2 (fun e => dCB (by injection e)))
                    have W10 := hid (W9.out.grown hg2 (fun e => dCW (by injection e)))
                    have C10 := hid hC2
                    have B10 := hid (B9.out.grown hg2 B9.out.size (fun j e => by injection e with e; subst e; exact lC))
                    clear hC2 hg2 I9 W9 C9 B9 NX
                    have cb := I10.out.2.1 q hpl
                    have zb := I10.out.2.2 q
                    have I11 := hid (I10.out.set q hpl i)
                    have W11 := hid (W10.out.other (c := B) (j := q) (v := .int .i64 (i : Int)) dBW)
                    have C11 := hid (C10.out.other (c := B) (j := q) (v := .int .i64 (i : Int)) dBC)
                    have B11 := hid (B10.out.setCell (p := ⟨B, q, none⟩) lB (.int .i64 (i : Int)))
                    clear I10 W10 C10 B10
                    rw [← HF4.out] at I11 HCO
                    clear HF4 CO9
                    go_wp2_with fail
                    go_roundg (wn + 1 - (n + 1))
                    case measure => omega
                    case rel => exact ⟨n + 1, k + 1, _, rfl, hnw, by have := K2.out; omega, by omega, by go_num, by go_num, I11.out, W11.out, C11.out, HCO.out, B11.out⟩
                · have hnn : n = wn := by omega
                  have hni : ¬ (n : Int) < wn := by omega
                  have K3 := hid (show k = r * offW (wtP p) 64 + offW (wtP p) (i + 1) from by rw [HOF.out, K2.out, hnn]; omega)
                  clear hnn
                  go_wp2_with fail
                  go_roundg (64 - (i + 1))
                  case measure => omega
                  case rel => exact ⟨i + 1, k, g, rfl, by omega, K3.out, hk7', rfl, by go_num, I9.out, W9.out, C9.out, CO9.out, B9.out⟩
            · have e : i = 64 := by omega
              subst e
              have K4 := hid (show k1 = (r + 1) * offW (wtP p) 64 from by rw [K1.out, Nat.add_mul, Nat.one_mul])
              have k41 := K1.out
              have k40 := K0.out
              go_wp2_with fail
              go_roundg (128 - k1)
              case measure => omega
              case rel => exact ⟨r + 1, k1, g1, rfl, K4.out, hk17, rfl, st1.out⟩
end Go.Proofs.YteefhiniamajkaaGreat
namespace Go.Proofs.YteefhiniamajkaaGreat
set_option linter.unusedVariables false
set_option linter.unusedSimpArgs false
open Go.RowKit Go.ChangeShapes Go.WideShapes Go.ChangeAt
theorem Pw.step {p : Pl} (h : Pw p) {e : En} (h0 : (apR p e).2 = 0) : Pw (apR p e).1 := by
  obtain ⟨hc, _, h1⟩ := apR_ok h0
  obtain ⟨k1, k2, s0, s1, _⟩ := chk_ok hc
  have hB : e.k = 1 → (0 ≤ e.a ∧ e.a ≤ 4294967295) ∧ (0 ≤ e.p ∧ e.p ≤ 65535) ∧ 1 ≤ e.w ∧ e.w ≤ 8 := by
    intro hk
    rw [chk_eq] at hc
    rw [hk] at hc
    simp only [Int.reduceBEq, Bool.true_and] at hc
    cases hb : mayB e.a e.p && inR e.w 1 8
    · rw [hb] at hc
      revert hc
      cases inR e.s 0 63 <;> simp
    · simp only [Bool.and_eq_true] at hb
      obtain ⟨hm, hw⟩ := hb
      unfold mayB at hm
      simp only [Bool.and_eq_true] at hm
      have h1 := inR_iff hm.1
      have h2 := inR_iff hm.2
      have h3 := inR_iff hw
      omega
  rw [h1]
  have hC : (0 ≤ (chS p e e.s.toNat).ad ∧ (chS p e e.s.toNat).ad ≤ 4294967295) ∧ (0 ≤ (chS p e e.s.toNat).po ∧ (chS p e e.s.toNat).po ≤ 65535) ∧ ((chS p e e.s.toNat).st ≠ 0 → 1 ≤ (chS p e e.s.toNat).we ∧ (chS p e e.s.toNat).we ≤ 8) := by
    have n64 : e.s.toNat < 64 := by omega
    have hn := h _ n64
    have hr : refE p e e.s.toNat = 0 := (apR_ok h0).2.1
    have hf : fitB p e e.s.toNat = true := by
      unfold refE at hr
      cases hb : fitB p e e.s.toNat
      · rw [hb] at hr; exact absurd hr (by simp)
      · rfl
    have hk : e.k = 1 ∨ e.k = 2 ∨ e.k = 3 ∨ e.k = 4 ∨ e.k = 5 ∨ e.k = 6 := by omega
    unfold fitB at hf
    unfold chS
    rcases hk with k | k | k | k | k | k
    all_goals (rw [k] at hf ⊢; simp only [Int.reduceBEq, cond_true, cond_false, Bool.or_true, Bool.or_false] at hf ⊢)
    · exact ⟨(hB k).1, (hB k).2.1, fun _ => (hB k).2.2⟩
    · simp only [Bool.or_eq_true, beq_iff_eq] at hf
      exact ⟨hn.1, hn.2.1, fun _ => hn.2.2 (by omega)⟩
    · simp only [beq_iff_eq] at hf
      exact ⟨hn.1, hn.2.1, fun _ => hn.2.2 (by omega)⟩
    · simp only [Bool.or_eq_true, beq_iff_eq] at hf
      exact ⟨hn.1, hn.2.1, fun _ => hn.2.2 (by omega)⟩
    · exact ⟨by show (0 : Int) ≤ 0 ∧ (0 : Int) ≤ 4294967295; decide, by show (0 : Int) ≤ 0 ∧ (0 : Int) ≤ 65535; decide, fun h => absurd rfl h⟩
    · exact hn
  unfold nxP
  cases (e.k == 6)
  · intro i hi
    simp only [cond_false, setS]
    by_cases e' : i = e.s.toNat
    · rw [if_pos e']; exact hC
    · rw [if_neg e']; exact h i hi
  · exact h
theorem mk_pw (g : Nat → Int) : ∀ k : Nat, Pw (mkP g k)
  | 0 => fun i _ => ⟨by show (0 : Int) ≤ 0 ∧ (0 : Int) ≤ 4294967295; decide, by show (0 : Int) ≤ 0 ∧ (0 : Int) ≤ 65535; decide, fun h => absurd rfl h⟩
  | k + 1 => by
    have ih := mk_pw g k
    unfold mkP
    split
    · rename_i h; exact ih.step h
    · exact ih
end Go.Proofs.YteefhiniamajkaaGreat
