/- The reference's Make. -/
import Derived.Test.YteefhiniamajkaaGreatGx
import Derived.Deep.LoopGhost
import Derived.Deep.CutRange
import Derived.Deep.CutBlock
import Derived.BigQuiet
import Derived.Deep.RegionHeld3
import Derived.Deep.Cut
namespace Go.Proofs.YteefhiniamajkaaGreat
set_option linter.unusedVariables false
set_option linter.unusedSimpArgs false
open Go.RowKit Go.ChangeShapes Go.WideShapes Go.ChangeAt

/-- What is behind each slot's next turn is somebody's. -/
def NO (p : Pl) (f nx : Nat → Int) : Prop := ∀ i, i < 64 → ∃ k, k < 127 ∧ nx i = (k : Nat) ∧ ∀ j, j < k → f (posW (atP p i) (byP p i) j) ≠ -1
theorem NO.turn {p : Pl} {f nx : Nat → Int} {i F : Nat} (h : NO p f nx) (hF7 : F < 127) (hF : ∀ j, j < F → f (posW (atP p i) (byP p i) j) ≠ -1) :
    NO p (putW f (posW (atP p i) (byP p i) F) i) (putW nx i (F : Nat)) := by
  intro s hs
  obtain ⟨k, h0, h1, h3⟩ := h s hs
  have hput : ∀ q, f q ≠ -1 → putW f (posW (atP p i) (byP p i) F) (i : Int) q ≠ -1 := fun q hq => by
    unfold putW
    split
    · omega
    · exact hq
  by_cases e : s = i
  · subst e
    exact ⟨F, hF7, putW_same _ _ _, fun j hj => hput _ (hF j hj)⟩
  · exact ⟨k, h0, by rw [putW_ne _ _ e]; exact h1, fun j hj => hput _ (h3 j hj)⟩
theorem NO.start {p : Pl} : NO p (fun _ => -1) (fun _ => 0) := fun i _ => ⟨0, by omega, rfl, fun j hj => absurd hj (by omega)⟩
theorem pos_int (a b t : Nat) : ((a : Int) + (t : Int) * (b : Int)).tmod 127 = (posW a b t : Nat) := by
  have e : ((a : Int) + (t : Int) * (b : Int)) = ((a + t * b : Nat) : Int) := by push_cast; rfl
  rw [e, Int.tmod_eq_emod_of_nonneg (by omega)]
  unfold posW
  omega
theorem mul_bd {t b : Nat} (ht : t < 127) (hb : b ≤ 126) : 0 ≤ (t : Int) * (b : Int) ∧ (t : Int) * (b : Int) ≤ 15876 := by
  have h := Nat.mul_le_mul (show t ≤ 126 by omega) hb
  have e : (t : Int) * (b : Int) = ((t * b : Nat) : Int) := by push_cast; rfl
  rw [e]
  omega
theorem wt_st {p : Pl} (hp : Pw p) {i : Nat} (hi : i < 64) (h : (p.s i).st = 2) : (wtP p i : Int) = (p.s i).we ∧ 1 ≤ wtP p i := by
  have h1 := (hp i hi).2.2 (by rw [h]; decide)
  unfold wtP
  rw [if_pos h]
  omega
theorem wt_no {p : Pl} {i : Nat} (h : (p.s i).st ≠ 2) : wtP p i = 0 := by unfold wtP; rw [if_neg h]
theorem wk_ge {p : Pl} (hT : 0 < offW (wtP p) 64) (k q : Nat) (h : wkW (wtP p) (atP p) (byP p) k q ≠ -1) : 0 ≤ wkW (wtP p) (atP p) (byP p) k q := by
  rcases wk_val (at_ := atP p) (by_ := byP p) hT k q with h1 | ⟨i, _, _, h1⟩
  · exact absurd h1 h
  · rw [h1]; omega
theorem at_int (p : Pl) (i : Nat) : cAt (p.s i).ad (p.s i).po = ((atP p i : Nat) : Int) := by have := cAt_bd (p.s i).ad (p.s i).po; unfold atP; omega
theorem by_int (p : Pl) (i : Nat) : cBy (p.s i).ad (p.s i).po = ((byP p i : Nat) : Int) := by have := cBy_bd (p.s i).ad (p.s i).po; unfold byP; omega
theorem rnd_less {db : Bool} {TT r k0 k1 : Nat} (hd : decide (0 < TT) = db) (h0 : k0 = min 127 (r * TT)) (h1 : k1 = min 127 (r * TT + TT)) (hk : k0 < 127) : 128 - k1 + (if db = true then 1 else 0) < 128 - k0 + (if true = true then 1 else 0) := by
  by_cases h : TT = 0
  · subst h
    simp at hd
    subst hd
    simp at h0 h1 ⊢
    omega
  · have h2 : db = true := by rw [← hd]; simp; omega
    subst h2
    generalize r * TT = m at *
    simp
    omega
section
variable {o : Oper} {f : Operand → Value}
theorem ex_mul (x y : Operand) {a b m : Int} (ho : o.op = .binOp .mul 3 x y 3) (hx : f x = .int .i64 a) (hy : f y = .int .i64 b) (hm : IntKind.i64.wrap (a * b) = m) (w : World) : (execOp f o).run Tryz.prog w = .ok (.value (.int .i64 m)) w := by
  unfold execOp
  simp [ho, hx, hy, go_sem, hm]
theorem ex_add (x y : Operand) {a b m : Int} (ho : o.op = .binOp .add 3 x y 3) (hx : f x = .int .i64 a) (hy : f y = .int .i64 b) (hm : IntKind.i64.wrap (a + b) = m) (w : World) : (execOp f o).run Tryz.prog w = .ok (.value (.int .i64 m)) w := by
  unfold execOp
  simp [ho, hx, hy, go_sem, hm]
theorem ex_rem (x : Operand) {a m : Int} (ho : o.op = .binOp .rem 3 x (.const (.int .i64 127)) 3) (hx : f x = .int .i64 a) (hk : f (.const (.int .i64 127)) = .int .i64 127) (hm : a.tmod 127 = m) (w : World) : (execOp f o).run Tryz.prog w = .ok (.value (.int .i64 m)) w := by
  unfold execOp
  simp [ho, hx, hk, go_sem, hm]
end
attribute [local irreducible] PA ia cAt cBy atP byP wtP S3 sumW
set_option maxRecDepth 100000 in
set_option maxHeartbeats 4000000 in
theorem rmake7_any (p : Pl) (hp : Pw p) (w : World) : Calls Tryz.prog 73 #[plV p] w fun x w' => ∃ B : Nat, x = .returned (.slice (some ⟨B, 0, none⟩) 127 127) ∧ w.heap.size ≤ B ∧ IA w' B 127 (whlW p) ∧ Below w.heap.size w w' := by
  have hz : ∀ w : World, (zeroValue 155).run Tryz.prog w = .ok (.agg (ia 64 fun _ => 0)) w := fun w => zero60 w
  have hz1 := ia_size 64 (fun _ => 0)
  have hz2 := ia_ne (n := 64) (fun _ => 0) (by omega)
  have HPW := hid hp
  clear hp
  unfold plV
  go_enter Tryz.func73, Tryz.ntmps73
  go_upto_region 1 with (fail)
  have P0 := hid (PoolAt.made (w := w) (p := p) (T := 33) rfl)
  have B0 := hid ((Below.refl w.heap.size w).alloc (Nat.le_refl _) (.cells (PA p) 33))
  generalize w.alloc (.cells (PA p) 33) = w0 at *
  obtain ⟨P, hP⟩ : ∃ P, P = w.heap.size := ⟨_, rfl⟩
  rw [← hP] at P0
  rw [show (Value.pointer (some ⟨w.heap.size, 0, none⟩)) = Value.pointer (some ⟨P, 0, none⟩) from by rw [hP]]
  have HP := hid hP
  clear hP
  go_upto_region 2 with (at_make; refine wp_make_i rfl _ _ rfl 127 127 127 rfl rfl rfl rfl (by omega) (by omega) ?_; intro w1 hI1 hb1; have I1 := hid hI1; have P1 := hid (P0.out.below hb1); have B1 := hid (B0.out.trans (hb1.mono B0.out.size)); have dBP : w0.heap.size ≠ P := Nat.ne_of_gt P0.out.1; have lB := B0.out.size; clear hI1 hb1 P0 B0)
  generalize w0.heap.size = B at *
  go_wp2_with fail
  go_loopw [4] (fun i wr => ∃ k : Nat, k ≤ 127 ∧ i = .int .i64 (k : Int) ∧ IA wr B 127 (fun j => if j < k then -1 else 0) ∧ PoolAt wr P p ∧ Below w.heap.size w wr) (fun i _ => 127 - (intOf i).toNat)
  case atStart => exact ⟨0, by omega, rfl, I1.out.as_ (fun j _ => by rw [if_neg (by omega)]), P1.out, B1.out⟩
  case round =>
    clear I1 P1 B1
    obtain ⟨k, hk, rfl, hI, hP, hB⟩ := hrel
    have I2 := hid hI
    have P2 := hid hP
    have B2 := hid hB
    clear hI hP hB
    by_cases hlt : k < 127
    · have i0 : (0 : Int) ≤ k := by omega
      have i1 : (k : Int) < 127 := by omega
      have cb : wr.cell? ⟨B, k, none⟩ = some (.int .i64 0) := by have h := I2.out.2.1 k hlt; simp only [Nat.lt_irrefl, if_false] at h; exact h
      have zb := I2.out.2.2 k
      have I3 := hid ((I2.out.set k hlt (-1)).as_ (g := fun j => if j < k + 1 then -1 else 0) (fun j hj => by by_cases e : j = k; (subst e; rw [putW_same, if_pos (by omega)]); (rw [putW_ne _ _ e]; by_cases e2 : j < k; (rw [if_pos e2, if_pos (by omega)]); (rw [if_neg e2, if_neg (by omega)]))))
      have P3 := hid (P2.out.other (c := B) (j := k) (v := .int .i64 (-1)) dBP)
      have B3 := hid (B2.out.setCell (p := ⟨B, k, none⟩) lB (.int .i64 (-1)))
      clear I2 P2 B2
      go_wp2_with fail
      go_roundw
      case rel => exact ⟨k + 1, by omega, by go_num, I3.out, P3.out, B3.out⟩
      case measure => simp [intOf]; omega
    · have e : k = 127 := by omega
      subst e
      have I4 := hid (I2.out.as_ (g := fun _ => -1) (fun j hj => by rw [if_pos hj]))
      clear I2
      go_upto_region 7 with (fail)
      have N6 := hid (IA.made (w := wr) (n := 64) (f := fun _ => 0) (T := 155) (d := wr.heap.size) rfl)
      have dNB : wr.heap.size ≠ B := Nat.ne_of_gt I4.out.1
      have dNP : wr.heap.size ≠ P := Nat.ne_of_gt P2.out.1
      have lN := B2.out.size
      have I6 := hid (I4.out.alloc (.cells (ia 64 fun _ => 0) 155))
      have P6 := hid (P2.out.alloc (.cells (ia 64 fun _ => 0) 155))
      have B6 := hid (B2.out.alloc B2.out.size (.cells (ia 64 fun _ => 0) 155))
      clear I4 P2 B2
      generalize wr.alloc (.cells (ia 64 fun _ => 0) 155) = w4 at *
      generalize wr.heap.size = Nb at *
      have dBN := Ne.symm dNB
      obtain ⟨TT, hTT⟩ : ∃ TT, TT = offW (wtP p) 64 := ⟨_, rfl⟩
      have HTT := hid hTT
      clear hTT
      go_wp2_with fail
      go_loopg [6, 7] 129 (fun gh l ag wr => ∃ (r k : Nat) (a : Bool) (nx : Nat → Int), gh = 128 - k + (if a then 1 else 0) ∧ k = min 127 (r * TT) ∧ (a = true ∨ TT = 0) ∧ l = .int .i64 (127 - (k : Int)) ∧ ag = .bool a ∧ IA wr B 127 (wkW (wtP p) (atP p) (byP p) k) ∧ IA wr Nb 64 nx ∧ NO p (wkW (wtP p) (atP p) (byP p) k) nx ∧ PoolAt wr P p ∧ Below w.heap.size w wr)
      case atStart => exact ⟨0, 0, true, fun _ => 0, rfl, by omega, .inl rfl, rfl, rfl, I6.out, N6.out, NO.start, P6.out, B6.out⟩
      case round =>
        clear I6 N6 P6 B6
        obtain ⟨r, k0, a, nx, rfl, hk, ha, rfl, rfl, hI, hN, hno, hP, hB⟩ := hrel
        have I9 := hid hI
        have N9 := hid hN
        have NO9 := hid hno
        have P9 := hid hP
        have B9 := hid hB
        clear hI hN hno hP hB
        have K0 := hid hk
        have HA := hid ha
        clear hk ha
        cases a
        · have hT0 := hid (show TT = 0 from by rcases HA.out with h | h; (exact absurd h (by decide)); exact h)
          have hk0 := hid (show k0 = 0 from by have := K0.out; rw [hT0.out] at this; omega)
          go_wp2_with fail
          go_ret
          exact ⟨B, rfl, lB, by unfold whlW; rw [if_pos (by rw [← HTT.out]; exact hT0.out)]; have h := I9.out; rw [hk0.out] at h; exact h, B9.out⟩
        · by_cases h127 : k0 = 127
          · have b0 : ¬ ((127 : Int) - (k0 : Int) > 0) := by omega
            have hTp := hid (show ¬ offW (wtP p) 64 = 0 from by have := K0.out; rw [← HTT.out]; intro h; rw [h] at this; omega)
            go_wp2_with fail
            go_ret
            exact ⟨B, rfl, lB, by unfold whlW; rw [if_neg hTp.out]; have h := I9.out; rw [h127] at h; exact h, B9.out⟩
          · have hk7 : k0 < 127 := by have := K0.out; omega
            have b0 : ((127 : Int) - (k0 : Int)) > 0 := by omega
            have st0 := hid (show IA wr B 127 (wkW (wtP p) (atP p) (byP p) k0) ∧ IA wr Nb 64 nx ∧ NO p (wkW (wtP p) (atP p) (byP p) k0) nx ∧ PoolAt wr P p ∧ Below w.heap.size w wr from ⟨I9.out, N9.out, NO9.out, P9.out, B9.out⟩)
            clear I9 N9 NO9 P9 B9
            go_wp2_with fail
            go_loopg [6, 7, 8] 64 (fun gh l ag i wr => ∃ (i' k : Nat) (nx : Nat → Int), gh = 64 - i' ∧ i' ≤ 64 ∧ k = min 127 (r * TT + offW (wtP p) i') ∧ l = .int .i64 (127 - (k : Int)) ∧ ag = .bool (decide (0 < offW (wtP p) i')) ∧ i = .int .i64 (i' : Int) ∧ IA wr B 127 (wkW (wtP p) (atP p) (byP p) k) ∧ IA wr Nb 64 nx ∧ NO p (wkW (wtP p) (atP p) (byP p) k) nx ∧ PoolAt wr P p ∧ Below w.heap.size w wr)
            case atStart => exact ⟨0, k0, nx, rfl, by omega, by rw [K0.out]; rfl, rfl, rfl, rfl, st0.out⟩
            case round =>
              clear st0
              obtain ⟨i, k1, nx1, rfl, hi, hk1, rfl, rfl, rfl, hI, hN, hno, hP, hB⟩ := hrel
              have I9 := hid hI
              have N9 := hid hN
              have NO9 := hid hno
              have P9 := hid hP
              have B9 := hid hB
              clear hI hN hno hP hB
              have K1 := hid hk1
              clear hk1
              by_cases hlt : i < 64
              · have i0 : (0 : Int) ≤ i := by omega
                have i1 : (i : Int) < 64 := by omega
                have HOF := hid (show offW (wtP p) (i + 1) = offW (wtP p) i + wtP p i from rfl)
                have cs : wr.cell? ⟨P, 3 + i * 5, none⟩ = some (.int .i64 (p.s i).st) := P9.out.cs i 0 hlt (by omega)
                generalize hdb : decide (0 < offW (wtP p) i) = db at *
                have HDB := hid hdb
                clear hdb
                cases b2 : ((p.s i).st != 2)
                · have hst : (p.s i).st = 2 := by simpa using b2
                  have hws := wt_st HPW.out hlt hst
                  obtain ⟨hwe, hw1⟩ := hws
                  have hp := HPW.out i hlt
                  obtain ⟨⟨a1, a2⟩, ⟨p1, p2⟩, _⟩ := hp
                  have w8 := wt_le HPW.out i hlt
                  have HDT := hid (show decide (0 < offW (wtP p) (i + 1)) = true from by rw [HOF.out]; simp; omega)
                  have LK := P9.out.loadK i hlt
                  have OR := hid (fun w => order_any 2 (p.s i).ad (p.s i).po (p.s i).we (p.s i).si ⟨by omega, by omega⟩ ⟨by omega, by omega⟩ w)
                  unfold spV at LK
                  have HAT := hid (at_int p i)
                  have HBY := hid (by_int p i)
                  rw [HAT.out, HBY.out] at OR
                  have cw : ∀ w', PoolAt w' P p → w'.cell? ⟨P, 3 + i * 5 + 3, none⟩ = some (.int .i64 ((wtP p i : Nat) : Int)) := fun w' h => by rw [hwe]; exact h.cs i 3 hlt (by omega)
                  have CW := hid cw
                  clear cw hwe
                  obtain ⟨wn, hwn⟩ : ∃ wn, wn = wtP p i := ⟨_, rfl⟩
                  rw [← hwn] at HOF w8 CW hw1
                  have HWN := hid hwn
                  clear hwn
                  skip
                  go_wp2_with ((with_reducible refine wl_id ?_); refine wl_load rfl rfl rfl LK ?_)
                  refine (OR.out _).mono ?_
                  rintro x w5 ⟨rfl, hb⟩
                  clear LK OR cs b2 hst
                  have st1 := hid (show IA w5 B 127 (wkW (wtP p) (atP p) (byP p) k1) ∧ IA w5 Nb 64 nx1 ∧ NO p (wkW (wtP p) (atP p) (byP p) k1) nx1 ∧ PoolAt w5 P p ∧ Below w.heap.size w w5 from ⟨I9.out.below hb, N9.out.below hb, NO9.out, P9.out.below hb, B9.out.trans (hb.mono B9.out.size)⟩)
                  clear hb I9 N9 NO9 P9 B9
                  have hb126 := (by_bd p i).2
                  have hb1 := (by_bd p i).1
                  have ha127 := at_bd p i
                  go_wp2_with fail
                  go_loopg [6, 11] (wn + 1) (fun gh l n wr => ∃ (n' k : Nat) (nx : Nat → Int), gh = wn + 1 - n' ∧ n' ≤ wn ∧ k = min 127 (r * TT + offW (wtP p) i + n') ∧ l = .int .i64 (127 - (k : Int)) ∧ n = .int .i64 (n' : Int) ∧ IA wr B 127 (wkW (wtP p) (atP p) (byP p) k) ∧ IA wr Nb 64 nx ∧ NO p (wkW (wtP p) (atP p) (byP p) k) nx ∧ PoolAt wr P p ∧ Below w.heap.size w wr)
                  case atStart => exact ⟨0, k1, nx1, rfl, by omega, by rw [K1.out]; rfl, rfl, rfl, st1.out⟩
                  case round =>
                    clear st1
                    obtain ⟨n, k, nx, rfl, hn, hk, rfl, rfl, hI, hN, hno, hP, hB⟩ := hrel
                    have I9 := hid hI
                    have N9 := hid hN
                    have NO9 := hid hno
                    have P9 := hid hP
                    have B9 := hid hB
                    clear hI hN hno hP hB
                    have K2 := hid hk
                    clear hk
                    have n0 : (0 : Int) ≤ n := by omega
                    have hk127 : k ≤ 127 := by have := K2.out; omega
                    have cw := CW.out wr P9.out
                    by_cases hgo : n < wn ∧ k < 127
                    · obtain ⟨hnw, hkk⟩ := hgo
                      have n1 : (n : Int) < wn := by omega
                      have b0 : (127 : Int) - (k : Int) > 0 := by omega
                      have hT : 0 < offW (wtP p) 64 := by have := off_mono (wtP p) (show i + 1 ≤ 64 by omega); have := HOF.out; omega
                      obtain ⟨F1, F2, F3, F4⟩ := turn_one (p := p) (i := i) (n := n) (r := r) (k := k) hlt (by rw [← HWN.out]; exact hnw) (by rw [← HTT.out]; exact K2.out) hkk
                      obtain ⟨kc, c0, c1, c3⟩ := NO9.out i hlt
                      obtain ⟨F, hF⟩ : ∃ F, F = ffW (wkW (wtP p) (atP p) (byP p) k) (atP p i) (byP p i) := ⟨_, rfl⟩
                      rw [← hF] at F1 F2 F3 F4
                      clear hF
                      have hge : kc ≤ F := by
                        rcases Nat.lt_or_ge F kc with h | h
                        · exact absurd F2 (c3 F h)
                        · exact h
                      have HF4 := hid F4
                      have HNO := hid (NO9.out.turn (i := i) F1 F3)
                      have HF2 := hid F2
                      have HF3 := hid (fun t (ht : t < F) => wk_ge hT k _ (F3 t ht))
                      clear F2 F3 F4 c3
                      have N10 := hid (show IA wr Nb 64 (putW nx i (kc : Nat)) from N9.out.as_ (fun j _ => by by_cases e : j = i; (subst e; rw [putW_same, c1]); (rw [putW_ne _ _ e])))
                      clear c1 NO9
                      obtain ⟨fk, hfk⟩ : ∃ fk, fk = (wkW (wtP p) (atP p) (byP p) k) := ⟨_, rfl⟩
                      rw [← hfk] at HF4 HNO HF2 HF3 I9
                      have HFK := hid hfk
                      clear hfk
                      generalize atP p i = av at *
                      generalize byP p i = bv at *
                      go_upto_block 8 with (fail)
                      clear cw
                      go_cut [] from 43 to 85 (fun wx => IA wx Nb 64 (putW nx i (F : Nat)) ∧ IA wx B 127 fk ∧ PoolAt wx P p ∧ Below w.heap.size w wx)
                      case first =>
                        go_wp2_with fail
                        go_loopg [] (F - kc) (fun gh wr => ∃ t, kc ≤ t ∧ gh = F - t ∧ t ≤ F ∧ IA wr Nb 64 (putW nx i (t : Nat)) ∧ IA wr B 127 fk ∧ PoolAt wr P p ∧ Below w.heap.size w wr)
                        case atStart => exact ⟨kc, Nat.le_refl _, rfl, hge, N10.out, I9.out, P9.out, B9.out⟩
                        case round =>
                          clear N10 I9 P9 B9 N9
                          obtain ⟨t, ht, rfl, htF, hN, hI, hP, hB⟩ := hrel
                          have N11 := hid hN
                          have I11 := hid hI
                          have P11 := hid hP
                          have B11 := hid hB
                          clear hN hI hP hB
                          have c0 := N11.out.2.1 i hlt
                          rw [putW_same] at c0
                          have z0 := N11.out.2.2 i
                          obtain ⟨q, hqp⟩ : ∃ q : Nat, q = posW av bv t := ⟨_, rfl⟩
                          have hql : q < 127 := by rw [hqp]; exact pos_lt av bv t
                          have hpi := pos_int av bv t
                          rw [← hqp] at hpi
                          have hmb := (mul_bd (t := t) (b := bv) (by omega) hb126)
                          obtain ⟨m, hm⟩ : ∃ m : Int, m = (t : Int) * (bv : Int) := ⟨_, rfl⟩
                          rw [← hm] at hpi hmb
                          have hw1 : IntKind.i64.wrap ((t : Int) * (bv : Int)) = m := by rw [← hm]; exact IntWalk.i64_in _ (by omega)
                          clear hm
                          obtain ⟨z, hz⟩ : ∃ z : Int, z = (av : Int) + m := ⟨_, rfl⟩
                          rw [← hz] at hpi
                          have hw2 : IntKind.i64.wrap ((av : Int) + m) = z := by rw [← hz]; exact IntWalk.i64_in _ (by omega)
                          clear hz hmb
                          have hq : z.tmod 127 = (q : Int) := hpi
                          clear hpi
                          have q0 : (0 : Int) ≤ (q : Int) := by omega
                          have q1 : (q : Int) < 127 := by omega
                          by_cases hlt2 : t < F
                          · have h3 := HF3.out t hlt2
                            rw [← hqp] at h3
                            have cb := I11.out.2.1 q hql
                            clear hqp
                            obtain ⟨y, hy⟩ : ∃ y, y = fk q := ⟨_, rfl⟩
                            rw [← hy] at h3 cb
                            clear hy
                            have t7 : (t : Int) ≤ 126 := by omega
                            have t0 : (0 : Int) ≤ t := by omega
                            have N12 := hid ((N11.out.set i hlt ((t : Int) + 1)).as_ (g := putW nx i ((t + 1 : Nat) : Int)) (fun j _ => by rw [putW_put]; rfl))
                            have I12 := hid (I11.out.other (c := Nb) (j := i) (v := .int .i64 ((t : Int) + 1)) dNB)
                            have P12 := hid (P11.out.other (c := Nb) (j := i) (v := .int .i64 ((t : Int) + 1)) dNP)
                            have B12 := hid (B11.out.setCell (p := ⟨Nb, i, none⟩) lN (.int .i64 ((t : Int) + 1)))
                            clear N11 I11 P11 B11
                            go_wp2_with fail
                            go_roundg (F - (t + 1))
                            case measure => omega
                            case rel => exact ⟨t + 1, by omega, rfl, hlt2, N12.out, I12.out, P12.out, B12.out⟩
                          · have e : t = F := by omega
                            subst e
                            have hf2 := HF2.out
                            rw [← hqp] at hf2
                            have cb := I11.out.2.1 q hql
                            rw [hf2] at cb
                            clear hqp hf2
                            go_wp2_with fail
                            go_meet
                            exact ⟨N11.out, I11.out, P11.out, B11.out⟩
                      case rest =>
                        obtain ⟨hN, hI, hP, hB⟩ := hcut
                        have N11 := hid hN
                        have I11 := hid hI
                        have P11 := hid hP
                        have B11 := hid hB
                        clear hN hI hP hB N10 I9 P9 B9 N9
                        obtain ⟨t, rfl⟩ : ∃ t, t = F := ⟨_, rfl⟩
                        have c0 := N11.out.2.1 i hlt
                        rw [putW_same] at c0
                        have z0 := N11.out.2.2 i
                        obtain ⟨q, hqp⟩ : ∃ q : Nat, q = posW av bv t := ⟨_, rfl⟩
                        have hql : q < 127 := by rw [hqp]; exact pos_lt av bv t
                        have hpi := pos_int av bv t
                        rw [← hqp] at hpi
                        have hmb := (mul_bd (t := t) (b := bv) (by omega) hb126)
                        obtain ⟨m, hm⟩ : ∃ m : Int, m = (t : Int) * (bv : Int) := ⟨_, rfl⟩
                        rw [← hm] at hpi hmb
                        have hw1 : IntKind.i64.wrap ((t : Int) * (bv : Int)) = m := by rw [← hm]; exact IntWalk.i64_in _ (by omega)
                        clear hm
                        obtain ⟨z, hz⟩ : ∃ z : Int, z = (av : Int) + m := ⟨_, rfl⟩
                        rw [← hz] at hpi
                        have hw2 : IntKind.i64.wrap ((av : Int) + m) = z := by rw [← hz]; exact IntWalk.i64_in _ (by omega)
                        clear hz hmb
                        have hq : z.tmod 127 = (q : Int) := hpi
                        clear hpi
                        have q0 : (0 : Int) ≤ (q : Int) := by omega
                        have q1 : (q : Int) < 127 := by omega
                        have hf2 := HF2.out
                        rw [← hqp] at hf2
                        have hf4 := HF4.out
                        rw [← hqp] at hf4 HNO
                        have cb := I11.out.2.1 q hql
                        rw [hf2] at cb
                        have zb := I11.out.2.2 q
                        have I12 := hid (I11.out.set q hql i)
                        rw [← hf4] at I12 HNO
                        clear hqp hf2 hf4 HF4 HF2
                        have N12 := hid (N11.out.other (c := B) (j := q) (v := .int .i64 (i : Int)) dBN)
                        have P12 := hid (P11.out.other (c := B) (j := q) (v := .int .i64 (i : Int)) dBP)
                        have B12 := hid (B11.out.setCell (p := ⟨B, q, none⟩) lB (.int .i64 (i : Int)))
                        clear N11 I11 P11 B11
                        go_wp2_with fail
                        go_roundg (wn + 1 - (n + 1))
                        case measure => omega
                        case rel => exact ⟨n + 1, k + 1, _, rfl, hnw, by have := K2.out; omega, by go_num, by go_num, I12.out, N12.out, HNO.out, P12.out, B12.out⟩
                    · have K3 := hid (show k = min 127 (r * TT + offW (wtP p) (i + 1)) from by rw [HOF.out]; have := K2.out; omega)
                      by_cases hnw : n < wn
                      · have n1 : (n : Int) < wn := by omega
                        have b0 : ¬ ((127 : Int) - (k : Int) > 0) := by omega
                        go_wp2_with fail
                        go_roundg (64 - (i + 1))
                        case measure => omega
                        case rel => exact ⟨i + 1, k, nx, rfl, by omega, K3.out, rfl, by rw [HDT.out], by go_num, I9.out, N9.out, NO9.out, P9.out, B9.out⟩
                      · have n1 : ¬ (n : Int) < wn := by omega
                        go_wp2_with fail
                        go_roundg (64 - (i + 1))
                        case measure => omega
                        case rel => exact ⟨i + 1, k, nx, rfl, by omega, K3.out, rfl, by rw [HDT.out], by go_num, I9.out, N9.out, NO9.out, P9.out, B9.out⟩
                · have hst : (p.s i).st ≠ 2 := by simpa using b2
                  have hw0 := wt_no hst
                  rw [hw0] at HOF
                  have K3 := hid (show k1 = min 127 (r * TT + offW (wtP p) (i + 1)) from by rw [HOF.out]; exact K1.out)
                  have HDT := hid (show decide (0 < offW (wtP p) (i + 1)) = db from by rw [HOF.out]; exact HDB.out)
                  clear hw0 hst
                  go_wp2_with fail
                  go_roundg (64 - (i + 1))
                  case measure => omega
                  case rel => exact ⟨i + 1, k1, nx1, rfl, by omega, K3.out, rfl, by rw [HDT.out], by go_num, I9.out, N9.out, NO9.out, P9.out, B9.out⟩
              · have e : i = 64 := by omega
                subst e
                rw [← HTT.out] at K1 ⊢
                have K4 := hid (show k1 = min 127 ((r + 1) * TT) from by rw [K1.out, Nat.add_mul, Nat.one_mul])
                have k41 := K1.out
                have k40 := K0.out
                generalize hdb : decide (0 < TT) = db at *
                have HDB := hid hdb
                clear hdb
                have hda : Hid (db = true ∨ TT = 0) := hid (by rw [← HDB.out]; by_cases h : TT = 0; exact .inr h; exact .inl (by simp; omega))
                have hdm := hid (rnd_less HDB.out k40 k41 hk7)
                clear k41 k40
                go_wp2_with fail
                go_roundg (128 - k1 + (if db then 1 else 0))
                case measure => exact hdm.out
                case rel => exact ⟨r + 1, k1, db, nx1, rfl, K4.out, hda.out, rfl, rfl, I9.out, N9.out, NO9.out, P9.out, B9.out⟩
end Go.Proofs.YteefhiniamajkaaGreat
