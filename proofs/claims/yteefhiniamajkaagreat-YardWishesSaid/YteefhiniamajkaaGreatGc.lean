/- Check, Takes and the small ones. The package's Check. The reference's Check. Operations of which it is known what they yield. -/
import Derived.Test.YteefhiniamajkaaGreatGp
import Derived.BigQuiet
import Derived.Deep.RegionHeld3
import Derived.Deep.Cut
namespace Go.Proofs.YteefhiniamajkaaGreat
set_option linter.unusedVariables false
set_option linter.unusedSimpArgs false
open Go.RowKit Go.ChangeShapes Go.WideShapes Go.ChangeAt

def inR (n lo hi : Int) : Bool := decide (lo ≤ n) && decide (n ≤ hi)
theorem pwithin_any (n lo hi : Int) (w : World) : Calls Tryz.prog 82 #[.int .i64 n, .int .i64 lo, .int .i64 hi] w fun e w' => e = .returned (.bool (inR n lo hi)) ∧ w = w' := by
  unfold inR
  cases h1 : decide (lo ≤ n) <;> cases h2 : decide (n ≤ hi)
  all_goals
    go_enter Tryz.func82, Tryz.ntmps82
    go_wp2
    go_ret
    exact ⟨rfl, rfl⟩
theorem rout_any (n lo hi : Int) (w : World) : Calls Tryz.prog 41 #[.int .i64 n, .int .i64 lo, .int .i64 hi] w fun e w' => e = .returned (.bool (!(inR n lo hi))) ∧ w = w' := by
  unfold inR
  cases h1 : decide (lo ≤ n) <;> cases h2 : decide (n ≤ hi)
  all_goals
    have g1 : decide (n < lo) = !decide (lo ≤ n) := by by_cases h : lo ≤ n <;> simp [h] <;> omega
    have g2 : decide (hi < n) = !decide (n ≤ hi) := by by_cases h : n ≤ hi <;> simp [h] <;> omega
    rw [h1] at g1
    rw [h2] at g2
    go_enter Tryz.func41, Tryz.ntmps41
    go_wp2
    go_ret
    exact ⟨rfl, rfl⟩
def mayB (a p : Int) : Bool := inR a 0 4294967295 && inR p 0 65535
theorem may_any (a p : Int) (w : World) : Calls Tryz.prog 83 #[.agg #[.int .i64 a, .int .i64 p]] w fun e w' => e = .returned (.bool (mayB a p)) ∧ Below w.heap.size w w' := by
  unfold mayB
  have H1 := hid (fun w => pwithin_any a 0 4294967295 w)
  have H2 := hid (fun w => pwithin_any p 0 65535 w)
  generalize inR a 0 4294967295 = x at *
  generalize inR p 0 65535 = y at *
  cases x
  · go_enter Tryz.func83, Tryz.ntmps83
    go_wp2_with fail
    refine (H1.out _).mono ?_
    rintro x w' ⟨rfl, rfl⟩
    go_wp2_with fail
    go_ret
    exact ⟨rfl, (Below.refl _ _).alloc (Nat.le_refl _) _⟩
  · go_enter Tryz.func83, Tryz.ntmps83
    go_wp2_with fail
    refine (H1.out _).mono ?_
    rintro x w' ⟨rfl, rfl⟩
    go_wp2_with fail
    refine (H2.out _).mono ?_
    rintro x w' ⟨rfl, rfl⟩
    go_wp2_with fail
    go_ret
    exact ⟨by cases y <;> rfl, (Below.refl _ _).alloc (Nat.le_refl _) _⟩
def takesB (s : Int) : Bool := s == 1 || s == 2 || s == 3
def its (e : En) : En := if e.k = 1 then ⟨e.k, e.s, e.a, e.p, e.w, zKy⟩ else if e.k = 6 then ⟨e.k, 0, 0, 0, 0, e.y⟩ else ⟨e.k, e.s, 0, 0, 0, zKy⟩
theorem its_any (e : En) (w : World) : Calls Tryz.prog 84 #[enV e] w fun x w' => x = .returned (enV (its e)) ∧ Below w.heap.size w w' := by
  obtain ⟨k, s, a, p, m, y1, y2⟩ := e
  unfold its enV zKy
  simp only
  cases h1 : (k == 1)
  · have e1 : ¬ k = 1 := by simpa using h1
    rw [if_neg e1]
    cases h6 : (k == 6)
    · have e6 : ¬ k = 6 := by simpa using h6
      rw [if_neg e6]
      clear e1 e6
      go_enter Tryz.func84, Tryz.ntmps84
      go_wp2_with fail
      refine bodyPost_ret (by simp [results, Tryz.results84, go_sem]) rfl ⟨rfl, ?_⟩
      repeat' (first | with_reducible exact Below.refl _ _ | with_reducible refine Below.drew ?_ | with_reducible refine Below.alloc ?_ ?_ _ | with_reducible refine Below.setCell ?_ ?_ _ | (simp; done) | (simp; omega))
    · have e6 : k = 6 := by simpa using h6
      rw [if_pos e6]
      clear e1 e6
      go_enter Tryz.func84, Tryz.ntmps84
      go_wp2_with fail
      refine bodyPost_ret (by simp [results, Tryz.results84, go_sem]) rfl ⟨rfl, ?_⟩
      repeat' (first | with_reducible exact Below.refl _ _ | with_reducible refine Below.drew ?_ | with_reducible refine Below.alloc ?_ ?_ _ | with_reducible refine Below.setCell ?_ ?_ _ | (simp; done) | (simp; omega))
  · have e1 : k = 1 := by simpa using h1
    rw [if_pos e1]
    clear e1
    go_enter Tryz.func84, Tryz.ntmps84
    go_wp2_with fail
    refine bodyPost_ret (by simp [results, Tryz.results84, go_sem]) rfl ⟨rfl, ?_⟩
    repeat' (first | with_reducible exact Below.refl _ _ | with_reducible refine Below.drew ?_ | with_reducible refine Below.alloc ?_ ?_ _ | with_reducible refine Below.setCell ?_ ?_ _ | (simp; done) | (simp; omega))
def eqK (x y : Ky) : Bool := x.a == y.a && x.b == y.b
def eqE (x y : En) : Bool := x.k == y.k && (x.s == y.s && (x.a == y.a && (x.p == y.p && (x.w == y.w && eqK x.y y.y))))
set_option maxHeartbeats 2000000 in
theorem neq_en (x y : En) (w : World) : (binOp .neq 44 (enV x) (enV y)).run Tryz.prog w = .ok (.bool (!eqE x y)) w := by
  unfold enV eqE eqK
  cases h0 : (x.k == y.k)
  · simp [go_sem, h0]
  cases h1 : (x.s == y.s)
  · simp [go_sem, h0, h1]
  cases h2 : (x.a == y.a)
  · simp [go_sem, h0, h1, h2]
  cases h3 : (x.p == y.p)
  · simp [go_sem, h0, h1, h2, h3]
  cases h4 : (x.w == y.w)
  · simp [go_sem, h0, h1, h2, h3, h4]
  cases h5 : (x.y.a == y.y.a)
  · simp [go_sem, h0, h1, h2, h3, h4, h5]
  cases h6 : (x.y.b == y.y.b)
  · simp [go_sem, h0, h1, h2, h3, h4, h5, h6]
  simp [go_sem, h0, h1, h2, h3, h4, h5, h6]
theorem ex_neq {o : Oper} {f : Operand → Value} (x y : Operand) (ho : o.op = .binOp .neq 44 x y 44) (X Y : En) (hx : f x = enV X) (hy : f y = enV Y) (w : World) : (execOp f o).run Tryz.prog w = .ok (.value (.bool (!eqE X Y))) w := by
  have hg : (eqGuard .neq 44 x y (enV X) (enV Y)).run Tryz.prog w = .ok () w := run_eqGuard_agg w _ _ _ _ _ _ (by kernel_rfl)
  unfold execOp
  simp only [ho, hx, hy, Sem.run_bind, hg, Result.andThen_ok, neq_en, Sem.run_pure]
section
variable {P : Program} {ops : Array Oper} {rest : List Oper} {Q : Exit → Act → World → Prop} {o : Oper} {a : Act} {w : World} {v : Value}
/-- An operation of which it is known what it yields. -/
theorem wl_val (hw : Region.wanted o (yielded ops a.tmps) = true) (he : (execOp a.eval o).run P w = .ok (.value v) w) (h : wpList P ops Q rest (a.put o.dst v) w) : wpList P ops Q (o :: rest) a w := by
  simp only [wpList]
  rw [if_pos hw]
  left
  unfold Oper.wp
  rw [he]
  exact h
end
end Go.Proofs.YteefhiniamajkaaGreat
namespace Go.Proofs.YteefhiniamajkaaGreat
set_option linter.unusedVariables false
set_option linter.unusedSimpArgs false
open Go.RowKit Go.ChangeShapes Go.WideShapes Go.ChangeAt

/-- Why an entry may not be, whatever the pool; 0 if it may. -/
def chk (e : En) : Int :=
  if (decide (e.k < 1) || decide (6 < e.k)) = true then 2
  else if (!(inR e.s 0 63) || (e.k == 6 && e.s != 0)) = true then 11
  else if (e.k == 1 && !(mayB e.a e.p && inR e.w 1 8)) = true then 14
  else if eqE e (its e) = true then 0 else 14
theorem chk_eq (e : En) : chk e = bif (decide (e.k < 1) || decide (6 < e.k)) then 2 else bif (!(inR e.s 0 63) || (e.k == 6 && e.s != 0)) then 11 else bif (e.k == 1 && !(mayB e.a e.p && inR e.w 1 8)) then 14 else (if eqE e (its e) = true then 0 else 14) := by
  unfold chk
  cases (decide (e.k < 1) || decide (6 < e.k)) <;> cases (!(inR e.s 0 63) || (e.k == 6 && e.s != 0)) <;> cases (e.k == 1 && !(mayB e.a e.p && inR e.w 1 8)) <;> rfl
set_option maxRecDepth 100000 in
set_option maxHeartbeats 4000000 in
theorem check_any (e : En) (w : World) : Calls Tryz.prog 76 #[enV e] w fun x w' => x = .returned (.int .i64 (chk e)) ∧ Below w.heap.size w w' := by
  obtain ⟨k, s, a, p, m, y1, y2⟩ := e
  obtain ⟨R, hR⟩ : ∃ R, Value.agg R = enV (its ⟨k, s, a, p, m, ⟨y1, y2⟩⟩) := ⟨_, rfl⟩
  obtain ⟨b, hb⟩ : ∃ b, b = eqE ⟨k, s, a, p, m, ⟨y1, y2⟩⟩ (its ⟨k, s, a, p, m, ⟨y1, y2⟩⟩) := ⟨_, rfl⟩
  have IT := hid (fun w => re_v (its_any ⟨k, s, a, p, m, ⟨y1, y2⟩⟩ w) hR.symm)
  have HBQ := hid hb
  have HRQ := hid hR
  have W1 := hid (fun w => pwithin_any s 0 63 w)
  have W2 := hid (fun w => may_any a p w)
  have W3 := hid (fun w => pwithin_any m 1 8 w)
  have HC := hid (chk_eq ⟨k, s, a, p, m, ⟨y1, y2⟩⟩)
  simp only at HC
  rw [← hb] at HC
  unfold enV
  clear hR hb
  generalize inR s 0 63 = i1 at *
  generalize mayB a p = i2 at *
  generalize inR m 1 8 = i3 at *
  generalize chk ⟨k, s, a, p, m, ⟨y1, y2⟩⟩ = r at *
  cases b1 : decide (k < 1) <;> cases b2 : decide (6 < k)
  · cases i1
    · have HR : Hid (r = 11) := hid (by rw [HC.out, b1, b2]; rfl)
      go_enter Tryz.func76, Tryz.ntmps76
      go_wp2_with fail
      refine (W1.out _).mono ?_
      rintro x w' ⟨rfl, rfl⟩
      go_wp2_with fail
      go_ret
      exact ⟨by rw [HR.out]; rfl, (Below.refl _ _).alloc (Nat.le_refl _) _⟩
    · cases b6 : (k == 6)
      · cases b0 : (k == 1)
        · have HR : Hid (r = if b = true then 0 else 14) := hid (by rw [HC.out, b1, b2, b6, b0]; rfl)
          clear HC
          go_enter Tryz.func76, Tryz.ntmps76
          go_wp2_with fail
          refine (W1.out _).mono ?_
          rintro x w' ⟨rfl, rfl⟩
          have CE := Ce.made (w := w) (l := [.int .i64 k, .int .i64 s, .int .i64 a, .int .i64 p, .int .i64 m, .int .u64 y1, .int .u64 y2]) (T := 44) (g := w.heap.size) rfl
          have B := (Below.refl w.heap.size w).alloc (Nat.le_refl _) (.cells #[.int .i64 k, .int .i64 s, .int .i64 a, .int .i64 p, .int .i64 m, .int .u64 y1, .int .u64 y2] 44)
          generalize w.alloc (.cells #[.int .i64 k, .int .i64 s, .int .i64 a, .int .i64 p, .int .i64 m, .int .u64 y1, .int .u64 y2] 44) = w1 at *
          generalize hK : w.heap.size = E at *
          have c0 := CE.2.1 0 _ rfl
          have c1 := CE.2.1 1 _ rfl
          have c2 := CE.2.1 2 _ rfl
          have c3 := CE.2.1 3 _ rfl
          have c4 := CE.2.1 4 _ rfl
          have c5 := CE.2.1 5 _ rfl
          have c6 := CE.2.1 6 _ rfl
          have HK := hid hK
          clear hK
          go_upto_region 9 with (fail)
          clear c0 c1 c2 c3 c4 c5 c6
          have HCE := hid CE
          have HB := hid B
          clear CE B
          refine wp_region_held_drew (S := fun w' => Ce w' E [.int .i64 k, .int .i64 s, .int .i64 a, .int .i64 p, .int .i64 m, .int .u64 y1, .int .u64 y2] ∧ Below E w w') (by kernel_rfl) ?_ (fun hHeld => ?_)
          · exact ⟨HCE.out, HB.out.drew⟩
          refine tkq 0 (by assumption) ?_ (hy := by intro w hSw; (try dsimp only at hSw); obtain ⟨hC, hB⟩ := hSw; have x0 := hC.2.1 0 _ rfl; have x1 := hC.2.1 1 _ rfl; have x2 := hC.2.1 2 _ rfl; have x3 := hC.2.1 3 _ rfl; have x4 := hC.2.1 4 _ rfl; have x5 := hC.2.1 5 _ rfl; have x6 := hC.2.1 6 _ rfl; go_simp; (try with_reducible rfl))
          refine tkq 1 (by assumption) ?_ (hy := by intro w hSw; (try dsimp only at hSw); obtain ⟨hC, hB⟩ := hSw; have x0 := hC.2.1 0 _ rfl; have x1 := hC.2.1 1 _ rfl; have x2 := hC.2.1 2 _ rfl; have x3 := hC.2.1 3 _ rfl; have x4 := hC.2.1 4 _ rfl; have x5 := hC.2.1 5 _ rfl; have x6 := hC.2.1 6 _ rfl; go_simp; (try with_reducible rfl))
          refine only 2 rfl (by kernel_rfl) rfl (fun K hK => ?_)
          go_simp
          refine (IT.out _).mono ?_
          rintro e' w' ⟨rfl, hb⟩
          try go_wp2_with fail
          refine hK.out _ _ ⟨hHeld.1.below hb, hHeld.2.trans (hb.mono (Nat.le_of_lt hHeld.1.1))⟩ (fun hHeld2 => ?_)
          clear hK
          try simp only [Act.put, List.setIfInBounds_toArray, List.set_cons_zero, List.set_cons_succ]
          refine tk 3 (v := .bool (!b)) rfl (by kernel_rfl) (by kernel_rfl) (by kernel_rfl) (fun _ _ _ h => h) rfl (fun w _ => by rw [HBQ.out]; exact ex_neq _ _ rfl ⟨k, s, a, p, m, ⟨y1, y2⟩⟩ (its ⟨k, s, a, p, m, ⟨y1, y2⟩⟩) rfl HRQ.out w) (by assumption) ?_
          try simp only [Act.put, List.setIfInBounds_toArray, List.set_cons_zero, List.set_cons_succ]
          refine tkq 4 (by assumption) ?_
          refine wpAnyH_done (by kernel_rfl) ?_ _
          have B2 := hid hHeld2.2
          clear hHeld hHeld2 hb
          cases b
          · go_wp2_with fail
            go_ret
            exact ⟨by rw [HR.out]; rfl, by rw [HK.out]; exact B2.out⟩
          · go_wp2_with fail
            go_ret
            exact ⟨by rw [HR.out]; rfl, by rw [HK.out]; exact B2.out⟩
        · cases i2
          · have HR : Hid (r = 14) := hid (by rw [HC.out, b1, b2, b6, b0]; rfl)
            clear HC
            go_enter Tryz.func76, Tryz.ntmps76
            go_wp2_with fail
            refine (W1.out _).mono ?_
            rintro x w' ⟨rfl, rfl⟩
            have CE := Ce.made (w := w) (l := [.int .i64 k, .int .i64 s, .int .i64 a, .int .i64 p, .int .i64 m, .int .u64 y1, .int .u64 y2]) (T := 44) (g := w.heap.size) rfl
            have B := (Below.refl w.heap.size w).alloc (Nat.le_refl _) (.cells #[.int .i64 k, .int .i64 s, .int .i64 a, .int .i64 p, .int .i64 m, .int .u64 y1, .int .u64 y2] 44)
            generalize w.alloc (.cells #[.int .i64 k, .int .i64 s, .int .i64 a, .int .i64 p, .int .i64 m, .int .u64 y1, .int .u64 y2] 44) = w1 at *
            generalize hK : w.heap.size = E at *
            have c0 := CE.2.1 0 _ rfl
            have c1 := CE.2.1 1 _ rfl
            have c2 := CE.2.1 2 _ rfl
            have c3 := CE.2.1 3 _ rfl
            have c4 := CE.2.1 4 _ rfl
            have c5 := CE.2.1 5 _ rfl
            have c6 := CE.2.1 6 _ rfl
            have HK := hid hK
            clear hK
            go_wp2_with fail
            refine (W2.out _).mono ?_
            rintro x w2 ⟨rfl, hb⟩
            clear c0 c1 c2 c3 c4 c5 c6
            replace B := B.trans (hb.mono (Nat.le_of_lt CE.1))
            replace CE := CE.below hb
            clear hb
            have c0 := CE.2.1 0 _ rfl
            have c1 := CE.2.1 1 _ rfl
            have c2 := CE.2.1 2 _ rfl
            have c3 := CE.2.1 3 _ rfl
            have c4 := CE.2.1 4 _ rfl
            have c5 := CE.2.1 5 _ rfl
            have c6 := CE.2.1 6 _ rfl
            go_wp2_with fail
            go_ret
            exact ⟨by rw [HR.out]; rfl, by rw [HK.out]; exact B⟩
          · cases i3
            · have HR : Hid (r = 14) := hid (by rw [HC.out, b1, b2, b6, b0]; rfl)
              clear HC
              go_enter Tryz.func76, Tryz.ntmps76
              go_wp2_with fail
              refine (W1.out _).mono ?_
              rintro x w' ⟨rfl, rfl⟩
              have CE := Ce.made (w := w) (l := [.int .i64 k, .int .i64 s, .int .i64 a, .int .i64 p, .int .i64 m, .int .u64 y1, .int .u64 y2]) (T := 44) (g := w.heap.size) rfl
              have B := (Below.refl w.heap.size w).alloc (Nat.le_refl _) (.cells #[.int .i64 k, .int .i64 s, .int .i64 a, .int .i64 p, .int .i64 m, .int .u64 y1, .int .u64 y2] 44)
              generalize w.alloc (.cells #[.int .i64 k, .int .i64 s, .int .i64 a, .int .i64 p, .int .i64 m, .int .u64 y1, .int .u64 y2] 44) = w1 at *
              generalize hK : w.heap.size = E at *
              have c0 := CE.2.1 0 _ rfl
              have c1 := CE.2.1 1 _ rfl
              have c2 := CE.2.1 2 _ rfl
              have c3 := CE.2.1 3 _ rfl
              have c4 := CE.2.1 4 _ rfl
              have c5 := CE.2.1 5 _ rfl
              have c6 := CE.2.1 6 _ rfl
              have HK := hid hK
              clear hK
              go_wp2_with fail
              refine (W2.out _).mono ?_
              rintro x w2 ⟨rfl, hb⟩
              clear c0 c1 c2 c3 c4 c5 c6
              replace B := B.trans (hb.mono (Nat.le_of_lt CE.1))
              replace CE := CE.below hb
              clear hb
              have c0 := CE.2.1 0 _ rfl
              have c1 := CE.2.1 1 _ rfl
              have c2 := CE.2.1 2 _ rfl
              have c3 := CE.2.1 3 _ rfl
              have c4 := CE.2.1 4 _ rfl
              have c5 := CE.2.1 5 _ rfl
              have c6 := CE.2.1 6 _ rfl
              go_wp2_with fail
              refine (W3.out _).mono ?_
              rintro x w' ⟨rfl, rfl⟩
              go_wp2_with fail
              go_ret
              exact ⟨by rw [HR.out]; rfl, by rw [HK.out]; exact B⟩
            · have HR : Hid (r = if b = true then 0 else 14) := hid (by rw [HC.out, b1, b2, b6, b0]; rfl)
              clear HC
              go_enter Tryz.func76, Tryz.ntmps76
              go_wp2_with fail
              refine (W1.out _).mono ?_
              rintro x w' ⟨rfl, rfl⟩
              have CE := Ce.made (w := w) (l := [.int .i64 k, .int .i64 s, .int .i64 a, .int .i64 p, .int .i64 m, .int .u64 y1, .int .u64 y2]) (T := 44) (g := w.heap.size) rfl
              have B := (Below.refl w.heap.size w).alloc (Nat.le_refl _) (.cells #[.int .i64 k, .int .i64 s, .int .i64 a, .int .i64 p, .int .i64 m, .int .u64 y1, .int .u64 y2] 44)
              generalize w.alloc (.cells #[.int .i64 k, .int .i64 s, .int .i64 a, .int .i64 p, .int .i64 m, .int .u64 y1, .int .u64 y2] 44) = w1 at *
              generalize hK : w.heap.size = E at *
              have c0 := CE.2.1 0 _ rfl
              have c1 := CE.2.1 1 _ rfl
              have c2 := CE.2.1 2 _ rfl
              have c3 := CE.2.1 3 _ rfl
              have c4 := CE.2.1 4 _ rfl
              have c5 := CE.2.1 5 _ rfl
              have c6 := CE.2.1 6 _ rfl
              have HK := hid hK
              clear hK
              go_wp2_with fail
              refine (W2.out _).mono ?_
              rintro x w2 ⟨rfl, hb⟩
              clear c0 c1 c2 c3 c4 c5 c6
              replace B := B.trans (hb.mono (Nat.le_of_lt CE.1))
              replace CE := CE.below hb
              clear hb
              have c0 := CE.2.1 0 _ rfl
              have c1 := CE.2.1 1 _ rfl
              have c2 := CE.2.1 2 _ rfl
              have c3 := CE.2.1 3 _ rfl
              have c4 := CE.2.1 4 _ rfl
              have c5 := CE.2.1 5 _ rfl
              have c6 := CE.2.1 6 _ rfl
              go_wp2_with fail
              refine (W3.out _).mono ?_
              rintro x w' ⟨rfl, rfl⟩
              go_upto_region 9 with (fail)
              clear c0 c1 c2 c3 c4 c5 c6
              have HCE := hid CE
              have HB := hid B
              clear CE B
              refine wp_region_held_drew (S := fun w' => Ce w' E [.int .i64 k, .int .i64 s, .int .i64 a, .int .i64 p, .int .i64 m, .int .u64 y1, .int .u64 y2] ∧ Below E w w') (by kernel_rfl) ?_ (fun hHeld => ?_)
              · exact ⟨HCE.out, HB.out.drew⟩
              refine tkq 0 (by assumption) ?_ (hy := by intro w hSw; (try dsimp only at hSw); obtain ⟨hC, hB⟩ := hSw; have x0 := hC.2.1 0 _ rfl; have x1 := hC.2.1 1 _ rfl; have x2 := hC.2.1 2 _ rfl; have x3 := hC.2.1 3 _ rfl; have x4 := hC.2.1 4 _ rfl; have x5 := hC.2.1 5 _ rfl; have x6 := hC.2.1 6 _ rfl; go_simp; (try with_reducible rfl))
              refine tkq 1 (by assumption) ?_ (hy := by intro w hSw; (try dsimp only at hSw); obtain ⟨hC, hB⟩ := hSw; have x0 := hC.2.1 0 _ rfl; have x1 := hC.2.1 1 _ rfl; have x2 := hC.2.1 2 _ rfl; have x3 := hC.2.1 3 _ rfl; have x4 := hC.2.1 4 _ rfl; have x5 := hC.2.1 5 _ rfl; have x6 := hC.2.1 6 _ rfl; go_simp; (try with_reducible rfl))
              refine only 2 rfl (by kernel_rfl) rfl (fun K hK => ?_)
              go_simp
              refine (IT.out _).mono ?_
              rintro e' w' ⟨rfl, hb⟩
              try go_wp2_with fail
              refine hK.out _ _ ⟨hHeld.1.below hb, hHeld.2.trans (hb.mono (Nat.le_of_lt hHeld.1.1))⟩ (fun hHeld2 => ?_)
              clear hK
              try simp only [Act.put, List.setIfInBounds_toArray, List.set_cons_zero, List.set_cons_succ]
              refine tk 3 (v := .bool (!b)) rfl (by kernel_rfl) (by kernel_rfl) (by kernel_rfl) (fun _ _ _ h => h) rfl (fun w _ => by rw [HBQ.out]; exact ex_neq _ _ rfl ⟨k, s, a, p, m, ⟨y1, y2⟩⟩ (its ⟨k, s, a, p, m, ⟨y1, y2⟩⟩) rfl HRQ.out w) (by assumption) ?_
              try simp only [Act.put, List.setIfInBounds_toArray, List.set_cons_zero, List.set_cons_succ]
              refine tkq 4 (by assumption) ?_
              refine wpAnyH_done (by kernel_rfl) ?_ _
              have B2 := hid hHeld2.2
              clear hHeld hHeld2 hb
              cases b
              · go_wp2_with fail
                go_ret
                exact ⟨by rw [HR.out]; rfl, by rw [HK.out]; exact B2.out⟩
              · go_wp2_with fail
                go_ret
                exact ⟨by rw [HR.out]; rfl, by rw [HK.out]; exact B2.out⟩
      · have b0 : (k == 1) = false := by have := eq_of_beq b6; subst this; rfl
        cases bs : (s != 0)
        · have HR : Hid (r = if b = true then 0 else 14) := hid (by rw [HC.out, b1, b2, b6, b0, bs]; rfl)
          clear HC
          go_enter Tryz.func76, Tryz.ntmps76
          go_wp2_with fail
          refine (W1.out _).mono ?_
          rintro x w' ⟨rfl, rfl⟩
          have CE := Ce.made (w := w) (l := [.int .i64 k, .int .i64 s, .int .i64 a, .int .i64 p, .int .i64 m, .int .u64 y1, .int .u64 y2]) (T := 44) (g := w.heap.size) rfl
          have B := (Below.refl w.heap.size w).alloc (Nat.le_refl _) (.cells #[.int .i64 k, .int .i64 s, .int .i64 a, .int .i64 p, .int .i64 m, .int .u64 y1, .int .u64 y2] 44)
          generalize w.alloc (.cells #[.int .i64 k, .int .i64 s, .int .i64 a, .int .i64 p, .int .i64 m, .int .u64 y1, .int .u64 y2] 44) = w1 at *
          generalize hK : w.heap.size = E at *
          have c0 := CE.2.1 0 _ rfl
          have c1 := CE.2.1 1 _ rfl
          have c2 := CE.2.1 2 _ rfl
          have c3 := CE.2.1 3 _ rfl
          have c4 := CE.2.1 4 _ rfl
          have c5 := CE.2.1 5 _ rfl
          have c6 := CE.2.1 6 _ rfl
          have HK := hid hK
          clear hK
          go_upto_region 9 with (fail)
          clear c0 c1 c2 c3 c4 c5 c6
          have HCE := hid CE
          have HB := hid B
          clear CE B
          refine wp_region_held_drew (S := fun w' => Ce w' E [.int .i64 k, .int .i64 s, .int .i64 a, .int .i64 p, .int .i64 m, .int .u64 y1, .int .u64 y2] ∧ Below E w w') (by kernel_rfl) ?_ (fun hHeld => ?_)
          · exact ⟨HCE.out, HB.out.drew⟩
          refine tkq 0 (by assumption) ?_ (hy := by intro w hSw; (try dsimp only at hSw); obtain ⟨hC, hB⟩ := hSw; have x0 := hC.2.1 0 _ rfl; have x1 := hC.2.1 1 _ rfl; have x2 := hC.2.1 2 _ rfl; have x3 := hC.2.1 3 _ rfl; have x4 := hC.2.1 4 _ rfl; have x5 := hC.2.1 5 _ rfl; have x6 := hC.2.1 6 _ rfl; go_simp; (try with_reducible rfl))
          refine tkq 1 (by assumption) ?_ (hy := by intro w hSw; (try dsimp only at hSw); obtain ⟨hC, hB⟩ := hSw; have x0 := hC.2.1 0 _ rfl; have x1 := hC.2.1 1 _ rfl; have x2 := hC.2.1 2 _ rfl; have x3 := hC.2.1 3 _ rfl; have x4 := hC.2.1 4 _ rfl; have x5 := hC.2.1 5 _ rfl; have x6 := hC.2.1 6 _ rfl; go_simp; (try with_reducible rfl))
          refine only 2 rfl (by kernel_rfl) rfl (fun K hK => ?_)
          go_simp
          refine (IT.out _).mono ?_
          rintro e' w' ⟨rfl, hb⟩
          try go_wp2_with fail
          refine hK.out _ _ ⟨hHeld.1.below hb, hHeld.2.trans (hb.mono (Nat.le_of_lt hHeld.1.1))⟩ (fun hHeld2 => ?_)
          clear hK
          try simp only [Act.put, List.setIfInBounds_toArray, List.set_cons_zero, List.set_cons_succ]
          refine tk 3 (v := .bool (!b)) rfl (by kernel_rfl) (by kernel_rfl) (by kernel_rfl) (fun _ _ _ h => h) rfl (fun w _ => by rw [HBQ.out]; exact ex_neq _ _ rfl ⟨k, s, a, p, m, ⟨y1, y2⟩⟩ (its ⟨k, s, a, p, m, ⟨y1, y2⟩⟩) rfl HRQ.out w) (by assumption) ?_
          try simp only [Act.put, List.setIfInBounds_toArray, List.set_cons_zero, List.set_cons_succ]
          refine tkq 4 (by assumption) ?_
          refine wpAnyH_done (by kernel_rfl) ?_ _
          have B2 := hid hHeld2.2
          clear hHeld hHeld2 hb
          cases b
          · go_wp2_with fail
            go_ret
            exact ⟨by rw [HR.out]; rfl, by rw [HK.out]; exact B2.out⟩
          · go_wp2_with fail
            go_ret
            exact ⟨by rw [HR.out]; rfl, by rw [HK.out]; exact B2.out⟩
        · have HR : Hid (r = 11) := hid (by rw [HC.out, b1, b2, b6, bs]; rfl)
          clear HC
          go_enter Tryz.func76, Tryz.ntmps76
          go_wp2_with fail
          refine (W1.out _).mono ?_
          rintro x w' ⟨rfl, rfl⟩
          go_wp2_with fail
          go_ret
          exact ⟨by rw [HR.out]; rfl, (Below.refl _ _).alloc (Nat.le_refl _) _⟩
  · have HR : Hid (r = 2) := hid (by rw [HC.out, b1, b2]; rfl)
    go_enter Tryz.func76, Tryz.ntmps76
    go_wp2_with fail
    go_ret
    exact ⟨by rw [HR.out]; rfl, (Below.refl _ _).alloc (Nat.le_refl _) _⟩
  · have HR : Hid (r = 2) := hid (by rw [HC.out, b1, b2]; rfl)
    go_enter Tryz.func76, Tryz.ntmps76
    go_wp2_with fail
    go_ret
    exact ⟨by rw [HR.out]; rfl, (Below.refl _ _).alloc (Nat.le_refl _) _⟩
  · have HR : Hid (r = 2) := hid (by rw [HC.out, b1, b2]; rfl)
    go_enter Tryz.func76, Tryz.ntmps76
    go_wp2_with fail
    go_ret
    exact ⟨by rw [HR.out]; rfl, (Below.refl _ _).alloc (Nat.le_refl _) _⟩
end Go.Proofs.YteefhiniamajkaaGreat
namespace Go.Proofs.YteefhiniamajkaaGreat
set_option linter.unusedVariables false
set_option linter.unusedSimpArgs false
open Go.RowKit Go.ChangeShapes Go.WideShapes Go.ChangeAt

theorem inR_not (k : Int) : (decide (k < 1) || decide (6 < k)) = !(inR k 1 6) := by
  unfold inR
  by_cases h1 : 1 ≤ k <;> by_cases h2 : k ≤ 6 <;> simp [h1, h2] <;> omega
theorem chk_r (e : En) : chk e = bif !(inR e.k 1 6) then 2 else bif !(inR e.s 0 63) || (e.k == 6 && e.s != 0) then 11 else
    bif e.k == 1 && !(inR e.a 0 4294967295 && inR e.p 0 65535 && inR e.w 1 8) then 14 else
    bif (!(e.k == 1) && (e.a != 0 || e.p != 0 || e.w != 0)) || (!(e.k == 6) && !(e.y.a == 0 && e.y.b == 0)) then 14 else 0 := by
  obtain ⟨k, s, a, p, m, y1, y2⟩ := e
  rw [chk_eq]
  simp only [inR_not, mayB]
  cases i0 : inR k 1 6
  · rfl
  cases i1 : (!(inR s 0 63) || (k == 6 && s != 0))
  · simp only [cond_false, cond_true, Bool.not_true]
    cases i2 : (k == 1 && !(inR a 0 4294967295 && inR p 0 65535 && inR m 1 8))
    · simp only [cond_false]
      unfold its eqE eqK zKy
      simp only
      by_cases b1 : k = 1
      · subst b1
        simp
        by_cases h1 : y1 = 0 <;> by_cases h2 : y2 = 0 <;> simp [h1, h2]
      · rw [if_neg b1]
        by_cases b6 : k = 6
        · subst b6
          have hs : s = 0 := by simp at i1; exact i1.2
          subst hs
          simp [bne]
          by_cases ha : a = 0 <;> by_cases hp : p = 0 <;> by_cases hm : m = 0 <;> simp [ha, hp, hm]
        · rw [if_neg b6]
          simp [b1, b6, bne]
          by_cases ha : a = 0 <;> by_cases hp : p = 0 <;> by_cases hm : m = 0 <;> by_cases h1 : y1 = 0 <;> by_cases h2 : y2 = 0 <;> simp [ha, hp, hm, h1, h2]
    · rfl
  · rfl
set_option maxRecDepth 100000 in
set_option maxHeartbeats 4000000 in
theorem rcheck_any (e : En) (w : World) : Calls Tryz.prog 51 #[enV e] w fun x w' => x = .returned (.int .i64 (chk e)) ∧ Below w.heap.size w w' := by
  obtain ⟨k, s, a, p, m, y1, y2⟩ := e
  have HC := hid (chk_r ⟨k, s, a, p, m, ⟨y1, y2⟩⟩)
  simp only at HC
  unfold enV
  generalize chk ⟨k, s, a, p, m, ⟨y1, y2⟩⟩ = r at *
  simp only
  cases i0 : inR k 1 6
  · have HR : Hid (r = 2) := hid (by rw [HC.out]; simp only [i0]; rfl)
    clear HC
    go_enter Tryz.func51, Tryz.ntmps51
    go_wp2_with fail
    go_quiet (fail)
    go_wp2_with (go_at_call 41; refine (rout_any _ _ _ _).mono ?_; rintro x w' ⟨rfl, rfl⟩)
    go_ret
    exact ⟨by rw [HR.out]; rfl, below_drewN ((Below.refl _ _).alloc (Nat.le_refl _) _) _⟩
  · cases i1 : inR s 0 63
    · have HR : Hid (r = 11) := hid (by rw [HC.out]; simp only [i0, i1]; rfl)
      clear HC
      go_enter Tryz.func51, Tryz.ntmps51
      go_wp2_with fail
      go_quiet (fail)
      go_wp2_with (go_at_call 41; refine (rout_any _ _ _ _).mono ?_; rintro x w' ⟨rfl, rfl⟩)
      go_ret
      exact ⟨by rw [HR.out]; rfl, below_drewN ((Below.refl _ _).alloc (Nat.le_refl _) _) _⟩
    · cases b1 : (k == 1)
      · cases b6 : (k == 6)
        · cases a0 : (a != 0)
          · cases p0 : (p != 0)
            · cases m0 : (m != 0)
              · cases c1 : (y1 == 0)
                · have HR : Hid (r = 14) := hid (by rw [HC.out]; simp only [i0, i1, b1, b6, a0, p0, m0, c1]; rfl)
                  clear HC
                  go_enter Tryz.func51, Tryz.ntmps51
                  go_wp2_with fail
                  go_quiet (fail)
                  go_wp2_with (go_at_call 41; refine (rout_any _ _ _ _).mono ?_; rintro x w' ⟨rfl, rfl⟩)
                  go_ret
                  exact ⟨by rw [HR.out]; rfl, below_drewN ((Below.refl _ _).alloc (Nat.le_refl _) _) _⟩
                · cases c2 : (y2 == 0)
                  · have HR : Hid (r = 14) := hid (by rw [HC.out]; simp only [i0, i1, b1, b6, a0, p0, m0, c1, c2]; rfl)
                    clear HC
                    go_enter Tryz.func51, Tryz.ntmps51
                    go_wp2_with fail
                    go_quiet (fail)
                    go_wp2_with (go_at_call 41; refine (rout_any _ _ _ _).mono ?_; rintro x w' ⟨rfl, rfl⟩)
                    go_ret
                    exact ⟨by rw [HR.out]; rfl, below_drewN ((Below.refl _ _).alloc (Nat.le_refl _) _) _⟩
                  · have HR : Hid (r = 0) := hid (by rw [HC.out]; simp only [i0, i1, b1, b6, a0, p0, m0, c1, c2]; rfl)
                    clear HC
                    go_enter Tryz.func51, Tryz.ntmps51
                    go_wp2_with fail
                    go_quiet (fail)
                    go_wp2_with (go_at_call 41; refine (rout_any _ _ _ _).mono ?_; rintro x w' ⟨rfl, rfl⟩)
                    go_ret
                    exact ⟨by rw [HR.out]; rfl, below_drewN ((Below.refl _ _).alloc (Nat.le_refl _) _) _⟩
              · have HR : Hid (r = 14) := hid (by rw [HC.out]; simp only [i0, i1, b1, b6, a0, p0, m0]; rfl)
                clear HC
                go_enter Tryz.func51, Tryz.ntmps51
                go_wp2_with fail
                go_quiet (fail)
                go_wp2_with (go_at_call 41; refine (rout_any _ _ _ _).mono ?_; rintro x w' ⟨rfl, rfl⟩)
                go_ret
                exact ⟨by rw [HR.out]; rfl, below_drewN ((Below.refl _ _).alloc (Nat.le_refl _) _) _⟩
            · have HR : Hid (r = 14) := hid (by rw [HC.out]; simp only [i0, i1, b1, b6, a0, p0]; rfl)
              clear HC
              go_enter Tryz.func51, Tryz.ntmps51
              go_wp2_with fail
              go_quiet (fail)
              go_wp2_with (go_at_call 41; refine (rout_any _ _ _ _).mono ?_; rintro x w' ⟨rfl, rfl⟩)
              go_ret
              exact ⟨by rw [HR.out]; rfl, below_drewN ((Below.refl _ _).alloc (Nat.le_refl _) _) _⟩
          · have HR : Hid (r = 14) := hid (by rw [HC.out]; simp only [i0, i1, b1, b6, a0]; rfl)
            clear HC
            go_enter Tryz.func51, Tryz.ntmps51
            go_wp2_with fail
            go_quiet (fail)
            go_wp2_with (go_at_call 41; refine (rout_any _ _ _ _).mono ?_; rintro x w' ⟨rfl, rfl⟩)
            go_ret
            exact ⟨by rw [HR.out]; rfl, below_drewN ((Below.refl _ _).alloc (Nat.le_refl _) _) _⟩
        · cases s0 : (s != 0)
          · cases a0 : (a != 0)
            · cases p0 : (p != 0)
              · cases m0 : (m != 0)
                · have HR : Hid (r = 0) := hid (by rw [HC.out]; simp only [i0, i1, b1, b6, s0, a0, p0, m0]; rfl)
                  clear HC
                  go_enter Tryz.func51, Tryz.ntmps51
                  go_wp2_with fail
                  go_quiet (fail)
                  go_wp2_with (go_at_call 41; refine (rout_any _ _ _ _).mono ?_; rintro x w' ⟨rfl, rfl⟩)
                  go_ret
                  exact ⟨by rw [HR.out]; rfl, below_drewN ((Below.refl _ _).alloc (Nat.le_refl _) _) _⟩
                · have HR : Hid (r = 14) := hid (by rw [HC.out]; simp only [i0, i1, b1, b6, s0, a0, p0, m0]; rfl)
                  clear HC
                  go_enter Tryz.func51, Tryz.ntmps51
                  go_wp2_with fail
                  go_quiet (fail)
                  go_wp2_with (go_at_call 41; refine (rout_any _ _ _ _).mono ?_; rintro x w' ⟨rfl, rfl⟩)
                  go_ret
                  exact ⟨by rw [HR.out]; rfl, below_drewN ((Below.refl _ _).alloc (Nat.le_refl _) _) _⟩
              · have HR : Hid (r = 14) := hid (by rw [HC.out]; simp only [i0, i1, b1, b6, s0, a0, p0]; rfl)
                clear HC
                go_enter Tryz.func51, Tryz.ntmps51
                go_wp2_with fail
                go_quiet (fail)
                go_wp2_with (go_at_call 41; refine (rout_any _ _ _ _).mono ?_; rintro x w' ⟨rfl, rfl⟩)
                go_ret
                exact ⟨by rw [HR.out]; rfl, below_drewN ((Below.refl _ _).alloc (Nat.le_refl _) _) _⟩
            · have HR : Hid (r = 14) := hid (by rw [HC.out]; simp only [i0, i1, b1, b6, s0, a0]; rfl)
              clear HC
              go_enter Tryz.func51, Tryz.ntmps51
              go_wp2_with fail
              go_quiet (fail)
              go_wp2_with (go_at_call 41; refine (rout_any _ _ _ _).mono ?_; rintro x w' ⟨rfl, rfl⟩)
              go_ret
              exact ⟨by rw [HR.out]; rfl, below_drewN ((Below.refl _ _).alloc (Nat.le_refl _) _) _⟩
          · have HR : Hid (r = 11) := hid (by rw [HC.out]; simp only [i0, i1, b1, b6, s0]; rfl)
            clear HC
            go_enter Tryz.func51, Tryz.ntmps51
            go_wp2_with fail
            go_quiet (fail)
            go_wp2_with (go_at_call 41; refine (rout_any _ _ _ _).mono ?_; rintro x w' ⟨rfl, rfl⟩)
            go_ret
            exact ⟨by rw [HR.out]; rfl, below_drewN ((Below.refl _ _).alloc (Nat.le_refl _) _) _⟩
      · have b6 : (k == 6) = false := by have := eq_of_beq b1; subst this; rfl
        cases ia : inR a 0 4294967295
        · have HR : Hid (r = 14) := hid (by rw [HC.out]; simp only [i0, i1, b1, b6, ia]; rfl)
          clear HC
          go_enter Tryz.func51, Tryz.ntmps51
          go_wp2_with fail
          go_quiet (fail)
          go_wp2_with (go_at_call 41; refine (rout_any _ _ _ _).mono ?_; rintro x w' ⟨rfl, rfl⟩)
          go_ret
          exact ⟨by rw [HR.out]; rfl, below_drewN ((Below.refl _ _).alloc (Nat.le_refl _) _) _⟩
        · cases ip : inR p 0 65535
          · have HR : Hid (r = 14) := hid (by rw [HC.out]; simp only [i0, i1, b1, b6, ia, ip]; rfl)
            clear HC
            go_enter Tryz.func51, Tryz.ntmps51
            go_wp2_with fail
            go_quiet (fail)
            go_wp2_with (go_at_call 41; refine (rout_any _ _ _ _).mono ?_; rintro x w' ⟨rfl, rfl⟩)
            go_ret
            exact ⟨by rw [HR.out]; rfl, below_drewN ((Below.refl _ _).alloc (Nat.le_refl _) _) _⟩
          · cases im : inR m 1 8
            · have HR : Hid (r = 14) := hid (by rw [HC.out]; simp only [i0, i1, b1, b6, ia, ip, im]; rfl)
              clear HC
              go_enter Tryz.func51, Tryz.ntmps51
              go_wp2_with fail
              go_quiet (fail)
              go_wp2_with (go_at_call 41; refine (rout_any _ _ _ _).mono ?_; rintro x w' ⟨rfl, rfl⟩)
              go_ret
              exact ⟨by rw [HR.out]; rfl, below_drewN ((Below.refl _ _).alloc (Nat.le_refl _) _) _⟩
            · cases c1 : (y1 == 0)
              · have HR : Hid (r = 14) := hid (by rw [HC.out]; simp only [i0, i1, b1, b6, ia, ip, im, c1]; rfl)
                clear HC
                go_enter Tryz.func51, Tryz.ntmps51
                go_wp2_with fail
                go_quiet (fail)
                go_wp2_with (go_at_call 41; refine (rout_any _ _ _ _).mono ?_; rintro x w' ⟨rfl, rfl⟩)
                go_ret
                exact ⟨by rw [HR.out]; rfl, below_drewN ((Below.refl _ _).alloc (Nat.le_refl _) _) _⟩
              · cases c2 : (y2 == 0)
                · have HR : Hid (r = 14) := hid (by rw [HC.out]; simp only [i0, i1, b1, b6, ia, ip, im, c1, c2]; rfl)
                  clear HC
                  go_enter Tryz.func51, Tryz.ntmps51
                  go_wp2_with fail
                  go_quiet (fail)
                  go_wp2_with (go_at_call 41; refine (rout_any _ _ _ _).mono ?_; rintro x w' ⟨rfl, rfl⟩)
                  go_ret
                  exact ⟨by rw [HR.out]; rfl, below_drewN ((Below.refl _ _).alloc (Nat.le_refl _) _) _⟩
                · have HR : Hid (r = 0) := hid (by rw [HC.out]; simp only [i0, i1, b1, b6, ia, ip, im, c1, c2]; rfl)
                  clear HC
                  go_enter Tryz.func51, Tryz.ntmps51
                  go_wp2_with fail
                  go_quiet (fail)
                  go_wp2_with (go_at_call 41; refine (rout_any _ _ _ _).mono ?_; rintro x w' ⟨rfl, rfl⟩)
                  go_ret
                  exact ⟨by rw [HR.out]; rfl, below_drewN ((Below.refl _ _).alloc (Nat.le_refl _) _) _⟩
end Go.Proofs.YteefhiniamajkaaGreat
namespace Go.Proofs.YteefhiniamajkaaGreat
set_option linter.unusedVariables false
set_option linter.unusedSimpArgs false
open Go.RowKit Go.ChangeShapes Go.WideShapes Go.ChangeAt

section
variable {P : Program} {ops : Array Oper} {rest : List Oper} {Q : Exit → Act → World → Prop} {o : Oper} {a : Act} {w : World} {v : Value}
theorem wl_load {T : TypeId} {x : Operand} {A : Addr} (hw : Region.wanted o (yielded ops a.tmps) = true) (ho : o.op = .load T x) (hx : a.eval x = .pointer (some A)) (hl : (Instr.loadAt T (.pointer (some A))).run P w = .ok v w)
    (h : wpList P ops Q rest (a.put o.dst v) w) : wpList P ops Q (o :: rest) a w :=
  wl_val hw (by unfold execOp; simp only [ho, hx, Sem.run_bind, hl, Result.andThen_ok, Sem.run_pure]) h
theorem wl_index {T : TypeId} {x i : Operand} {u k : Value} (hw : Region.wanted o (yielded ops a.tmps) = true) (ho : o.op = .index T x i) (hx : a.eval x = u) (hi : a.eval i = k) (hl : (Instr.index T u k).run P w = .ok v w)
    (h : wpList P ops Q rest (a.put o.dst v) w) : wpList P ops Q (o :: rest) a w :=
  wl_val hw (by unfold execOp; simp only [ho, hx, hi, Sem.run_bind, hl, Result.andThen_ok, Sem.run_pure]) h
theorem wl_build {T : TypeId} {ps : Array (Nat × Operand)} {vs : Array (Nat × Value)} (hw : Region.wanted o (yielded ops a.tmps) = true) (ho : o.op = .build T ps) (hx : (ps.map fun (i, x) => (i, a.eval x)) = vs) (hl : (Instr.build T vs).run P w = .ok v w)
    (h : wpList P ops Q rest (a.put o.dst v) w) : wpList P ops Q (o :: rest) a w :=
  wl_val hw (by unfold execOp; simp only [ho, hx, Sem.run_bind, hl, Result.andThen_ok, Sem.run_pure]) h
theorem wl_store {T : TypeId} {x y : Operand} {A : Addr} {w' : World} (hw : Region.wanted o (yielded ops a.tmps) = true) (ho : o.op = .store T x y) (hx : a.eval x = .pointer (some A)) (hy : a.eval y = v) (hl : (Instr.storeAt T (.pointer (some A)) v).run P w = .ok () w')
    (h : wpList P ops Q rest (a.put o.dst undef) w') : wpList P ops Q (o :: rest) a w := by
  simp only [wpList]
  rw [if_pos hw]
  left
  unfold Oper.wp
  have he : (execOp a.eval o).run P w = .ok .skip w' := by
    unfold execOp
    simp only [ho, hx, hy, Sem.run_bind, hl, Result.andThen_ok, Sem.run_pure]
  rw [he]
  exact h
end
section
variable {P : Program} {Q : Exit → Act → World → Prop} {o : Oper} {a : Act} {w : World} {v : Value} {K : Act → World → Prop}
theorem ex_load {f : Operand → Value} {T : TypeId} {x : Operand} {A : Addr} (ho : o.op = .load T x) (hx : f x = .pointer (some A)) (hl : (Instr.loadAt T (.pointer (some A))).run P w = .ok v w) : (execOp f o).run P w = .ok (.value v) w := by
  unfold execOp; simp only [ho, hx, Sem.run_bind, hl, Result.andThen_ok, Sem.run_pure]
theorem ov_val (he : (execOp a.eval o).run P w = .ok (.value v) w) (h : K (a.put o.dst v) w) : o.wp P a w K Q := by
  unfold Oper.wp; rw [he]; exact h
theorem ov_store {T : TypeId} {x y : Operand} {A : Addr} {w' : World} (ho : o.op = .store T x y) (hx : a.eval x = .pointer (some A)) (hy : a.eval y = v) (hl : (Instr.storeAt T (.pointer (some A)) v).run P w = .ok () w') (h : K (a.put o.dst undef) w') : o.wp P a w K Q := by
  unfold Oper.wp
  have he : (execOp a.eval o).run P w = .ok .skip w' := by
    unfold execOp
    simp only [ho, hx, hy, Sem.run_bind, hl, Result.andThen_ok, Sem.run_pure]
  rw [he]
  exact h
end
section
variable {w : World} {b : Nat} {p : Pl}
theorem PoolAt.loadK (h : PoolAt w b p) (i : Nat) (hi : i < 64) : (Instr.loadAt 25 (.pointer (some ⟨b, 3 + i * 5, none⟩))).run Tryz.prog w = .ok (spV (p.s i)) w := by
  refine run_loadAt_mid w b (3 + i * 5) 25 [.int .i64 (p.s i).st, .int .i64 (p.s i).ad, .int .i64 (p.s i).po, .int .i64 (p.s i).we, .int .i64 (p.s i).si] _ (fun j v hj => ?_) Tryz.underlying25 rfl (by kernel_rfl)
  have hl : j < 5 := (List.getElem?_eq_some_iff.1 hj).1
  rw [h.cs i j hi hl, ← hj]
  rcases j with _ | _ | _ | _ | _ | j
  · rfl
  · rfl
  · rfl
  · rfl
  · rfl
  · omega
theorem PoolAt.loadR (h : PoolAt w b p) : (Instr.loadAt 31 (.pointer (some ⟨b, 323, none⟩))).run Tryz.prog w = .ok (rgV p.r) w := by
  refine run_loadAt_mid w b 323 31 [.int .i64 p.r.e, .int .u64 p.r.p.a, .int .u64 p.r.p.b, .int .u64 p.r.c.a, .int .u64 p.r.c.b, .int .u64 p.r.n.a, .int .u64 p.r.n.b] _ (fun j v hj => ?_) Tryz.underlying31 rfl (by kernel_rfl)
  have hl : j < 7 := (List.getElem?_eq_some_iff.1 hj).1
  rw [h.cr j hl, ← hj]
  rcases j with _ | _ | _ | _ | _ | _ | _ | j
  · rfl
  · rfl
  · rfl
  · rfl
  · rfl
  · rfl
  · rfl
  · omega
theorem PoolAt.storeK (h : PoolAt w b p) (i : Nat) (hi : i < 64) (s : Sp) : (Instr.storeAt 25 (.pointer (some ⟨b, 3 + i * 5, none⟩)) (spV s)).run Tryz.prog w = .ok () (w.setCells b (3 + i * 5) [.int .i64 s.st, .int .i64 s.ad, .int .i64 s.po, .int .i64 s.we, .int .i64 s.si]) := by
  refine run_storeAt_mid w b (3 + i * 5) 25 #[.int .i64 s.st, .int .i64 s.ad, .int .i64 s.po, .int .i64 s.we, .int .i64 s.si] (fun j hj => ?_) (by kernel_rfl) (all_oneCell_toArray (fun v hv => by simp at hv; rcases hv with rfl | rfl | rfl | rfl | rfl <;> rfl))
  have hl : j < 5 := hj
  rw [h.cs i j hi hl]
  exact ⟨rfl, h.2.2 _⟩
theorem PoolAt.storeR (h : PoolAt w b p) (r : Rg) : (Instr.storeAt 31 (.pointer (some ⟨b, 323, none⟩)) (rgV r)).run Tryz.prog w = .ok () (w.setCells b 323 [.int .i64 r.e, .int .u64 r.p.a, .int .u64 r.p.b, .int .u64 r.c.a, .int .u64 r.c.b, .int .u64 r.n.a, .int .u64 r.n.b]) := by
  refine run_storeAt_mid w b 323 31 #[.int .i64 r.e, .int .u64 r.p.a, .int .u64 r.p.b, .int .u64 r.c.a, .int .u64 r.c.b, .int .u64 r.n.a, .int .u64 r.n.b] (fun j hj => ?_) (by kernel_rfl) (all_oneCell_toArray (fun v hv => by simp at hv; rcases hv with rfl | rfl | rfl | rfl | rfl | rfl | rfl <;> rfl))
  have hl : j < 7 := hj
  rw [h.cr j hl]
  exact ⟨rfl, h.2.2 _⟩
end
theorem beq_sw (a b : Int) : (a == b) = (b == a) := by
  by_cases h : a = b
  · subst h; rfl
  · have h2 : ¬ b = a := fun e => h e.symm
    rw [beq_eq_false_iff_ne.2 h, beq_eq_false_iff_ne.2 h2]
/-- Slot i is not free, and stands there. -/
def atS (p : Pl) (a q : Int) (i : Nat) : Bool := (p.s i).st != 0 && (p.s i).ad == a && (p.s i).po == q
def heldB (p : Pl) (a q : Int) : Bool := (p.a == a && p.p == q) || (List.range 64).any (atS p a q)
theorem any_yes {f : Nat → Bool} (k : Nat) (hk : k < 64) (h : f k = true) : (List.range 64).any f = true := List.any_eq_true.2 ⟨k, by simpa using hk, h⟩
theorem any_no {f : Nat → Bool} (h : ∀ j, j < 64 → f j = false) : (List.range 64).any f = false := by
  rw [List.any_eq_false]
  intro j hj
  rw [h j (by simpa using hj)]
  simp
/-- Slot i takes, and stands there. -/
def tkS (p : Pl) (a q : Int) (i : Nat) : Bool := takesB (p.s i).st && (p.s i).ad == a && (p.s i).po == q
def findO (p : Pl) (a q : Int) : Option Nat := (List.range 64).find? (tkS p a q)
theorem find_yes {f : Nat → Bool} (k : Nat) (hk : k < 64) (hno : ∀ j, j < k → f j = false) (h : f k = true) : (List.range 64).find? f = some k := by
  rw [List.find?_range_eq_some]
  exact ⟨h, by simpa using hk, fun j hj => by rw [hno j hj]; rfl⟩
theorem find_no {f : Nat → Bool} (h : ∀ j, j < 64 → f j = false) : (List.range 64).find? f = none := by
  rw [List.find?_eq_none]
  intro j hj
  rw [h j (by simpa using hj)]
  simp
end Go.Proofs.YteefhiniamajkaaGreat
