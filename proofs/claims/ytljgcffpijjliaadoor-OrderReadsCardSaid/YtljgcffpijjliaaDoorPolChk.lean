/- Check, Takes and the small ones. -/
import Derived.Test.YtljgcffpijjliaaDoorPolMem
import Derived.BigQuiet
import Derived.Deep.RegionHeld3
import Derived.Deep.Cut
namespace Go.Proofs.YtljgcffpijjliaaDoor
set_option linter.unusedVariables false
set_option linter.unusedSimpArgs false
open Go.RowKit Go.ChangeShapes Go.WideShapes Go.ChangeAt

def inR (n lo hi : Int) : Bool := decide (lo ≤ n) && decide (n ≤ hi)
theorem pwithin_any (n lo hi : Int) (w : World) : Calls Tryd.prog 60 #[.int .i64 n, .int .i64 lo, .int .i64 hi] w fun e w' => e = .returned (.bool (inR n lo hi)) ∧ w = w' := by
  unfold inR
  cases h1 : decide (lo ≤ n) <;> cases h2 : decide (n ≤ hi)
  all_goals
    go_enter Tryd.func60, Tryd.ntmps60
    go_wp2
    go_ret
    exact ⟨rfl, rfl⟩
theorem rout_any (n lo hi : Int) (w : World) : Calls Tryd.prog 44 #[.int .i64 n, .int .i64 lo, .int .i64 hi] w fun e w' => e = .returned (.bool (!(inR n lo hi))) ∧ w = w' := by
  unfold inR
  cases h1 : decide (lo ≤ n) <;> cases h2 : decide (n ≤ hi)
  all_goals
    have g1 : decide (n < lo) = !decide (lo ≤ n) := by by_cases h : lo ≤ n <;> simp [h] <;> omega
    have g2 : decide (hi < n) = !decide (n ≤ hi) := by by_cases h : n ≤ hi <;> simp [h] <;> omega
    rw [h1] at g1
    rw [h2] at g2
    go_enter Tryd.func44, Tryd.ntmps44
    go_wp2
    go_ret
    exact ⟨rfl, rfl⟩
def mayB (a p : Int) : Bool := inR a 0 4294967295 && inR p 0 65535
theorem may_any (a p : Int) (w : World) : Calls Tryd.prog 61 #[.agg #[.int .i64 a, .int .i64 p]] w fun e w' => e = .returned (.bool (mayB a p)) ∧ Below w.heap.size w w' := by
  unfold mayB
  have H1 := hid (fun w => pwithin_any a 0 4294967295 w)
  have H2 := hid (fun w => pwithin_any p 0 65535 w)
  generalize inR a 0 4294967295 = x at *
  generalize inR p 0 65535 = y at *
  cases x
  · go_enter Tryd.func61, Tryd.ntmps61
    go_wp2_with fail
    refine (H1.out _).mono ?_
    rintro x w' ⟨rfl, rfl⟩
    go_wp2_with fail
    go_ret
    exact ⟨rfl, (Below.refl _ _).alloc (Nat.le_refl _) _⟩
  · go_enter Tryd.func61, Tryd.ntmps61
    go_wp2_with fail
    refine (H1.out _).mono ?_
    rintro x w' ⟨rfl, rfl⟩
    go_wp2_with fail
    refine (H2.out _).mono ?_
    rintro x w' ⟨rfl, rfl⟩
    go_wp2_with fail
    go_ret
    exact ⟨by cases y <;> rfl, (Below.refl _ _).alloc (Nat.le_refl _) _⟩
def takesB (s : Int) : Bool := s == 1 || s == 2 || s == 3
theorem rtakes_any (s : Sp) (w : World) : Calls Tryd.prog 42 #[spV s] w fun e w' => e = .returned (.bool (takesB s.st)) ∧ Below w.heap.size w w' := by
  unfold takesB spV
  obtain ⟨st, ad, po, we, si⟩ := s
  simp only
  cases h1 : (st == 1) <;> cases h2 : (st == 2) <;> cases h3 : (st == 3)
  all_goals
    go_enter Tryd.func42, Tryd.ntmps42
    go_wp2
    go_ret
    exact ⟨rfl, (Below.refl _ _).alloc (Nat.le_refl _) _⟩
def its (e : En) : En := if e.k = 1 then ⟨e.k, e.s, e.a, e.p, e.w, zKy⟩ else if e.k = 6 then ⟨e.k, 0, 0, 0, 0, e.y⟩ else ⟨e.k, e.s, 0, 0, 0, zKy⟩
theorem its_any (e : En) (w : World) : Calls Tryd.prog 62 #[enV e] w fun x w' => x = .returned (enV (its e)) ∧ Below w.heap.size w w' := by
  obtain ⟨k, s, a, p, m, y1, y2⟩ := e
  unfold its enV zKy
  simp only
  cases h1 : (k == 1)
  · have e1 : ¬ k = 1 := by simpa using h1
    rw [if_neg e1]
    cases h6 : (k == 6)
    · have e6 : ¬ k = 6 := by simpa using h6
      rw [if_neg e6]
      clear e1 e6
      go_enter Tryd.func62, Tryd.ntmps62
      go_wp2_with fail
      refine bodyPost_ret (by simp [results, Tryd.results62, go_sem]) rfl ⟨rfl, ?_⟩
      repeat' (first | with_reducible exact Below.refl _ _ | with_reducible refine Below.drew ?_ | with_reducible refine Below.alloc ?_ ?_ _ | with_reducible refine Below.setCell ?_ ?_ _ | (simp; done) | (simp; omega))
    · have e6 : k = 6 := by simpa using h6
      rw [if_pos e6]
      clear e1 e6
      go_enter Tryd.func62, Tryd.ntmps62
      go_wp2_with fail
      refine bodyPost_ret (by simp [results, Tryd.results62, go_sem]) rfl ⟨rfl, ?_⟩
      repeat' (first | with_reducible exact Below.refl _ _ | with_reducible refine Below.drew ?_ | with_reducible refine Below.alloc ?_ ?_ _ | with_reducible refine Below.setCell ?_ ?_ _ | (simp; done) | (simp; omega))
  · have e1 : k = 1 := by simpa using h1
    rw [if_pos e1]
    clear e1
    go_enter Tryd.func62, Tryd.ntmps62
    go_wp2_with fail
    refine bodyPost_ret (by simp [results, Tryd.results62, go_sem]) rfl ⟨rfl, ?_⟩
    repeat' (first | with_reducible exact Below.refl _ _ | with_reducible refine Below.drew ?_ | with_reducible refine Below.alloc ?_ ?_ _ | with_reducible refine Below.setCell ?_ ?_ _ | (simp; done) | (simp; omega))
def eqK (x y : Ky) : Bool := x.a == y.a && x.b == y.b
def eqE (x y : En) : Bool := x.k == y.k && (x.s == y.s && (x.a == y.a && (x.p == y.p && (x.w == y.w && eqK x.y y.y))))
set_option maxHeartbeats 2000000 in
theorem neq_en (x y : En) (w : World) : (binOp .neq 56 (enV x) (enV y)).run Tryd.prog w = .ok (.bool (!eqE x y)) w := by
  unfold enV eqE eqK
  cases h0 : (x.k == y.k)
  · simp [go_sem, h0]
  cases h1 : (x.s == y.s)
  · simp [go_sem, h0, h1]
  cases h2 : (x.a == y.a)
  · simp [go_sem, h0, h1, h2]
  cases h3 : (x.p == y.p)
  · simp [go_sem, h0, h1, h2, h3]
  cases h4 : (x.w == y.w)
  · simp [go_sem, h0, h1, h2, h3, h4]
  cases h5 : (x.y.a == y.y.a)
  · simp [go_sem, h0, h1, h2, h3, h4, h5]
  cases h6 : (x.y.b == y.y.b)
  · simp [go_sem, h0, h1, h2, h3, h4, h5, h6]
  simp [go_sem, h0, h1, h2, h3, h4, h5, h6]
theorem ex_neq {o : Oper} {f : Operand → Value} (x y : Operand) (ho : o.op = .binOp .neq 56 x y 56) (X Y : En) (hx : f x = enV X) (hy : f y = enV Y) (w : World) : (execOp f o).run Tryd.prog w = .ok (.value (.bool (!eqE X Y))) w := by
  have hg : (eqGuard .neq 56 x y (enV X) (enV Y)).run Tryd.prog w = .ok () w := run_eqGuard_agg w _ _ _ _ _ _ (by kernel_rfl)
  unfold execOp
  simp only [ho, hx, hy, Sem.run_bind, hg, Result.andThen_ok, neq_en, Sem.run_pure]
section
variable {P : Program} {ops : Array Oper} {rest : List Oper} {Q : Exit → Act → World → Prop} {o : Oper} {a : Act} {w : World} {v : Value}
/-- An operation of which it is known what it yields. -/
theorem wl_val (hw : Region.wanted o (yielded ops a.tmps) = true) (he : (execOp a.eval o).run P w = .ok (.value v) w) (h : wpList P ops Q rest (a.put o.dst v) w) : wpList P ops Q (o :: rest) a w := by
  simp only [wpList]
  rw [if_pos hw]
  left
  unfold Oper.wp
  rw [he]
  exact h
end
end Go.Proofs.YtljgcffpijjliaaDoor
