/- Rings of keys of the program; the next ring; the laws' helper Ring. -/
import Derived.Test.YtppcanaelagfmaaRing1
namespace Go.Proofs.Ytppcanaelagfmaa
set_option linter.unusedVariables false
set_option linter.unusedSimpArgs false
open Go.RowKit Go.ChangeShapes Go.WideShapes Go.ChangeAt

theorem run_copy_none2 {P : Program} (w : World) (dT sT ty elem : TypeId) (d a : Option Addr) (dLen dCap sLen sCap : Nat) (hu : P.underlying dT = some (.slice elem)) (hs : (P.info? elem).map (·.size) = some 2) (hn : Nat.min sLen dLen = 0) :
    (Builtin.copy_ #[dT, sT] ty #[.slice d dLen dCap, .slice a sLen sCap]).run P w = .ok (goInt 0) w := by
  cases hq : P.info? elem with
  | none => simp [hq] at hs
  | some i =>
    have hl : ∀ (x : Addr), (loadCells x 0).run P w = .ok #[] w := fun x => by simpa using run_loadCells_list (P := P) w x [] (by simp)
    cases d <;> cases a <;> simp [Builtin.copy_, run_underlying hu, Builtin.lenOf, Builtin.firstCells, sizeOf, typeInfo, hq, hn, storeCells, hl]
theorem Ce.slu {w : World} {b : Nat} (l : List Int) (h : Ce w b (l.map (Value.int .u64))) : Sl w (some ⟨b, 0, none⟩) l.length (fun j => .int .u64 (l.getD j 0)) := by
  refine Sl.mk h.1 fun j hj => ?_
  rw [Nat.zero_add]
  exact h.2.1 j _ (by simp [List.getD, hj])
theorem keeps_setCells (b : Nat) : ∀ (vs : List Value) (o : Nat) (w : World) (B : Nat), B ≤ b → Below B w (w.setCells b o vs)
  | [], _, w, B, _ => Below.refl B w
  | v :: r, o, w, B, h => ((Below.refl B w).setCell h v).trans (keeps_setCells b r (o + 1) _ B h)
theorem cring_any (e : Int) (A : Option Addr) (n c : Nat) (g : Nat → Int) (w : World) (h : Sl w A (2 * n) (fun j => .int .u64 (g j))) (hn : n ≤ 1000) :
    Calls Try.prog 52 #[.int .i64 e, .slice A n c] w fun e' w' => e' = .returned (rgV (rgN e n g)) ∧ Below w.heap.size w w' := by
  unfold rgV rgN
  go_enter Try.func52, Try.ntmps52
  go_upto_region 2 with fail
  have dR : w.heap.size + 1 ≠ w.heap.size := by omega
  have lX : w.heap.size ≤ w.heap.size + 1 := by omega
  have CR := Ce.made (w := w) (l := [.int .i64 0, .int .u64 0, .int .u64 0, .int .u64 0, .int .u64 0, .int .u64 0, .int .u64 0]) (T := 31) (g := w.heap.size) rfl
  replace CR := CR.alloc (.cells #[.int .u64 0, .int .u64 0, .int .u64 0, .int .u64 0, .int .u64 0, .int .u64 0] 96)
  have CX := Ce.made (w := (w.alloc (.cells #[.int .i64 0, .int .u64 0, .int .u64 0, .int .u64 0, .int .u64 0, .int .u64 0, .int .u64 0] 31))) (l := [.int .u64 0, .int .u64 0, .int .u64 0, .int .u64 0, .int .u64 0, .int .u64 0]) (T := 96) (g := w.heap.size + 1) (by simp)
  have B : Below w.heap.size w ((w.alloc (.cells #[.int .i64 0, .int .u64 0, .int .u64 0, .int .u64 0, .int .u64 0, .int .u64 0, .int .u64 0] 31)).alloc (.cells #[.int .u64 0, .int .u64 0, .int .u64 0, .int .u64 0, .int .u64 0, .int .u64 0] 96)) := (((Below.refl w.heap.size w).alloc (by first | exact Nat.le_refl _ | (simp; done) | (simp; omega)) (.cells #[.int .i64 0, .int .u64 0, .int .u64 0, .int .u64 0, .int .u64 0, .int .u64 0, .int .u64 0] 31)).alloc (by first | exact Nat.le_refl _ | (simp; done) | (simp; omega)) (.cells #[.int .u64 0, .int .u64 0, .int .u64 0, .int .u64 0, .int .u64 0, .int .u64 0] 96))
  generalize (w.alloc (.cells #[.int .i64 0, .int .u64 0, .int .u64 0, .int .u64 0, .int .u64 0, .int .u64 0, .int .u64 0] 31)).alloc (.cells #[.int .u64 0, .int .u64 0, .int .u64 0, .int .u64 0, .int .u64 0, .int .u64 0] 96) = w1 at *
  generalize w.heap.size + 1 = X at *
  generalize hK : w.heap.size = R at *
  have h1 : Sl w1 A (2 * n) (fun j => .int .u64 (g j)) := h.below B (Nat.le_of_eq hK)
  obtain ⟨m, hm1, hm2, hm3⟩ : ∃ m, m ≤ n ∧ m ≤ 3 ∧ (n ≤ m ∨ 3 ≤ m) := ⟨min n 3, by omega, by omega, by omega⟩
  have hz : ∀ q, q < 6 → w1.cell? ⟨X, q, none⟩ = some (.int .u64 0) := fun q hq => by
    rcases q with _ | _ | _ | _ | _ | _ | q
    · exact CX.2.1 0 _ rfl
    · exact CX.2.1 1 _ rfl
    · exact CX.2.1 2 _ rfl
    · exact CX.2.1 3 _ rfl
    · exact CX.2.1 4 _ rfl
    · exact CX.2.1 5 _ rfl
    · omega
  have hmm : Nat.min n 3 = m := by
    show min n 3 = m
    omega
  obtain ⟨cs, hcs⟩ : ∃ cs, cs = (List.range (2 * m)).map (fun j => Value.int .u64 (g j)) := ⟨_, rfl⟩
  have hcl : cs.length = m * 2 := by rw [hcs]; simp; omega
  have hcopy : (Builtin.copy_ #[92, 92] 3 #[.slice (some ⟨X, 0, none⟩) 3 3, .slice A n c]).run Try.prog w1 = .ok (goInt m) (w1.setCells X 0 cs) := by
    rcases Nat.eq_zero_or_pos m with h0 | h0
    · have hc0 : cs = [] := List.length_eq_zero_iff.1 (by omega)
      rw [hc0, run_copy_none2 w1 92 92 3 29 _ _ 3 3 n c Try.underlying92 (by kernel_rfl) (by rw [hmm, h0]), h0]
      rfl
    · obtain ⟨b, off, rfl, hbl, hcell⟩ := h1 (by omega)
      rw [run_copy2 w1 92 92 3 29 X 0 3 3 ⟨b, off, none⟩ n c cs Try.underlying92 (by kernel_rfl) (by rw [hmm, hcl]) (fun j v hj => ?_) (fun j hj => ?_) (fun j _ => CX.2.2 _) (fun v hv => ?_), hmm]
      · rw [add_plain]
        have hjl : j < 2 * m := by
          have := (List.getElem?_eq_some_iff.1 hj).1
          omega
        rw [hcs] at hj
        simp [hjl] at hj
        rw [hcell j (by omega), ← hj]
      · have hj6 : j < 6 := by omega
        rw [Nat.zero_add]
        rw [hz j hj6]
        rfl
      · rw [hcs] at hv
        simp at hv
        obtain ⟨_, _, rfl⟩ := hv
        rfl
  have hcx : ∀ q, q < 6 → (w1.setCells X 0 cs).cell? ⟨X, q, none⟩ = some (.int .u64 (if q < 2 * m then g q else 0)) := fun q hq => by
    by_cases h2 : q < 2 * m
    · have := World.cell?_setCells_in X cs 0 w1 (fun j hj => by
        rw [Nat.zero_add]
        have hj6 : j < 6 := by omega
        rw [hz j hj6]
        rfl) q (by omega)
      rw [Nat.zero_add] at this
      rw [this, if_pos h2]
      simp [hcs]
    · rw [World.cell?_setCells_out X cs 0 w1 _ (fun _ _ => .inr (by rw [hcl]; show 0 + m * 2 ≤ q; omega)), hz q hq, if_neg h2]
  have hbs := keeps_setCells X cs 0 w1 X (Nat.le_refl X)
  have HC := hid hcopy
  clear hcs hcl hmm hcopy
  generalize hws : w1.setCells X 0 cs = w2 at *
  have hcopy := HC.out
  clear HC hws
  have kk : ∀ i, i < 3 → (if 2 * i < 2 * m then g (2 * i) else 0) = (kAt n g i).a ∧ (if 2 * i + 1 < 2 * m then g (2 * i + 1) else 0) = (kAt n g i).b := fun i hi => by
    unfold kAt
    by_cases hin : i < n
    · rw [if_pos hin, if_pos (by omega), if_pos (by omega)]
      exact ⟨rfl, rfl⟩
    · rw [if_neg hin, if_neg (by omega), if_neg (by omega)]
      exact ⟨rfl, rfl⟩
  have x0 := hcx 0 (by omega)
  have x1 := hcx 1 (by omega)
  have x2 := hcx 2 (by omega)
  have x3 := hcx 3 (by omega)
  have x4 := hcx 4 (by omega)
  have x5 := hcx 5 (by omega)
  rw [show (if 0 < 2 * m then g 0 else 0) = (kAt n g 0).a from (kk 0 (by omega)).1] at x0
  rw [show (if 1 < 2 * m then g 1 else 0) = (kAt n g 0).b from (kk 0 (by omega)).2] at x1
  rw [show (if 2 < 2 * m then g 2 else 0) = (kAt n g 1).a from (kk 1 (by omega)).1] at x2
  rw [show (if 3 < 2 * m then g 3 else 0) = (kAt n g 1).b from (kk 1 (by omega)).2] at x3
  rw [show (if 4 < 2 * m then g 4 else 0) = (kAt n g 2).a from (kk 2 (by omega)).1] at x4
  rw [show (if 5 < 2 * m then g 5 else 0) = (kAt n g 2).b from (kk 2 (by omega)).2] at x5
  obtain ⟨kR, qR, zR⟩ := CR
  have hRX : R < X := by omega
  have cR0 := (hbs.cell (p := ⟨R, 0, none⟩) hRX).trans (qR 0 _ rfl)
  have fR0 := (World.frozen?_of_block (a := ⟨R, 0, none⟩) (hbs.block R hRX)).trans (zR 0)
  have cR1 := (hbs.cell (p := ⟨R, 1, none⟩) hRX).trans (qR 1 _ rfl)
  have fR1 := (World.frozen?_of_block (a := ⟨R, 1, none⟩) (hbs.block R hRX)).trans (zR 1)
  have cR2 := (hbs.cell (p := ⟨R, 2, none⟩) hRX).trans (qR 2 _ rfl)
  have fR2 := (World.frozen?_of_block (a := ⟨R, 2, none⟩) (hbs.block R hRX)).trans (zR 2)
  have cR3 := (hbs.cell (p := ⟨R, 3, none⟩) hRX).trans (qR 3 _ rfl)
  have fR3 := (World.frozen?_of_block (a := ⟨R, 3, none⟩) (hbs.block R hRX)).trans (zR 3)
  have cR4 := (hbs.cell (p := ⟨R, 4, none⟩) hRX).trans (qR 4 _ rfl)
  have fR4 := (World.frozen?_of_block (a := ⟨R, 4, none⟩) (hbs.block R hRX)).trans (zR 4)
  have cR5 := (hbs.cell (p := ⟨R, 5, none⟩) hRX).trans (qR 5 _ rfl)
  have fR5 := (World.frozen?_of_block (a := ⟨R, 5, none⟩) (hbs.block R hRX)).trans (zR 5)
  have cR6 := (hbs.cell (p := ⟨R, 6, none⟩) hRX).trans (qR 6 _ rfl)
  have fR6 := (World.frozen?_of_block (a := ⟨R, 6, none⟩) (hbs.block R hRX)).trans (zR 6)
  have hbf : Below R w w2 := B.trans (hbs.mono (by omega))
  clear hcx kk h1 qR zR h B hbs CX hz
  go_wp2_with fail
  refine bodyPost_ret (by simp [results, Try.results52, go_sem, cR0, cR1, cR2, cR3, cR4, cR5, cR6]) rfl ⟨rfl, ?_⟩
  try rw [hK]
  repeat' (first | with_reducible exact hbf | refine Below.setCell ?_ (Nat.le_refl R) _)

end Go.Proofs.Ytppcanaelagfmaa
