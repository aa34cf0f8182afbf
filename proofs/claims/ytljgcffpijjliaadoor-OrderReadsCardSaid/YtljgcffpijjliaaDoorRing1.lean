/- Rings of keys, of both packages; the laws' helpers of chapter 5. -/
import Derived.Test.YtljgcffpijjliaaDoorPolBase
import Derived.Laws.IdiomCopy
namespace Go.Proofs.YtljgcffpijjliaaDoor
set_option linter.unusedVariables false
set_option linter.unusedSimpArgs false
open Go.RowKit Go.ChangeShapes Go.WideShapes Go.ChangeAt

def kyN (n : Int) : Ky := ⟨IntKind.u64.wrap (IntKind.u64.wrap n * 11400714819323198485), bits .xor .u64 (IntKind.u64.wrap n) 19088743⟩
theorem lkey_any (n : Int) (w : World) : Calls Tryd.prog 23 #[.int .i64 n] w fun e' w' => e' = .returned (kyV (kyN n)) ∧ Below w.heap.size w w' := by
  unfold kyV kyN
  go_enter Tryd.func23, Tryd.ntmps23
  go_wp2_with fail
  refine bodyPost_ret (by simp [results, Tryd.results23, go_sem]) rfl ⟨rfl, ?_⟩
  repeat' (first | with_reducible exact Below.refl _ _ | with_reducible refine Below.drew ?_ | with_reducible refine Below.alloc ?_ ?_ _ | with_reducible refine Below.setCell ?_ ?_ _ | (simp; done) | (simp; omega))
theorem run_copy2 {P : Program} (w : World) (dT sT ty elem : TypeId) (b o dLen dCap : Nat) (a : Addr) (sLen sCap : Nat) (cs : List Value)
    (hu : P.underlying dT = some (.slice elem)) (hs : (P.info? elem).map (·.size) = some 2) (hn : cs.length = Nat.min sLen dLen * 2)
    (hsrc : ∀ j v, cs[j]? = some v → w.cell? (a.add j) = some v) (hc : ∀ j, j < cs.length → (w.cell? ⟨b, o + j, none⟩).isSome = true) (hf : ∀ j, j < cs.length → w.frozen? ⟨b, o + j, none⟩ = false) (h1 : ∀ v ∈ cs, v.oneCell' = true) :
    (Builtin.copy_ #[dT, sT] ty #[.slice (some ⟨b, o, none⟩) dLen dCap, .slice (some a) sLen sCap]).run P w = .ok (goInt (Nat.min sLen dLen)) (w.setCells b o cs) := by
  have hl := run_loadCells_list (P := P) w a cs hsrc
  have hst := run_storeCells_cells (P := P) b o cs 0 w (by simpa using hc) (by simpa using hf) h1
  cases hq : P.info? elem with
  | none => simp [hq] at hs
  | some i =>
    have hi : i.size = 2 := by simpa [hq] using hs
    rw [hn] at hl
    simp [Builtin.copy_, run_underlying hu, Builtin.lenOf, Builtin.firstCells, sizeOf, typeInfo, hq, hi, hl, hst]

/-- The i-th key of a row of n. -/
def kAt (n : Nat) (g : Nat → Int) (i : Nat) : Ky := if i < n then ⟨g (2 * i), g (2 * i + 1)⟩ else ⟨0, 0⟩
def rgN (e : Int) (n : Nat) (g : Nat → Int) : Rg := ⟨e, kAt n g 0, kAt n g 1, kAt n g 2⟩
theorem st_two {w : World} {X k : Nat} {g : Nat → Int} (hc : ∀ q, q < 6 → w.cell? ⟨X, q, none⟩ = some (.int .u64 (if q < 2 * k then g q else 0))) (hk : k < 3) :
    ∀ q, q < 6 → ((w.setCell ⟨X, k * 2, none⟩ (.int .u64 (g (k * 2)))).setCell ⟨X, k * 2 + 1, none⟩ (.int .u64 (g (k * 2 + 1)))).cell? ⟨X, q, none⟩ = some (.int .u64 (if q < 2 * (k + 1) then g q else 0)) := by
  intro q hq
  by_cases e1 : q = k * 2 + 1
  · subst e1
    rw [World.cell?_setCell_same _ _ _ ((World.cell?_setCell_other _ _ _ _ (by simp)).trans (hc (k * 2 + 1) hq)), if_pos (by omega)]
  · rw [World.cell?_setCell_other _ _ _ _ (by simp <;> omega)]
    by_cases e2 : q = k * 2
    · subst e2
      rw [World.cell?_setCell_same _ _ _ (hc (k * 2) hq), if_pos (by omega)]
    · rw [World.cell?_setCell_other _ _ _ _ (by simp <;> omega), hc q hq]
      congr 2
      by_cases h3 : q < 2 * k
      · rw [if_pos h3, if_pos (by omega)]
      · rw [if_neg h3, if_neg (by omega)]
theorem rring_any (e : Int) (A : Option Addr) (n c : Nat) (g : Nat → Int) (w : World) (h : Sl w A (2 * n) (fun j => .int .u64 (g j))) (hn : n ≤ 1000) :
    Calls Tryd.prog 59 #[.int .i64 e, .slice A n c] w fun e' w' => e' = .returned (rgV (rgN e n g)) ∧ Below w.heap.size w w' := by
  unfold rgV rgN
  go_enter Tryd.func59, Tryd.ntmps59
  go_wp2_with fail
  have dR : w.heap.size + 1 ≠ w.heap.size := by omega
  have lX : w.heap.size ≤ w.heap.size + 1 := by omega
  have CR := Ce.made (w := w) (l := [.int .i64 0, .int .u64 0, .int .u64 0, .int .u64 0, .int .u64 0, .int .u64 0, .int .u64 0]) (T := 31) (g := w.heap.size) rfl
  replace CR := CR.alloc (.cells #[.int .u64 0, .int .u64 0, .int .u64 0, .int .u64 0, .int .u64 0, .int .u64 0] 107)
  have CX := Ce.made (w := (w.alloc (.cells #[.int .i64 0, .int .u64 0, .int .u64 0, .int .u64 0, .int .u64 0, .int .u64 0, .int .u64 0] 31))) (l := [.int .u64 0, .int .u64 0, .int .u64 0, .int .u64 0, .int .u64 0, .int .u64 0]) (T := 107) (g := w.heap.size + 1) (by simp)
  have B : Below w.heap.size w ((w.alloc (.cells #[.int .i64 0, .int .u64 0, .int .u64 0, .int .u64 0, .int .u64 0, .int .u64 0, .int .u64 0] 31)).alloc (.cells #[.int .u64 0, .int .u64 0, .int .u64 0, .int .u64 0, .int .u64 0, .int .u64 0] 107)) := (((Below.refl w.heap.size w).alloc (by first | exact Nat.le_refl _ | (simp; done) | (simp; omega)) (.cells #[.int .i64 0, .int .u64 0, .int .u64 0, .int .u64 0, .int .u64 0, .int .u64 0, .int .u64 0] 31)).alloc (by first | exact Nat.le_refl _ | (simp; done) | (simp; omega)) (.cells #[.int .u64 0, .int .u64 0, .int .u64 0, .int .u64 0, .int .u64 0, .int .u64 0] 107))
  generalize (w.alloc (.cells #[.int .i64 0, .int .u64 0, .int .u64 0, .int .u64 0, .int .u64 0, .int .u64 0, .int .u64 0] 31)).alloc (.cells #[.int .u64 0, .int .u64 0, .int .u64 0, .int .u64 0, .int .u64 0, .int .u64 0] 107) = w1 at *
  generalize w.heap.size + 1 = X at *
  generalize hK : w.heap.size = R at *
  have CX' : ∀ q, q < 6 → w1.cell? ⟨X, q, none⟩ = some (.int .u64 (if q < 2 * 0 then g q else 0)) := fun q hq => by
    obtain ⟨_, q0, _⟩ := CX
    rw [if_neg (by omega)]
    rcases q with _ | _ | _ | _ | _ | _ | q
    · exact q0 0 _ rfl
    · exact q0 1 _ rfl
    · exact q0 2 _ rfl
    · exact q0 3 _ rfl
    · exact q0 4 _ rfl
    · exact q0 5 _ rfl
    · omega
  have h1 : Sl w1 A (2 * n) (fun j => .int .u64 (g j)) := h.below B (Nat.le_of_eq hK)
  obtain ⟨N, hN1, hN2, hN3⟩ : ∃ N, N ≤ n ∧ N ≤ 3 ∧ (n ≤ N ∨ 3 ≤ N) := ⟨min n 3, by omega, by omega, by omega⟩
  have ZX : ∀ q, w1.frozen? ⟨X, q, none⟩ = false := CX.2.2
  have kX := CX.1
  have lB : w.heap.size ≤ w1.heap.size := B.size
  clear CX
  go_loopw [6] (fun i wr => ∃ k : Nat, k ≤ N ∧ i = .int .i64 k ∧ Below X w1 wr ∧ (∀ q, q < 6 → wr.cell? ⟨X, q, none⟩ = some (.int .u64 (if q < 2 * k then g q else 0))) ∧ (∀ q, wr.frozen? ⟨X, q, none⟩ = false)) (fun i _ => N - (intOf i).toNat)
  case atStart => exact ⟨0, by omega, rfl, Below.refl _ _, CX', ZX⟩
  case round =>
    obtain ⟨k, hk, rfl, hb, hcx, hzx⟩ := hrel
    by_cases hlt : k < N
    · have h1' := h1
      obtain ⟨b, off, rfl, hbl, hcell⟩ := h (by omega)
      have hbX : b < X := by omega
      have hcl : ∀ j, j < 2 * n → wr.cell? ⟨b, off + j, none⟩ = some (.int .u64 (g j)) := fun j hj => (hb.cell (p := ⟨b, off + j, none⟩) hbX).trans (h1.at_ hj)
      have i1 : (k : Int) < n := by omega
      have i2 : (k : Int) < 3 := by omega
      have i3 : (0 : Int) ≤ k := by omega
      have s0 : wr.cell? ⟨b, off + k * 2, none⟩ = some (.int .u64 (g (k * 2))) := hcl _ (by omega)
      have s1 : wr.cell? ⟨b, off + k * 2 + 1, none⟩ = some (.int .u64 (g (k * 2 + 1))) := hcl (k * 2 + 1) (by omega)
      have x0 := hcx (k * 2) (by omega)
      have x1 := hcx (k * 2 + 1) (by omega)
      have z0 := hzx (k * 2)
      have z1 := hzx (k * 2 + 1)
      have HN := hid (st_two hcx (by omega : k < 3))
      have HZ := hid hzx
      clear hcx hzx hcl hcell h1 h1' CX' ZX
      go_wp2_with fail
      go_roundw
      case rel => exact ⟨k + 1, by omega, by go_num, (hb.setCell (Nat.le_refl _) _).setCell (Nat.le_refl _) _, HN.out, fun q => by simp [HZ.out q]⟩
      case measure => simp [intOf]; omega
    · have e : k = N := by omega
      subst e
      have kk : ∀ i, i < 3 → (if 2 * i < 2 * k then g (2 * i) else 0) = (kAt n g i).a ∧ (if 2 * i + 1 < 2 * k then g (2 * i + 1) else 0) = (kAt n g i).b := fun i hi => by
        unfold kAt
        by_cases hin : i < n
        · rw [if_pos hin, if_pos (by omega), if_pos (by omega)]
          exact ⟨rfl, rfl⟩
        · rw [if_neg hin, if_neg (by omega), if_neg (by omega)]
          exact ⟨rfl, rfl⟩
      have x0 := hcx 0 (by omega)
      have x1 := hcx 1 (by omega)
      have x2 := hcx 2 (by omega)
      have x3 := hcx 3 (by omega)
      have x4 := hcx 4 (by omega)
      have x5 := hcx 5 (by omega)
      rw [show (if 0 < 2 * k then g 0 else 0) = (kAt n g 0).a from (kk 0 (by omega)).1] at x0
      rw [show (if 1 < 2 * k then g 1 else 0) = (kAt n g 0).b from (kk 0 (by omega)).2] at x1
      rw [show (if 2 < 2 * k then g 2 else 0) = (kAt n g 1).a from (kk 1 (by omega)).1] at x2
      rw [show (if 3 < 2 * k then g 3 else 0) = (kAt n g 1).b from (kk 1 (by omega)).2] at x3
      rw [show (if 4 < 2 * k then g 4 else 0) = (kAt n g 2).a from (kk 2 (by omega)).1] at x4
      rw [show (if 5 < 2 * k then g 5 else 0) = (kAt n g 2).b from (kk 2 (by omega)).2] at x5
      obtain ⟨kR, qR, zR⟩ := CR
      have hRX : R < X := by omega
      have cR0 := (hb.cell (p := ⟨R, 0, none⟩) hRX).trans (qR 0 _ rfl)
      have fR0 := (World.frozen?_of_block (a := ⟨R, 0, none⟩) (hb.block R hRX)).trans (zR 0)
      have cR1 := (hb.cell (p := ⟨R, 1, none⟩) hRX).trans (qR 1 _ rfl)
      have fR1 := (World.frozen?_of_block (a := ⟨R, 1, none⟩) (hb.block R hRX)).trans (zR 1)
      have cR2 := (hb.cell (p := ⟨R, 2, none⟩) hRX).trans (qR 2 _ rfl)
      have fR2 := (World.frozen?_of_block (a := ⟨R, 2, none⟩) (hb.block R hRX)).trans (zR 2)
      have cR3 := (hb.cell (p := ⟨R, 3, none⟩) hRX).trans (qR 3 _ rfl)
      have fR3 := (World.frozen?_of_block (a := ⟨R, 3, none⟩) (hb.block R hRX)).trans (zR 3)
      have cR4 := (hb.cell (p := ⟨R, 4, none⟩) hRX).trans (qR 4 _ rfl)
      have fR4 := (World.frozen?_of_block (a := ⟨R, 4, none⟩) (hb.block R hRX)).trans (zR 4)
      have cR5 := (hb.cell (p := ⟨R, 5, none⟩) hRX).trans (qR 5 _ rfl)
      have fR5 := (World.frozen?_of_block (a := ⟨R, 5, none⟩) (hb.block R hRX)).trans (zR 5)
      have cR6 := (hb.cell (p := ⟨R, 6, none⟩) hRX).trans (qR 6 _ rfl)
      have fR6 := (World.frozen?_of_block (a := ⟨R, 6, none⟩) (hb.block R hRX)).trans (zR 6)
      have hbf : Below R w wr := B.trans (hb.mono (by omega))
      clear hcx hzx kk h1 CX' ZX qR zR h B hb
      have hex : ¬ (k : Int) < n ∨ ¬ (k : Int) < 3 := by omega
      by_cases h7 : n ≤ k
      · have j1 : ¬ (k : Int) < n := by omega
        go_wp2_with fail
        refine bodyPost_ret (by simp [results, Tryd.results59, go_sem, cR0, cR1, cR2, cR3, cR4, cR5, cR6]) rfl ⟨rfl, ?_⟩
        try rw [hK]
        repeat' (first | with_reducible exact hbf | refine Below.setCell ?_ (Nat.le_refl R) _)
      · have j1 : (k : Int) < n := by omega
        have j2 : ¬ (k : Int) < 3 := by omega
        go_wp2_with fail
        refine bodyPost_ret (by simp [results, Tryd.results59, go_sem, cR0, cR1, cR2, cR3, cR4, cR5, cR6]) rfl ⟨rfl, ?_⟩
        try rw [hK]
        repeat' (first | with_reducible exact hbf | refine Below.setCell ?_ (Nat.le_refl R) _)

end Go.Proofs.YtljgcffpijjliaaDoor
