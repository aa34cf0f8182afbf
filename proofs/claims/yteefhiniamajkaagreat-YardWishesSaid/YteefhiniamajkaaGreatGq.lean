/- Whether an entry fits. Whether an entry is bad. An entry's slot behind it. Why an entry is refused. -/
import Derived.Test.YteefhiniamajkaaGreatGf
import Derived.BigQuiet
import Derived.Deep.RegionHeld3
import Derived.Deep.Cut
import Derived.RegionTactic
namespace Go.Proofs.YteefhiniamajkaaGreat
set_option linter.unusedVariables false
set_option linter.unusedSimpArgs false
open Go.RowKit Go.ChangeShapes Go.WideShapes Go.ChangeAt

def fitB (p : Pl) (e : En) (i : Nat) : Bool :=
  bif e.k == 1 then ((p.s i).st == 0 && !heldB p e.a e.p) else bif (e.k == 2 || e.k == 4) then ((p.s i).st == 1 || (p.s i).st == 3) else bif e.k == 3 then (p.s i).st == 2 else bif e.k == 5 then (p.s i).st == 4 else true
def refE (p : Pl) (e : En) (i : Nat) : Int := bif !(fitB p e i) then 12 else bif (e.k == 5 && decide (p.r.e < (p.s i).si + 3)) then 13 else 0
def chS (p : Pl) (e : En) (i : Nat) : Sp :=
  bif e.k == 1 then ⟨1, e.a, e.p, e.w, 0⟩ else bif e.k == 2 then { p.s i with st := 2 } else bif e.k == 3 then { p.s i with st := 3 } else bif e.k == 4 then { p.s i with st := 4, si := p.r.e } else bif e.k == 5 then zSp else p.s i
set_option maxRecDepth 100000 in
set_option maxHeartbeats 4000000 in
theorem fits_any (p : Pl) (e : En) (i : Nat) (hi : e.s = i) (h64 : i < 64) (hk : 1 ≤ e.k ∧ e.k ≤ 6) (w : World) : Calls Tryz.prog 85 #[plV p, enV e] w fun x w' => x = .returned (.bool (fitB p e i)) ∧ Below w.heap.size w w' := by
  obtain ⟨k, s, a, q, m, y1, y2⟩ := e
  simp only at hi hk
  subst hi
  have i0 : (0 : Int) ≤ i := by omega
  have i1 : (i : Int) < 64 := by omega
  have TK := hid (fun w => taken_any p a q w)
  unfold plV enV
  unfold fitB
  simp only
  generalize heldB p a q = hb at *
  have h6 : k = 1 ∨ k = 2 ∨ k = 3 ∨ k = 4 ∨ k = 5 ∨ k = 6 := by omega
  clear hk
  rcases h6 with rfl | rfl | rfl | rfl | rfl | rfl
  · cases b0 : ((p.s i).st == 0)
    · go_enter Tryz.func85, Tryz.ntmps85
      go_upto_region 1 with (fail)
      have P1 := hid ((PoolAt.made (w := w) (p := p) (T := 33) rfl).alloc (.cells #[.int .i64 1, .int .i64 (i : Int), .int .i64 a, .int .i64 q, .int .i64 m, .int .u64 y1, .int .u64 y2] 44))
      have CX := hid (Ce.made (w := w.alloc (.cells (PA p) 33)) (l := [.int .i64 1, .int .i64 (i : Int), .int .i64 a, .int .i64 q, .int .i64 m, .int .u64 y1, .int .u64 y2]) (T := 44) (g := w.heap.size + 1) (by simp))
      have HB := hid (((Below.refl w.heap.size w).alloc (Nat.le_refl _) (.cells (PA p) 33)).alloc (by simp) (.cells #[.int .i64 1, .int .i64 (i : Int), .int .i64 a, .int .i64 q, .int .i64 m, .int .u64 y1, .int .u64 y2] 44))
      generalize (w.alloc (.cells (PA p) 33)).alloc (.cells #[.int .i64 1, .int .i64 (i : Int), .int .i64 a, .int .i64 q, .int .i64 m, .int .u64 y1, .int .u64 y2] 44) = w1 at *
      generalize w.heap.size + 1 = E at *
      generalize hK : w.heap.size = P at *
      have HK := hid hK
      clear hK
      have c0 := CX.out.2.1 0 _ rfl
      have c1 := CX.out.2.1 1 _ rfl
      have cst : w1.cell? ⟨P, 3 + i * 5, none⟩ = some (.int .i64 (p.s i).st) := P1.out.cs i 0 h64 (by omega)
      go_wp2_with fail
      go_ret
      exact ⟨by simp [b0], by rw [HK.out]; exact HB.out⟩
    · go_enter Tryz.func85, Tryz.ntmps85
      go_upto_region 1 with (fail)
      have P1 := hid ((PoolAt.made (w := w) (p := p) (T := 33) rfl).alloc (.cells #[.int .i64 1, .int .i64 (i : Int), .int .i64 a, .int .i64 q, .int .i64 m, .int .u64 y1, .int .u64 y2] 44))
      have CX := hid (Ce.made (w := w.alloc (.cells (PA p) 33)) (l := [.int .i64 1, .int .i64 (i : Int), .int .i64 a, .int .i64 q, .int .i64 m, .int .u64 y1, .int .u64 y2]) (T := 44) (g := w.heap.size + 1) (by simp))
      have HB := hid (((Below.refl w.heap.size w).alloc (Nat.le_refl _) (.cells (PA p) 33)).alloc (by simp) (.cells #[.int .i64 1, .int .i64 (i : Int), .int .i64 a, .int .i64 q, .int .i64 m, .int .u64 y1, .int .u64 y2] 44))
      generalize (w.alloc (.cells (PA p) 33)).alloc (.cells #[.int .i64 1, .int .i64 (i : Int), .int .i64 a, .int .i64 q, .int .i64 m, .int .u64 y1, .int .u64 y2] 44) = w1 at *
      generalize w.heap.size + 1 = E at *
      generalize hK : w.heap.size = P at *
      have HK := hid hK
      clear hK
      have c0 := CX.out.2.1 0 _ rfl
      have c1 := CX.out.2.1 1 _ rfl
      have c2 := CX.out.2.1 2 _ rfl
      have c3 := CX.out.2.1 3 _ rfl
      have cst : w1.cell? ⟨P, 3 + i * 5, none⟩ = some (.int .i64 (p.s i).st) := P1.out.cs i 0 h64 (by omega)
      have LP := P1.out.load
      go_wp2_with (refine wl_load rfl rfl rfl LP ?_)
      refine (TK.out _).mono ?_
      rintro x w2 ⟨rfl, hb2⟩
      have HB3 := hid (HB.out.trans (hb2.mono (by have := HB.out.size; rw [HK.out] at this; exact this)))
      clear hb2 c0 c1 c2 c3 cst LP
      go_wp2_with fail
      go_ret
      exact ⟨by simp [b0], by rw [HK.out]; exact HB3.out⟩
  · cases b1 : ((p.s i).st == 1) <;> cases b3 : ((p.s i).st == 3)
    all_goals
      go_enter Tryz.func85, Tryz.ntmps85
      go_upto_region 1 with (fail)
      have P1 := hid ((PoolAt.made (w := w) (p := p) (T := 33) rfl).alloc (.cells #[.int .i64 2, .int .i64 (i : Int), .int .i64 a, .int .i64 q, .int .i64 m, .int .u64 y1, .int .u64 y2] 44))
      have CX := hid (Ce.made (w := w.alloc (.cells (PA p) 33)) (l := [.int .i64 2, .int .i64 (i : Int), .int .i64 a, .int .i64 q, .int .i64 m, .int .u64 y1, .int .u64 y2]) (T := 44) (g := w.heap.size + 1) (by simp))
      have HB := hid (((Below.refl w.heap.size w).alloc (Nat.le_refl _) (.cells (PA p) 33)).alloc (by simp) (.cells #[.int .i64 2, .int .i64 (i : Int), .int .i64 a, .int .i64 q, .int .i64 m, .int .u64 y1, .int .u64 y2] 44))
      generalize (w.alloc (.cells (PA p) 33)).alloc (.cells #[.int .i64 2, .int .i64 (i : Int), .int .i64 a, .int .i64 q, .int .i64 m, .int .u64 y1, .int .u64 y2] 44) = w1 at *
      generalize w.heap.size + 1 = E at *
      generalize hK : w.heap.size = P at *
      have HK := hid hK
      clear hK
      have c0 := CX.out.2.1 0 _ rfl
      have c1 := CX.out.2.1 1 _ rfl
      have cst : w1.cell? ⟨P, 3 + i * 5, none⟩ = some (.int .i64 (p.s i).st) := P1.out.cs i 0 h64 (by omega)
      go_wp2_with fail
      go_ret
      exact ⟨by simp [b1, b3], by rw [HK.out]; exact HB.out⟩
  · cases b0 : ((p.s i).st == 2)
    all_goals
      go_enter Tryz.func85, Tryz.ntmps85
      go_upto_region 1 with (fail)
      have P1 := hid ((PoolAt.made (w := w) (p := p) (T := 33) rfl).alloc (.cells #[.int .i64 3, .int .i64 (i : Int), .int .i64 a, .int .i64 q, .int .i64 m, .int .u64 y1, .int .u64 y2] 44))
      have CX := hid (Ce.made (w := w.alloc (.cells (PA p) 33)) (l := [.int .i64 3, .int .i64 (i : Int), .int .i64 a, .int .i64 q, .int .i64 m, .int .u64 y1, .int .u64 y2]) (T := 44) (g := w.heap.size + 1) (by simp))
      have HB := hid (((Below.refl w.heap.size w).alloc (Nat.le_refl _) (.cells (PA p) 33)).alloc (by simp) (.cells #[.int .i64 3, .int .i64 (i : Int), .int .i64 a, .int .i64 q, .int .i64 m, .int .u64 y1, .int .u64 y2] 44))
      generalize (w.alloc (.cells (PA p) 33)).alloc (.cells #[.int .i64 3, .int .i64 (i : Int), .int .i64 a, .int .i64 q, .int .i64 m, .int .u64 y1, .int .u64 y2] 44) = w1 at *
      generalize w.heap.size + 1 = E at *
      generalize hK : w.heap.size = P at *
      have HK := hid hK
      clear hK
      have c0 := CX.out.2.1 0 _ rfl
      have c1 := CX.out.2.1 1 _ rfl
      have cst : w1.cell? ⟨P, 3 + i * 5, none⟩ = some (.int .i64 (p.s i).st) := P1.out.cs i 0 h64 (by omega)
      go_wp2_with fail
      go_ret
      exact ⟨by simp [b0], by rw [HK.out]; exact HB.out⟩
  · cases b1 : ((p.s i).st == 1) <;> cases b3 : ((p.s i).st == 3)
    all_goals
      go_enter Tryz.func85, Tryz.ntmps85
      go_upto_region 1 with (fail)
      have P1 := hid ((PoolAt.made (w := w) (p := p) (T := 33) rfl).alloc (.cells #[.int .i64 4, .int .i64 (i : Int), .int .i64 a, .int .i64 q, .int .i64 m, .int .u64 y1, .int .u64 y2] 44))
      have CX := hid (Ce.made (w := w.alloc (.cells (PA p) 33)) (l := [.int .i64 4, .int .i64 (i : Int), .int .i64 a, .int .i64 q, .int .i64 m, .int .u64 y1, .int .u64 y2]) (T := 44) (g := w.heap.size + 1) (by simp))
      have HB := hid (((Below.refl w.heap.size w).alloc (Nat.le_refl _) (.cells (PA p) 33)).alloc (by simp) (.cells #[.int .i64 4, .int .i64 (i : Int), .int .i64 a, .int .i64 q, .int .i64 m, .int .u64 y1, .int .u64 y2] 44))
      generalize (w.alloc (.cells (PA p) 33)).alloc (.cells #[.int .i64 4, .int .i64 (i : Int), .int .i64 a, .int .i64 q, .int .i64 m, .int .u64 y1, .int .u64 y2] 44) = w1 at *
      generalize w.heap.size + 1 = E at *
      generalize hK : w.heap.size = P at *
      have HK := hid hK
      clear hK
      have c0 := CX.out.2.1 0 _ rfl
      have c1 := CX.out.2.1 1 _ rfl
      have cst : w1.cell? ⟨P, 3 + i * 5, none⟩ = some (.int .i64 (p.s i).st) := P1.out.cs i 0 h64 (by omega)
      go_wp2_with fail
      go_ret
      exact ⟨by simp [b1, b3], by rw [HK.out]; exact HB.out⟩
  · cases b0 : ((p.s i).st == 4)
    all_goals
      go_enter Tryz.func85, Tryz.ntmps85
      go_upto_region 1 with (fail)
      have P1 := hid ((PoolAt.made (w := w) (p := p) (T := 33) rfl).alloc (.cells #[.int .i64 5, .int .i64 (i : Int), .int .i64 a, .int .i64 q, .int .i64 m, .int .u64 y1, .int .u64 y2] 44))
      have CX := hid (Ce.made (w := w.alloc (.cells (PA p) 33)) (l := [.int .i64 5, .int .i64 (i : Int), .int .i64 a, .int .i64 q, .int .i64 m, .int .u64 y1, .int .u64 y2]) (T := 44) (g := w.heap.size + 1) (by simp))
      have HB := hid (((Below.refl w.heap.size w).alloc (Nat.le_refl _) (.cells (PA p) 33)).alloc (by simp) (.cells #[.int .i64 5, .int .i64 (i : Int), .int .i64 a, .int .i64 q, .int .i64 m, .int .u64 y1, .int .u64 y2] 44))
      generalize (w.alloc (.cells (PA p) 33)).alloc (.cells #[.int .i64 5, .int .i64 (i : Int), .int .i64 a, .int .i64 q, .int .i64 m, .int .u64 y1, .int .u64 y2] 44) = w1 at *
      generalize w.heap.size + 1 = E at *
      generalize hK : w.heap.size = P at *
      have HK := hid hK
      clear hK
      have c0 := CX.out.2.1 0 _ rfl
      have c1 := CX.out.2.1 1 _ rfl
      have cst : w1.cell? ⟨P, 3 + i * 5, none⟩ = some (.int .i64 (p.s i).st) := P1.out.cs i 0 h64 (by omega)
      go_wp2_with fail
      go_ret
      exact ⟨by simp [b0], by rw [HK.out]; exact HB.out⟩
  · go_enter Tryz.func85, Tryz.ntmps85
    go_upto_region 1 with (fail)
    have P1 := hid ((PoolAt.made (w := w) (p := p) (T := 33) rfl).alloc (.cells #[.int .i64 6, .int .i64 (i : Int), .int .i64 a, .int .i64 q, .int .i64 m, .int .u64 y1, .int .u64 y2] 44))
    have CX := hid (Ce.made (w := w.alloc (.cells (PA p) 33)) (l := [.int .i64 6, .int .i64 (i : Int), .int .i64 a, .int .i64 q, .int .i64 m, .int .u64 y1, .int .u64 y2]) (T := 44) (g := w.heap.size + 1) (by simp))
    have HB := hid (((Below.refl w.heap.size w).alloc (Nat.le_refl _) (.cells (PA p) 33)).alloc (by simp) (.cells #[.int .i64 6, .int .i64 (i : Int), .int .i64 a, .int .i64 q, .int .i64 m, .int .u64 y1, .int .u64 y2] 44))
    generalize (w.alloc (.cells (PA p) 33)).alloc (.cells #[.int .i64 6, .int .i64 (i : Int), .int .i64 a, .int .i64 q, .int .i64 m, .int .u64 y1, .int .u64 y2] 44) = w1 at *
    generalize w.heap.size + 1 = E at *
    generalize hK : w.heap.size = P at *
    have HK := hid hK
    clear hK
    have c0 := CX.out.2.1 0 _ rfl
    have c1 := CX.out.2.1 1 _ rfl
    have cst : w1.cell? ⟨P, 3 + i * 5, none⟩ = some (.int .i64 (p.s i).st) := P1.out.cs i 0 h64 (by omega)
    go_wp2_with fail
    go_ret
    exact ⟨rfl, by rw [HK.out]; exact HB.out⟩
end Go.Proofs.YteefhiniamajkaaGreat
namespace Go.Proofs.YteefhiniamajkaaGreat
set_option linter.unusedVariables false
set_option linter.unusedSimpArgs false
open Go.RowKit Go.ChangeShapes Go.WideShapes Go.ChangeAt

set_option maxRecDepth 100000 in
set_option maxHeartbeats 4000000 in
theorem bad_any (p : Pl) (e : En) (i : Nat) (hi : e.s = i) (h64 : i < 64) (hk : 1 ≤ e.k ∧ e.k ≤ 6) (w : World) : Calls Tryz.prog 52 #[plV p, enV e] w fun x w' => x = .returned (.bool (!(fitB p e i))) ∧ Below w.heap.size w w' := by
  obtain ⟨k, s, a, q, m, y1, y2⟩ := e
  simp only at hi hk
  subst hi
  have i0 : (0 : Int) ≤ i := by omega
  have i1 : (i : Int) < 64 := by omega
  have TK := hid (fun w => held_any p a q w)
  unfold plV enV
  unfold fitB
  simp only
  generalize heldB p a q = hb at *
  have h6 : k = 1 ∨ k = 2 ∨ k = 3 ∨ k = 4 ∨ k = 5 ∨ k = 6 := by omega
  clear hk
  rcases h6 with rfl | rfl | rfl | rfl | rfl | rfl
  · cases b0 : ((p.s i).st == 0)
    · have n1 : ((p.s i).st != 0) = !((p.s i).st == 0) := rfl
      rw [b0] at n1
      go_enter Tryz.func52, Tryz.ntmps52
      go_upto_region 1 with (fail)
      have P1 := hid ((PoolAt.made (w := w) (p := p) (T := 33) rfl).alloc (.cells #[.int .i64 1, .int .i64 (i : Int), .int .i64 a, .int .i64 q, .int .i64 m, .int .u64 y1, .int .u64 y2] 44))
      have CX := hid (Ce.made (w := w.alloc (.cells (PA p) 33)) (l := [.int .i64 1, .int .i64 (i : Int), .int .i64 a, .int .i64 q, .int .i64 m, .int .u64 y1, .int .u64 y2]) (T := 44) (g := w.heap.size + 1) (by simp))
      have HB := hid (((Below.refl w.heap.size w).alloc (Nat.le_refl _) (.cells (PA p) 33)).alloc (by simp) (.cells #[.int .i64 1, .int .i64 (i : Int), .int .i64 a, .int .i64 q, .int .i64 m, .int .u64 y1, .int .u64 y2] 44))
      generalize (w.alloc (.cells (PA p) 33)).alloc (.cells #[.int .i64 1, .int .i64 (i : Int), .int .i64 a, .int .i64 q, .int .i64 m, .int .u64 y1, .int .u64 y2] 44) = w1 at *
      generalize w.heap.size + 1 = E at *
      generalize hK : w.heap.size = P at *
      have HK := hid hK
      clear hK
      have c0 := CX.out.2.1 0 _ rfl
      have c1 := CX.out.2.1 1 _ rfl
      have cst : w1.cell? ⟨P, 3 + i * 5, none⟩ = some (.int .i64 (p.s i).st) := P1.out.cs i 0 h64 (by omega)
      go_wp2_with fail
      go_ret
      exact ⟨by simp [b0], by rw [HK.out]; exact HB.out⟩
    · have n1 : ((p.s i).st != 0) = !((p.s i).st == 0) := rfl
      rw [b0] at n1
      go_enter Tryz.func52, Tryz.ntmps52
      go_upto_region 1 with (fail)
      have P1 := hid ((PoolAt.made (w := w) (p := p) (T := 33) rfl).alloc (.cells #[.int .i64 1, .int .i64 (i : Int), .int .i64 a, .int .i64 q, .int .i64 m, .int .u64 y1, .int .u64 y2] 44))
      have CX := hid (Ce.made (w := w.alloc (.cells (PA p) 33)) (l := [.int .i64 1, .int .i64 (i : Int), .int .i64 a, .int .i64 q, .int .i64 m, .int .u64 y1, .int .u64 y2]) (T := 44) (g := w.heap.size + 1) (by simp))
      have HB := hid (((Below.refl w.heap.size w).alloc (Nat.le_refl _) (.cells (PA p) 33)).alloc (by simp) (.cells #[.int .i64 1, .int .i64 (i : Int), .int .i64 a, .int .i64 q, .int .i64 m, .int .u64 y1, .int .u64 y2] 44))
      generalize (w.alloc (.cells (PA p) 33)).alloc (.cells #[.int .i64 1, .int .i64 (i : Int), .int .i64 a, .int .i64 q, .int .i64 m, .int .u64 y1, .int .u64 y2] 44) = w1 at *
      generalize w.heap.size + 1 = E at *
      generalize hK : w.heap.size = P at *
      have HK := hid hK
      clear hK
      have c0 := CX.out.2.1 0 _ rfl
      have c1 := CX.out.2.1 1 _ rfl
      have c2 := CX.out.2.1 2 _ rfl
      have c3 := CX.out.2.1 3 _ rfl
      have cst : w1.cell? ⟨P, 3 + i * 5, none⟩ = some (.int .i64 (p.s i).st) := P1.out.cs i 0 h64 (by omega)
      have LP := P1.out.load
      go_wp2_with (refine wl_load rfl rfl rfl LP ?_)
      refine (TK.out _).mono ?_
      rintro x w2 ⟨rfl, hb2⟩
      have HB3 := hid (HB.out.trans (hb2.mono (by have := HB.out.size; rw [HK.out] at this; exact this)))
      clear hb2 c0 c1 c2 c3 cst LP
      go_wp2_with fail
      go_ret
      exact ⟨by simp [b0], by rw [HK.out]; exact HB3.out⟩
  · cases b1 : ((p.s i).st == 1) <;> cases b3 : ((p.s i).st == 3)
    all_goals
      have n1 : ((p.s i).st != 1) = !((p.s i).st == 1) := rfl
      have n3 : ((p.s i).st != 3) = !((p.s i).st == 3) := rfl
      rw [b1] at n1
      rw [b3] at n3
      go_enter Tryz.func52, Tryz.ntmps52
      go_upto_region 1 with (fail)
      have P1 := hid ((PoolAt.made (w := w) (p := p) (T := 33) rfl).alloc (.cells #[.int .i64 2, .int .i64 (i : Int), .int .i64 a, .int .i64 q, .int .i64 m, .int .u64 y1, .int .u64 y2] 44))
      have CX := hid (Ce.made (w := w.alloc (.cells (PA p) 33)) (l := [.int .i64 2, .int .i64 (i : Int), .int .i64 a, .int .i64 q, .int .i64 m, .int .u64 y1, .int .u64 y2]) (T := 44) (g := w.heap.size + 1) (by simp))
      have HB := hid (((Below.refl w.heap.size w).alloc (Nat.le_refl _) (.cells (PA p) 33)).alloc (by simp) (.cells #[.int .i64 2, .int .i64 (i : Int), .int .i64 a, .int .i64 q, .int .i64 m, .int .u64 y1, .int .u64 y2] 44))
      generalize (w.alloc (.cells (PA p) 33)).alloc (.cells #[.int .i64 2, .int .i64 (i : Int), .int .i64 a, .int .i64 q, .int .i64 m, .int .u64 y1, .int .u64 y2] 44) = w1 at *
      generalize w.heap.size + 1 = E at *
      generalize hK : w.heap.size = P at *
      have HK := hid hK
      clear hK
      have c0 := CX.out.2.1 0 _ rfl
      have c1 := CX.out.2.1 1 _ rfl
      have cst : w1.cell? ⟨P, 3 + i * 5, none⟩ = some (.int .i64 (p.s i).st) := P1.out.cs i 0 h64 (by omega)
      go_wp2_with fail
      go_ret
      exact ⟨by simp [b1, b3], by rw [HK.out]; exact HB.out⟩
  · cases b0 : ((p.s i).st == 2)
    all_goals
      have n1 : ((p.s i).st != 2) = !((p.s i).st == 2) := rfl
      rw [b0] at n1
      go_enter Tryz.func52, Tryz.ntmps52
      go_upto_region 1 with (fail)
      have P1 := hid ((PoolAt.made (w := w) (p := p) (T := 33) rfl).alloc (.cells #[.int .i64 3, .int .i64 (i : Int), .int .i64 a, .int .i64 q, .int .i64 m, .int .u64 y1, .int .u64 y2] 44))
      have CX := hid (Ce.made (w := w.alloc (.cells (PA p) 33)) (l := [.int .i64 3, .int .i64 (i : Int), .int .i64 a, .int .i64 q, .int .i64 m, .int .u64 y1, .int .u64 y2]) (T := 44) (g := w.heap.size + 1) (by simp))
      have HB := hid (((Below.refl w.heap.size w).alloc (Nat.le_refl _) (.cells (PA p) 33)).alloc (by simp) (.cells #[.int .i64 3, .int .i64 (i : Int), .int .i64 a, .int .i64 q, .int .i64 m, .int .u64 y1, .int .u64 y2] 44))
      generalize (w.alloc (.cells (PA p) 33)).alloc (.cells #[.int .i64 3, .int .i64 (i : Int), .int .i64 a, .int .i64 q, .int .i64 m, .int .u64 y1, .int .u64 y2] 44) = w1 at *
      generalize w.heap.size + 1 = E at *
      generalize hK : w.heap.size = P at *
      have HK := hid hK
      clear hK
      have c0 := CX.out.2.1 0 _ rfl
      have c1 := CX.out.2.1 1 _ rfl
      have cst : w1.cell? ⟨P, 3 + i * 5, none⟩ = some (.int .i64 (p.s i).st) := P1.out.cs i 0 h64 (by omega)
      go_wp2_with fail
      go_ret
      exact ⟨by simp [b0], by rw [HK.out]; exact HB.out⟩
  · cases b1 : ((p.s i).st == 1) <;> cases b3 : ((p.s i).st == 3)
    all_goals
      have n1 : ((p.s i).st != 1) = !((p.s i).st == 1) := rfl
      have n3 : ((p.s i).st != 3) = !((p.s i).st == 3) := rfl
      rw [b1] at n1
      rw [b3] at n3
      go_enter Tryz.func52, Tryz.ntmps52
      go_upto_region 1 with (fail)
      have P1 := hid ((PoolAt.made (w := w) (p := p) (T := 33) rfl).alloc (.cells #[.int .i64 4, .int .i64 (i : Int), .int .i64 a, .int .i64 q, .int .i64 m, .int .u64 y1, .int .u64 y2] 44))
      have CX := hid (Ce.made (w := w.alloc (.cells (PA p) 33)) (l := [.int .i64 4, .int .i64 (i : Int), .int .i64 a, .int .i64 q, .int .i64 m, .int .u64 y1, .int .u64 y2]) (T := 44) (g := w.heap.size + 1) (by simp))
      have HB := hid (((Below.refl w.heap.size w).alloc (Nat.le_refl _) (.cells (PA p) 33)).alloc (by simp) (.cells #[.int .i64 4, .int .i64 (i : Int), .int .i64 a, .int .i64 q, .int .i64 m, .int .u64 y1, .int .u64 y2] 44))
      generalize (w.alloc (.cells (PA p) 33)).alloc (.cells #[.int .i64 4, .int .i64 (i : Int), .int .i64 a, .int .i64 q, .int .i64 m, .int .u64 y1, .int .u64 y2] 44) = w1 at *
      generalize w.heap.size + 1 = E at *
      generalize hK : w.heap.size = P at *
      have HK := hid hK
      clear hK
      have c0 := CX.out.2.1 0 _ rfl
      have c1 := CX.out.2.1 1 _ rfl
      have cst : w1.cell? ⟨P, 3 + i * 5, none⟩ = some (.int .i64 (p.s i).st) := P1.out.cs i 0 h64 (by omega)
      go_wp2_with fail
      go_ret
      exact ⟨by simp [b1, b3], by rw [HK.out]; exact HB.out⟩
  · cases b0 : ((p.s i).st == 4)
    all_goals
      have n1 : ((p.s i).st != 4) = !((p.s i).st == 4) := rfl
      rw [b0] at n1
      go_enter Tryz.func52, Tryz.ntmps52
      go_upto_region 1 with (fail)
      have P1 := hid ((PoolAt.made (w := w) (p := p) (T := 33) rfl).alloc (.cells #[.int .i64 5, .int .i64 (i : Int), .int .i64 a, .int .i64 q, .int .i64 m, .int .u64 y1, .int .u64 y2] 44))
      have CX := hid (Ce.made (w := w.alloc (.cells (PA p) 33)) (l := [.int .i64 5, .int .i64 (i : Int), .int .i64 a, .int .i64 q, .int .i64 m, .int .u64 y1, .int .u64 y2]) (T := 44) (g := w.heap.size + 1) (by simp))
      have HB := hid (((Below.refl w.heap.size w).alloc (Nat.le_refl _) (.cells (PA p) 33)).alloc (by simp) (.cells #[.int .i64 5, .int .i64 (i : Int), .int .i64 a, .int .i64 q, .int .i64 m, .int .u64 y1, .int .u64 y2] 44))
      generalize (w.alloc (.cells (PA p) 33)).alloc (.cells #[.int .i64 5, .int .i64 (i : Int), .int .i64 a, .int .i64 q, .int .i64 m, .int .u64 y1, .int .u64 y2] 44) = w1 at *
      generalize w.heap.size + 1 = E at *
      generalize hK : w.heap.size = P at *
      have HK := hid hK
      clear hK
      have c0 := CX.out.2.1 0 _ rfl
      have c1 := CX.out.2.1 1 _ rfl
      have cst : w1.cell? ⟨P, 3 + i * 5, none⟩ = some (.int .i64 (p.s i).st) := P1.out.cs i 0 h64 (by omega)
      go_wp2_with fail
      go_ret
      exact ⟨by simp [b0], by rw [HK.out]; exact HB.out⟩
  · go_enter Tryz.func52, Tryz.ntmps52
    go_upto_region 1 with (fail)
    have P1 := hid ((PoolAt.made (w := w) (p := p) (T := 33) rfl).alloc (.cells #[.int .i64 6, .int .i64 (i : Int), .int .i64 a, .int .i64 q, .int .i64 m, .int .u64 y1, .int .u64 y2] 44))
    have CX := hid (Ce.made (w := w.alloc (.cells (PA p) 33)) (l := [.int .i64 6, .int .i64 (i : Int), .int .i64 a, .int .i64 q, .int .i64 m, .int .u64 y1, .int .u64 y2]) (T := 44) (g := w.heap.size + 1) (by simp))
    have HB := hid (((Below.refl w.heap.size w).alloc (Nat.le_refl _) (.cells (PA p) 33)).alloc (by simp) (.cells #[.int .i64 6, .int .i64 (i : Int), .int .i64 a, .int .i64 q, .int .i64 m, .int .u64 y1, .int .u64 y2] 44))
    generalize (w.alloc (.cells (PA p) 33)).alloc (.cells #[.int .i64 6, .int .i64 (i : Int), .int .i64 a, .int .i64 q, .int .i64 m, .int .u64 y1, .int .u64 y2] 44) = w1 at *
    generalize w.heap.size + 1 = E at *
    generalize hK : w.heap.size = P at *
    have HK := hid hK
    clear hK
    have c0 := CX.out.2.1 0 _ rfl
    have c1 := CX.out.2.1 1 _ rfl
    have cst : w1.cell? ⟨P, 3 + i * 5, none⟩ = some (.int .i64 (p.s i).st) := P1.out.cs i 0 h64 (by omega)
    go_wp2_with fail
    go_ret
    exact ⟨rfl, by rw [HK.out]; exact HB.out⟩
end Go.Proofs.YteefhiniamajkaaGreat
namespace Go.Proofs.YteefhiniamajkaaGreat
set_option linter.unusedVariables false
set_option linter.unusedSimpArgs false
open Go.RowKit Go.ChangeShapes Go.WideShapes Go.ChangeAt

set_option maxRecDepth 100000 in
set_option maxHeartbeats 4000000 in
theorem changed_any (p : Pl) (e : En) (i : Nat) (hi : e.s = i) (h64 : i < 64) (hk : 1 ≤ e.k ∧ e.k ≤ 5) (w : World) : Calls Tryz.prog 79 #[plV p, enV e] w fun x w' => x = .returned (spV (chS p e i)) ∧ Below w.heap.size w w' := by
  obtain ⟨k, s, a, q, m, y1, y2⟩ := e
  simp only at hi hk
  subst hi
  have i0 : (0 : Int) ≤ i := by omega
  have i1 : (i : Int) < 64 := by omega
  unfold plV enV chS spV
  simp only
  have h6 : k = 1 ∨ k = 2 ∨ k = 3 ∨ k = 4 ∨ k = 5 := by omega
  clear hk
  rcases h6 with rfl | rfl | rfl | rfl | rfl
  · simp only [show ((1 : Int) == 1) = true from rfl, show ((1 : Int) == 2) = false from rfl, show ((1 : Int) == 3) = false from rfl, show ((1 : Int) == 4) = false from rfl, show ((1 : Int) == 5) = false from rfl, cond_true, cond_false]
    obtain ⟨sl, hsl⟩ : ∃ sl, sl = p.s i := ⟨_, rfl⟩
    try rw [← hsl]
    obtain ⟨st, ad, po, we, si⟩ := sl
    have HSL := hid hsl
    clear hsl
    try simp only
    go_enter Tryz.func79, Tryz.ntmps79
    go_upto_region 1 with (fail)
    have P1 := hid (((PoolAt.made (w := w) (p := p) (T := 33) rfl).alloc (.cells #[.int .i64 1, .int .i64 (i : Int), .int .i64 a, .int .i64 q, .int .i64 m, .int .u64 y1, .int .u64 y2] 44)).alloc (.cells #[.int .i64 0, .int .i64 0, .int .i64 0, .int .i64 0, .int .i64 0] 25))
    have CX := hid ((Ce.made (w := w.alloc (.cells (PA p) 33)) (l := [.int .i64 1, .int .i64 (i : Int), .int .i64 a, .int .i64 q, .int .i64 m, .int .u64 y1, .int .u64 y2]) (T := 44) (g := w.heap.size + 1) (by simp)).alloc (.cells #[.int .i64 0, .int .i64 0, .int .i64 0, .int .i64 0, .int .i64 0] 25))
    have CR := hid (Ce.made (w := ((w.alloc (.cells (PA p) 33)).alloc (.cells #[.int .i64 1, .int .i64 (i : Int), .int .i64 a, .int .i64 q, .int .i64 m, .int .u64 y1, .int .u64 y2] 44))) (l := [.int .i64 0, .int .i64 0, .int .i64 0, .int .i64 0, .int .i64 0]) (T := 25) (g := w.heap.size + 1 + 1) (by simp))
    have HB := hid ((((Below.refl w.heap.size w).alloc (Nat.le_refl _) (.cells (PA p) 33)).alloc (by simp) (.cells #[.int .i64 1, .int .i64 (i : Int), .int .i64 a, .int .i64 q, .int .i64 m, .int .u64 y1, .int .u64 y2] 44)).alloc (by simp; omega) (.cells #[.int .i64 0, .int .i64 0, .int .i64 0, .int .i64 0, .int .i64 0] 25))
    have lR : w.heap.size ≤ w.heap.size + 1 + 1 := by omega
    generalize (((w.alloc (.cells (PA p) 33)).alloc (.cells #[.int .i64 1, .int .i64 (i : Int), .int .i64 a, .int .i64 q, .int .i64 m, .int .u64 y1, .int .u64 y2] 44))).alloc (.cells #[.int .i64 0, .int .i64 0, .int .i64 0, .int .i64 0, .int .i64 0] 25) = w1 at *
    generalize w.heap.size + 1 + 1 = R at *
    generalize w.heap.size + 1 = E at *
    generalize hK : w.heap.size = P at *
    have HK := hid hK
    clear hK
    have c1 := CX.out.2.1 1 _ rfl
    have LK := P1.out.loadK i h64
    rw [← HSL.out] at LK
    unfold spV at LK
    simp only at LK
    go_upto_region 2 with (refine wl_load rfl rfl rfl LK ?_)
    clear c1 LK
    have dRS : R ≠ w1.heap.size := Nat.ne_of_lt CR.out.1
    have dSR : w1.heap.size ≠ R := Ne.symm dRS
    have lS : P ≤ w1.heap.size := by have := HB.out.size; rw [HK.out] at this; exact this
    have P2 := hid (P1.out.alloc (.cells #[.int .i64 st, .int .i64 ad, .int .i64 po, .int .i64 we, .int .i64 si] 25))
    have CX2 := hid (CX.out.alloc (.cells #[.int .i64 st, .int .i64 ad, .int .i64 po, .int .i64 we, .int .i64 si] 25))
    have CR2 := hid (CR.out.alloc (.cells #[.int .i64 st, .int .i64 ad, .int .i64 po, .int .i64 we, .int .i64 si] 25))
    have CS := hid (Ce.made (w := w1) (l := [.int .i64 st, .int .i64 ad, .int .i64 po, .int .i64 we, .int .i64 si]) (T := 25) (g := w1.heap.size) rfl)
    have HB2 := hid (HB.out.alloc lS (.cells #[.int .i64 st, .int .i64 ad, .int .i64 po, .int .i64 we, .int .i64 si] 25))
    clear P1 CX CR HB
    generalize w1.alloc (.cells #[.int .i64 st, .int .i64 ad, .int .i64 po, .int .i64 we, .int .i64 si] 25) = w2 at *
    generalize w1.heap.size = S at *
    have c0 := CX2.out.2.1 0 _ rfl
    have c2 := CX2.out.2.1 2 _ rfl
    have c3 := CX2.out.2.1 3 _ rfl
    have c4 := CX2.out.2.1 4 _ rfl
    have r0 := CR2.out.2.1 0 _ rfl
    have f0 := CR2.out.2.2 0
    have s0 := CS.out.2.1 0 _ rfl
    have r1 := CR2.out.2.1 1 _ rfl
    have f1 := CR2.out.2.2 1
    have s1 := CS.out.2.1 1 _ rfl
    have r2 := CR2.out.2.1 2 _ rfl
    have f2 := CR2.out.2.2 2
    have s2 := CS.out.2.1 2 _ rfl
    have r3 := CR2.out.2.1 3 _ rfl
    have f3 := CR2.out.2.2 3
    have s3 := CS.out.2.1 3 _ rfl
    have r4 := CR2.out.2.1 4 _ rfl
    have f4 := CR2.out.2.2 4
    have s4 := CS.out.2.1 4 _ rfl
    have g0 := CS.out.2.2 0
    have g4 := CS.out.2.2 4
    go_wp2_with fail
    refine bodyPost_ret (by simp [results, Tryz.results79, go_sem, zSp, r0, r1, r2, r3, r4, s0, s1, s2, s3, s4, dRS, dSR]) rfl ⟨rfl, ?_⟩
    rw [HK.out]
    repeat' (first | with_reducible exact HB2.out | with_reducible refine Below.drew ?_ | with_reducible refine Below.setCell ?_ (by first | exact lS | exact lR) _)
  · simp only [show ((2 : Int) == 1) = false from rfl, show ((2 : Int) == 2) = true from rfl, show ((2 : Int) == 3) = false from rfl, show ((2 : Int) == 4) = false from rfl, show ((2 : Int) == 5) = false from rfl, cond_true, cond_false]
    obtain ⟨sl, hsl⟩ : ∃ sl, sl = p.s i := ⟨_, rfl⟩
    try rw [← hsl]
    obtain ⟨st, ad, po, we, si⟩ := sl
    have HSL := hid hsl
    clear hsl
    try simp only
    go_enter Tryz.func79, Tryz.ntmps79
    go_upto_region 1 with (fail)
    have P1 := hid (((PoolAt.made (w := w) (p := p) (T := 33) rfl).alloc (.cells #[.int .i64 2, .int .i64 (i : Int), .int .i64 a, .int .i64 q, .int .i64 m, .int .u64 y1, .int .u64 y2] 44)).alloc (.cells #[.int .i64 0, .int .i64 0, .int .i64 0, .int .i64 0, .int .i64 0] 25))
    have CX := hid ((Ce.made (w := w.alloc (.cells (PA p) 33)) (l := [.int .i64 2, .int .i64 (i : Int), .int .i64 a, .int .i64 q, .int .i64 m, .int .u64 y1, .int .u64 y2]) (T := 44) (g := w.heap.size + 1) (by simp)).alloc (.cells #[.int .i64 0, .int .i64 0, .int .i64 0, .int .i64 0, .int .i64 0] 25))
    have CR := hid (Ce.made (w := ((w.alloc (.cells (PA p) 33)).alloc (.cells #[.int .i64 2, .int .i64 (i : Int), .int .i64 a, .int .i64 q, .int .i64 m, .int .u64 y1, .int .u64 y2] 44))) (l := [.int .i64 0, .int .i64 0, .int .i64 0, .int .i64 0, .int .i64 0]) (T := 25) (g := w.heap.size + 1 + 1) (by simp))
    have HB := hid ((((Below.refl w.heap.size w).alloc (Nat.le_refl _) (.cells (PA p) 33)).alloc (by simp) (.cells #[.int .i64 2, .int .i64 (i : Int), .int .i64 a, .int .i64 q, .int .i64 m, .int .u64 y1, .int .u64 y2] 44)).alloc (by simp; omega) (.cells #[.int .i64 0, .int .i64 0, .int .i64 0, .int .i64 0, .int .i64 0] 25))
    have lR : w.heap.size ≤ w.heap.size + 1 + 1 := by omega
    generalize (((w.alloc (.cells (PA p) 33)).alloc (.cells #[.int .i64 2, .int .i64 (i : Int), .int .i64 a, .int .i64 q, .int .i64 m, .int .u64 y1, .int .u64 y2] 44))).alloc (.cells #[.int .i64 0, .int .i64 0, .int .i64 0, .int .i64 0, .int .i64 0] 25) = w1 at *
    generalize w.heap.size + 1 + 1 = R at *
    generalize w.heap.size + 1 = E at *
    generalize hK : w.heap.size = P at *
    have HK := hid hK
    clear hK
    have c1 := CX.out.2.1 1 _ rfl
    have LK := P1.out.loadK i h64
    rw [← HSL.out] at LK
    unfold spV at LK
    simp only at LK
    go_upto_region 2 with (refine wl_load rfl rfl rfl LK ?_)
    clear c1 LK
    have dRS : R ≠ w1.heap.size := Nat.ne_of_lt CR.out.1
    have dSR : w1.heap.size ≠ R := Ne.symm dRS
    have lS : P ≤ w1.heap.size := by have := HB.out.size; rw [HK.out] at this; exact this
    have P2 := hid (P1.out.alloc (.cells #[.int .i64 st, .int .i64 ad, .int .i64 po, .int .i64 we, .int .i64 si] 25))
    have CX2 := hid (CX.out.alloc (.cells #[.int .i64 st, .int .i64 ad, .int .i64 po, .int .i64 we, .int .i64 si] 25))
    have CR2 := hid (CR.out.alloc (.cells #[.int .i64 st, .int .i64 ad, .int .i64 po, .int .i64 we, .int .i64 si] 25))
    have CS := hid (Ce.made (w := w1) (l := [.int .i64 st, .int .i64 ad, .int .i64 po, .int .i64 we, .int .i64 si]) (T := 25) (g := w1.heap.size) rfl)
    have HB2 := hid (HB.out.alloc lS (.cells #[.int .i64 st, .int .i64 ad, .int .i64 po, .int .i64 we, .int .i64 si] 25))
    clear P1 CX CR HB
    generalize w1.alloc (.cells #[.int .i64 st, .int .i64 ad, .int .i64 po, .int .i64 we, .int .i64 si] 25) = w2 at *
    generalize w1.heap.size = S at *
    have c0 := CX2.out.2.1 0 _ rfl
    have c2 := CX2.out.2.1 2 _ rfl
    have c3 := CX2.out.2.1 3 _ rfl
    have c4 := CX2.out.2.1 4 _ rfl
    have r0 := CR2.out.2.1 0 _ rfl
    have f0 := CR2.out.2.2 0
    have s0 := CS.out.2.1 0 _ rfl
    have r1 := CR2.out.2.1 1 _ rfl
    have f1 := CR2.out.2.2 1
    have s1 := CS.out.2.1 1 _ rfl
    have r2 := CR2.out.2.1 2 _ rfl
    have f2 := CR2.out.2.2 2
    have s2 := CS.out.2.1 2 _ rfl
    have r3 := CR2.out.2.1 3 _ rfl
    have f3 := CR2.out.2.2 3
    have s3 := CS.out.2.1 3 _ rfl
    have r4 := CR2.out.2.1 4 _ rfl
    have f4 := CR2.out.2.2 4
    have s4 := CS.out.2.1 4 _ rfl
    have g0 := CS.out.2.2 0
    have g4 := CS.out.2.2 4
    go_wp2_with fail
    refine bodyPost_ret (by simp [results, Tryz.results79, go_sem, zSp, r0, r1, r2, r3, r4, s0, s1, s2, s3, s4, dRS, dSR]) rfl ⟨rfl, ?_⟩
    rw [HK.out]
    repeat' (first | with_reducible exact HB2.out | with_reducible refine Below.drew ?_ | with_reducible refine Below.setCell ?_ (by first | exact lS | exact lR) _)
  · simp only [show ((3 : Int) == 1) = false from rfl, show ((3 : Int) == 2) = false from rfl, show ((3 : Int) == 3) = true from rfl, show ((3 : Int) == 4) = false from rfl, show ((3 : Int) == 5) = false from rfl, cond_true, cond_false]
    obtain ⟨sl, hsl⟩ : ∃ sl, sl = p.s i := ⟨_, rfl⟩
    try rw [← hsl]
    obtain ⟨st, ad, po, we, si⟩ := sl
    have HSL := hid hsl
    clear hsl
    try simp only
    go_enter Tryz.func79, Tryz.ntmps79
    go_upto_region 1 with (fail)
    have P1 := hid (((PoolAt.made (w := w) (p := p) (T := 33) rfl).alloc (.cells #[.int .i64 3, .int .i64 (i : Int), .int .i64 a, .int .i64 q, .int .i64 m, .int .u64 y1, .int .u64 y2] 44)).alloc (.cells #[.int .i64 0, .int .i64 0, .int .i64 0, .int .i64 0, .int .i64 0] 25))
    have CX := hid ((Ce.made (w := w.alloc (.cells (PA p) 33)) (l := [.int .i64 3, .int .i64 (i : Int), .int .i64 a, .int .i64 q, .int .i64 m, .int .u64 y1, .int .u64 y2]) (T := 44) (g := w.heap.size + 1) (by simp)).alloc (.cells #[.int .i64 0, .int .i64 0, .int .i64 0, .int .i64 0, .int .i64 0] 25))
    have CR := hid (Ce.made (w := ((w.alloc (.cells (PA p) 33)).alloc (.cells #[.int .i64 3, .int .i64 (i : Int), .int .i64 a, .int .i64 q, .int .i64 m, .int .u64 y1, .int .u64 y2] 44))) (l := [.int .i64 0, .int .i64 0, .int .i64 0, .int .i64 0, .int .i64 0]) (T := 25) (g := w.heap.size + 1 + 1) (by simp))
    have HB := hid ((((Below.refl w.heap.size w).alloc (Nat.le_refl _) (.cells (PA p) 33)).alloc (by simp) (.cells #[.int .i64 3, .int .i64 (i : Int), .int .i64 a, .int .i64 q, .int .i64 m, .int .u64 y1, .int .u64 y2] 44)).alloc (by simp; omega) (.cells #[.int .i64 0, .int .i64 0, .int .i64 0, .int .i64 0, .int .i64 0] 25))
    have lR : w.heap.size ≤ w.heap.size + 1 + 1 := by omega
    generalize (((w.alloc (.cells (PA p) 33)).alloc (.cells #[.int .i64 3, .int .i64 (i : Int), .int .i64 a, .int .i64 q, .int .i64 m, .int .u64 y1, .int .u64 y2] 44))).alloc (.cells #[.int .i64 0, .int .i64 0, .int .i64 0, .int .i64 0, .int .i64 0] 25) = w1 at *
    generalize w.heap.size + 1 + 1 = R at *
    generalize w.heap.size + 1 = E at *
    generalize hK : w.heap.size = P at *
    have HK := hid hK
    clear hK
    have c1 := CX.out.2.1 1 _ rfl
    have LK := P1.out.loadK i h64
    rw [← HSL.out] at LK
    unfold spV at LK
    simp only at LK
    go_upto_region 2 with (refine wl_load rfl rfl rfl LK ?_)
    clear c1 LK
    have dRS : R ≠ w1.heap.size := Nat.ne_of_lt CR.out.1
    have dSR : w1.heap.size ≠ R := Ne.symm dRS
    have lS : P ≤ w1.heap.size := by have := HB.out.size; rw [HK.out] at this; exact this
    have P2 := hid (P1.out.alloc (.cells #[.int .i64 st, .int .i64 ad, .int .i64 po, .int .i64 we, .int .i64 si] 25))
    have CX2 := hid (CX.out.alloc (.cells #[.int .i64 st, .int .i64 ad, .int .i64 po, .int .i64 we, .int .i64 si] 25))
    have CR2 := hid (CR.out.alloc (.cells #[.int .i64 st, .int .i64 ad, .int .i64 po, .int .i64 we, .int .i64 si] 25))
    have CS := hid (Ce.made (w := w1) (l := [.int .i64 st, .int .i64 ad, .int .i64 po, .int .i64 we, .int .i64 si]) (T := 25) (g := w1.heap.size) rfl)
    have HB2 := hid (HB.out.alloc lS (.cells #[.int .i64 st, .int .i64 ad, .int .i64 po, .int .i64 we, .int .i64 si] 25))
    clear P1 CX CR HB
    generalize w1.alloc (.cells #[.int .i64 st, .int .i64 ad, .int .i64 po, .int .i64 we, .int .i64 si] 25) = w2 at *
    generalize w1.heap.size = S at *
    have c0 := CX2.out.2.1 0 _ rfl
    have c2 := CX2.out.2.1 2 _ rfl
    have c3 := CX2.out.2.1 3 _ rfl
    have c4 := CX2.out.2.1 4 _ rfl
    have r0 := CR2.out.2.1 0 _ rfl
    have f0 := CR2.out.2.2 0
    have s0 := CS.out.2.1 0 _ rfl
    have r1 := CR2.out.2.1 1 _ rfl
    have f1 := CR2.out.2.2 1
    have s1 := CS.out.2.1 1 _ rfl
    have r2 := CR2.out.2.1 2 _ rfl
    have f2 := CR2.out.2.2 2
    have s2 := CS.out.2.1 2 _ rfl
    have r3 := CR2.out.2.1 3 _ rfl
    have f3 := CR2.out.2.2 3
    have s3 := CS.out.2.1 3 _ rfl
    have r4 := CR2.out.2.1 4 _ rfl
    have f4 := CR2.out.2.2 4
    have s4 := CS.out.2.1 4 _ rfl
    have g0 := CS.out.2.2 0
    have g4 := CS.out.2.2 4
    go_wp2_with fail
    refine bodyPost_ret (by simp [results, Tryz.results79, go_sem, zSp, r0, r1, r2, r3, r4, s0, s1, s2, s3, s4, dRS, dSR]) rfl ⟨rfl, ?_⟩
    rw [HK.out]
    repeat' (first | with_reducible exact HB2.out | with_reducible refine Below.drew ?_ | with_reducible refine Below.setCell ?_ (by first | exact lS | exact lR) _)
  · simp only [show ((4 : Int) == 1) = false from rfl, show ((4 : Int) == 2) = false from rfl, show ((4 : Int) == 3) = false from rfl, show ((4 : Int) == 4) = true from rfl, show ((4 : Int) == 5) = false from rfl, cond_true, cond_false]
    obtain ⟨sl, hsl⟩ : ∃ sl, sl = p.s i := ⟨_, rfl⟩
    try rw [← hsl]
    obtain ⟨st, ad, po, we, si⟩ := sl
    have HSL := hid hsl
    clear hsl
    try simp only
    go_enter Tryz.func79, Tryz.ntmps79
    go_upto_region 1 with (fail)
    have P1 := hid (((PoolAt.made (w := w) (p := p) (T := 33) rfl).alloc (.cells #[.int .i64 4, .int .i64 (i : Int), .int .i64 a, .int .i64 q, .int .i64 m, .int .u64 y1, .int .u64 y2] 44)).alloc (.cells #[.int .i64 0, .int .i64 0, .int .i64 0, .int .i64 0, .int .i64 0] 25))
    have CX := hid ((Ce.made (w := w.alloc (.cells (PA p) 33)) (l := [.int .i64 4, .int .i64 (i : Int), .int .i64 a, .int .i64 q, .int .i64 m, .int .u64 y1, .int .u64 y2]) (T := 44) (g := w.heap.size + 1) (by simp)).alloc (.cells #[.int .i64 0, .int .i64 0, .int .i64 0, .int .i64 0, .int .i64 0] 25))
    have CR := hid (Ce.made (w := ((w.alloc (.cells (PA p) 33)).alloc (.cells #[.int .i64 4, .int .i64 (i : Int), .int .i64 a, .int .i64 q, .int .i64 m, .int .u64 y1, .int .u64 y2] 44))) (l := [.int .i64 0, .int .i64 0, .int .i64 0, .int .i64 0, .int .i64 0]) (T := 25) (g := w.heap.size + 1 + 1) (by simp))
    have HB := hid ((((Below.refl w.heap.size w).alloc (Nat.le_refl _) (.cells (PA p) 33)).alloc (by simp) (.cells #[.int .i64 4, .int .i64 (i : Int), .int .i64 a, .int .i64 q, .int .i64 m, .int .u64 y1, .int .u64 y2] 44)).alloc (by simp; omega) (.cells #[.int .i64 0, .int .i64 0, .int .i64 0, .int .i64 0, .int .i64 0] 25))
    have lR : w.heap.size ≤ w.heap.size + 1 + 1 := by omega
    generalize (((w.alloc (.cells (PA p) 33)).alloc (.cells #[.int .i64 4, .int .i64 (i : Int), .int .i64 a, .int .i64 q, .int .i64 m, .int .u64 y1, .int .u64 y2] 44))).alloc (.cells #[.int .i64 0, .int .i64 0, .int .i64 0, .int .i64 0, .int .i64 0] 25) = w1 at *
    generalize w.heap.size + 1 + 1 = R at *
    generalize w.heap.size + 1 = E at *
    generalize hK : w.heap.size = P at *
    have HK := hid hK
    clear hK
    have c1 := CX.out.2.1 1 _ rfl
    have LK := P1.out.loadK i h64
    have EPw : Hid (PoolAt w1 P p) := P1
    have HEP := hid (rfl : p.r.e = p.r.e)
    rw [← HSL.out] at LK
    unfold spV at LK
    simp only at LK
    go_upto_region 2 with (refine wl_load rfl rfl rfl LK ?_)
    clear c1 LK
    have dRS : R ≠ w1.heap.size := Nat.ne_of_lt CR.out.1
    have dSR : w1.heap.size ≠ R := Ne.symm dRS
    have lS : P ≤ w1.heap.size := by have := HB.out.size; rw [HK.out] at this; exact this
    have P2 := hid (P1.out.alloc (.cells #[.int .i64 st, .int .i64 ad, .int .i64 po, .int .i64 we, .int .i64 si] 25))
    have CX2 := hid (CX.out.alloc (.cells #[.int .i64 st, .int .i64 ad, .int .i64 po, .int .i64 we, .int .i64 si] 25))
    have CR2 := hid (CR.out.alloc (.cells #[.int .i64 st, .int .i64 ad, .int .i64 po, .int .i64 we, .int .i64 si] 25))
    have CS := hid (Ce.made (w := w1) (l := [.int .i64 st, .int .i64 ad, .int .i64 po, .int .i64 we, .int .i64 si]) (T := 25) (g := w1.heap.size) rfl)
    have HB2 := hid (HB.out.alloc lS (.cells #[.int .i64 st, .int .i64 ad, .int .i64 po, .int .i64 we, .int .i64 si] 25))
    clear P1 CX CR HB
    generalize w1.alloc (.cells #[.int .i64 st, .int .i64 ad, .int .i64 po, .int .i64 we, .int .i64 si] 25) = w2 at *
    generalize w1.heap.size = S at *
    have c0 := CX2.out.2.1 0 _ rfl
    have c2 := CX2.out.2.1 2 _ rfl
    have c3 := CX2.out.2.1 3 _ rfl
    have c4 := CX2.out.2.1 4 _ rfl
    have cep : w2.cell? ⟨P, 323, none⟩ = some (.int .i64 p.r.e) := P2.out.cr 0 (by omega)
    have r0 := CR2.out.2.1 0 _ rfl
    have f0 := CR2.out.2.2 0
    have s0 := CS.out.2.1 0 _ rfl
    have r1 := CR2.out.2.1 1 _ rfl
    have f1 := CR2.out.2.2 1
    have s1 := CS.out.2.1 1 _ rfl
    have r2 := CR2.out.2.1 2 _ rfl
    have f2 := CR2.out.2.2 2
    have s2 := CS.out.2.1 2 _ rfl
    have r3 := CR2.out.2.1 3 _ rfl
    have f3 := CR2.out.2.2 3
    have s3 := CS.out.2.1 3 _ rfl
    have r4 := CR2.out.2.1 4 _ rfl
    have f4 := CR2.out.2.2 4
    have s4 := CS.out.2.1 4 _ rfl
    have g0 := CS.out.2.2 0
    have g4 := CS.out.2.2 4
    go_upto_region 12 with (fail)
    go_region
    all_goals go_wp2_with fail
    all_goals (refine bodyPost_ret (by simp [results, Tryz.results79, go_sem, r0, r1, r2, r3, r4, s0, s1, s2, s3, s4, dRS, dSR]) rfl ⟨rfl, ?_⟩)
    all_goals rw [HK.out]
    all_goals (repeat' (first | with_reducible exact HB2.out | with_reducible refine Below.drew ?_ | with_reducible refine Below.setCell ?_ (by first | exact lS | exact lR) _))
  · simp only [show ((5 : Int) == 1) = false from rfl, show ((5 : Int) == 2) = false from rfl, show ((5 : Int) == 3) = false from rfl, show ((5 : Int) == 4) = false from rfl, show ((5 : Int) == 5) = true from rfl, cond_true, cond_false]
    obtain ⟨sl, hsl⟩ : ∃ sl, sl = p.s i := ⟨_, rfl⟩
    try rw [← hsl]
    obtain ⟨st, ad, po, we, si⟩ := sl
    have HSL := hid hsl
    clear hsl
    try simp only
    go_enter Tryz.func79, Tryz.ntmps79
    go_upto_region 1 with (fail)
    have P1 := hid (((PoolAt.made (w := w) (p := p) (T := 33) rfl).alloc (.cells #[.int .i64 5, .int .i64 (i : Int), .int .i64 a, .int .i64 q, .int .i64 m, .int .u64 y1, .int .u64 y2] 44)).alloc (.cells #[.int .i64 0, .int .i64 0, .int .i64 0, .int .i64 0, .int .i64 0] 25))
    have CX := hid ((Ce.made (w := w.alloc (.cells (PA p) 33)) (l := [.int .i64 5, .int .i64 (i : Int), .int .i64 a, .int .i64 q, .int .i64 m, .int .u64 y1, .int .u64 y2]) (T := 44) (g := w.heap.size + 1) (by simp)).alloc (.cells #[.int .i64 0, .int .i64 0, .int .i64 0, .int .i64 0, .int .i64 0] 25))
    have CR := hid (Ce.made (w := ((w.alloc (.cells (PA p) 33)).alloc (.cells #[.int .i64 5, .int .i64 (i : Int), .int .i64 a, .int .i64 q, .int .i64 m, .int .u64 y1, .int .u64 y2] 44))) (l := [.int .i64 0, .int .i64 0, .int .i64 0, .int .i64 0, .int .i64 0]) (T := 25) (g := w.heap.size + 1 + 1) (by simp))
    have HB := hid ((((Below.refl w.heap.size w).alloc (Nat.le_refl _) (.cells (PA p) 33)).alloc (by simp) (.cells #[.int .i64 5, .int .i64 (i : Int), .int .i64 a, .int .i64 q, .int .i64 m, .int .u64 y1, .int .u64 y2] 44)).alloc (by simp; omega) (.cells #[.int .i64 0, .int .i64 0, .int .i64 0, .int .i64 0, .int .i64 0] 25))
    have lR : w.heap.size ≤ w.heap.size + 1 + 1 := by omega
    generalize (((w.alloc (.cells (PA p) 33)).alloc (.cells #[.int .i64 5, .int .i64 (i : Int), .int .i64 a, .int .i64 q, .int .i64 m, .int .u64 y1, .int .u64 y2] 44))).alloc (.cells #[.int .i64 0, .int .i64 0, .int .i64 0, .int .i64 0, .int .i64 0] 25) = w1 at *
    generalize w.heap.size + 1 + 1 = R at *
    generalize w.heap.size + 1 = E at *
    generalize hK : w.heap.size = P at *
    have HK := hid hK
    clear hK
    have c1 := CX.out.2.1 1 _ rfl
    have LK := P1.out.loadK i h64
    rw [← HSL.out] at LK
    unfold spV at LK
    simp only at LK
    go_upto_region 2 with (refine wl_load rfl rfl rfl LK ?_)
    clear c1 LK
    have dRS : R ≠ w1.heap.size := Nat.ne_of_lt CR.out.1
    have dSR : w1.heap.size ≠ R := Ne.symm dRS
    have lS : P ≤ w1.heap.size := by have := HB.out.size; rw [HK.out] at this; exact this
    have P2 := hid (P1.out.alloc (.cells #[.int .i64 st, .int .i64 ad, .int .i64 po, .int .i64 we, .int .i64 si] 25))
    have CX2 := hid (CX.out.alloc (.cells #[.int .i64 st, .int .i64 ad, .int .i64 po, .int .i64 we, .int .i64 si] 25))
    have CR2 := hid (CR.out.alloc (.cells #[.int .i64 st, .int .i64 ad, .int .i64 po, .int .i64 we, .int .i64 si] 25))
    have CS := hid (Ce.made (w := w1) (l := [.int .i64 st, .int .i64 ad, .int .i64 po, .int .i64 we, .int .i64 si]) (T := 25) (g := w1.heap.size) rfl)
    have HB2 := hid (HB.out.alloc lS (.cells #[.int .i64 st, .int .i64 ad, .int .i64 po, .int .i64 we, .int .i64 si] 25))
    clear P1 CX CR HB
    generalize w1.alloc (.cells #[.int .i64 st, .int .i64 ad, .int .i64 po, .int .i64 we, .int .i64 si] 25) = w2 at *
    generalize w1.heap.size = S at *
    have c0 := CX2.out.2.1 0 _ rfl
    have c2 := CX2.out.2.1 2 _ rfl
    have c3 := CX2.out.2.1 3 _ rfl
    have c4 := CX2.out.2.1 4 _ rfl
    have r0 := CR2.out.2.1 0 _ rfl
    have f0 := CR2.out.2.2 0
    have s0 := CS.out.2.1 0 _ rfl
    have r1 := CR2.out.2.1 1 _ rfl
    have f1 := CR2.out.2.2 1
    have s1 := CS.out.2.1 1 _ rfl
    have r2 := CR2.out.2.1 2 _ rfl
    have f2 := CR2.out.2.2 2
    have s2 := CS.out.2.1 2 _ rfl
    have r3 := CR2.out.2.1 3 _ rfl
    have f3 := CR2.out.2.2 3
    have s3 := CS.out.2.1 3 _ rfl
    have r4 := CR2.out.2.1 4 _ rfl
    have f4 := CR2.out.2.2 4
    have s4 := CS.out.2.1 4 _ rfl
    have g0 := CS.out.2.2 0
    have g4 := CS.out.2.2 4
    go_wp2_with fail
    refine bodyPost_ret (by simp [results, Tryz.results79, go_sem, zSp, r0, r1, r2, r3, r4, s0, s1, s2, s3, s4, dRS, dSR]) rfl ⟨rfl, ?_⟩
    rw [HK.out]
    repeat' (first | with_reducible exact HB2.out | with_reducible refine Below.drew ?_ | with_reducible refine Below.setCell ?_ (by first | exact lS | exact lR) _)
end Go.Proofs.YteefhiniamajkaaGreat
namespace Go.Proofs.YteefhiniamajkaaGreat
set_option linter.unusedVariables false
set_option linter.unusedSimpArgs false
open Go.RowKit Go.ChangeShapes Go.WideShapes Go.ChangeAt

set_option maxRecDepth 100000 in
set_option maxHeartbeats 4000000 in
theorem refused_any (p : Pl) (e : En) (i : Nat) (hi : e.s = i) (h64 : i < 64) (hk : 1 ≤ e.k ∧ e.k ≤ 6) (hs : -1152921504606846976 ≤ (p.s i).si ∧ (p.s i).si ≤ 1152921504606846976) (w : World) : Calls Tryz.prog 77 #[plV p, enV e] w fun x w' => x = .returned (.int .i64 (refE p e i)) ∧ Below w.heap.size w w' := by
  obtain ⟨k, s, a, q, m, y1, y2⟩ := e
  simp only at hi hk
  subst hi
  have i0 : (0 : Int) ≤ i := by omega
  have i1 : (i : Int) < 64 := by omega
  have FT := hid (fun w => fits_any p ⟨k, (i : Int), a, q, m, ⟨y1, y2⟩⟩ i rfl h64 hk w)
  unfold refE
  simp only
  unfold plV enV
  generalize fitB p ⟨k, (i : Int), a, q, m, ⟨y1, y2⟩⟩ i = f at *
  clear hk
  obtain ⟨hs1, hs2⟩ := hs
  have q3 : IntKind.i64.wrap ((p.s i).si + 3) = (p.s i).si + 3 := IntWalk.i64_in _ (by omega)
  clear hs1 hs2
  cases f
  · go_enter Tryz.func77, Tryz.ntmps77
    go_upto_region 1 with (fail)
    have P1 := hid ((PoolAt.made (w := w) (p := p) (T := 33) rfl).alloc (.cells #[.int .i64 k, .int .i64 (i : Int), .int .i64 a, .int .i64 q, .int .i64 m, .int .u64 y1, .int .u64 y2] 44))
    have CX := hid (Ce.made (w := w.alloc (.cells (PA p) 33)) (l := [.int .i64 k, .int .i64 (i : Int), .int .i64 a, .int .i64 q, .int .i64 m, .int .u64 y1, .int .u64 y2]) (T := 44) (g := w.heap.size + 1) (by simp))
    have HB := hid (((Below.refl w.heap.size w).alloc (Nat.le_refl _) (.cells (PA p) 33)).alloc (by simp) (.cells #[.int .i64 k, .int .i64 (i : Int), .int .i64 a, .int .i64 q, .int .i64 m, .int .u64 y1, .int .u64 y2] 44))
    generalize (w.alloc (.cells (PA p) 33)).alloc (.cells #[.int .i64 k, .int .i64 (i : Int), .int .i64 a, .int .i64 q, .int .i64 m, .int .u64 y1, .int .u64 y2] 44) = w1 at *
    generalize w.heap.size + 1 = E at *
    generalize hK : w.heap.size = P at *
    have HK := hid hK
    clear hK
    have c0 := CX.out.2.1 0 _ rfl
    have c1 := CX.out.2.1 1 _ rfl
    have c2 := CX.out.2.1 2 _ rfl
    have c3 := CX.out.2.1 3 _ rfl
    have c4 := CX.out.2.1 4 _ rfl
    have c5 := CX.out.2.1 5 _ rfl
    have c6 := CX.out.2.1 6 _ rfl
    have LP := P1.out.load
    go_wp2_with (refine wl_load rfl rfl rfl LP ?_)
    refine (FT.out _).mono ?_
    rintro x w2 ⟨rfl, hb⟩
    have P2 := hid (P1.out.below hb)
    have CX2 := hid (CX.out.below hb)
    have HB2 := hid (HB.out.trans (hb.mono (by have := HB.out.size; rw [HK.out] at this; exact this)))
    clear hb c0 c1 c2 c3 c4 c5 c6 LP P1 CX
    go_wp2_with fail
    go_ret
    exact ⟨rfl, by rw [HK.out]; exact HB2.out⟩
  · cases b5 : (k == 5)
    · go_enter Tryz.func77, Tryz.ntmps77
      go_upto_region 1 with (fail)
      have P1 := hid ((PoolAt.made (w := w) (p := p) (T := 33) rfl).alloc (.cells #[.int .i64 k, .int .i64 (i : Int), .int .i64 a, .int .i64 q, .int .i64 m, .int .u64 y1, .int .u64 y2] 44))
      have CX := hid (Ce.made (w := w.alloc (.cells (PA p) 33)) (l := [.int .i64 k, .int .i64 (i : Int), .int .i64 a, .int .i64 q, .int .i64 m, .int .u64 y1, .int .u64 y2]) (T := 44) (g := w.heap.size + 1) (by simp))
      have HB := hid (((Below.refl w.heap.size w).alloc (Nat.le_refl _) (.cells (PA p) 33)).alloc (by simp) (.cells #[.int .i64 k, .int .i64 (i : Int), .int .i64 a, .int .i64 q, .int .i64 m, .int .u64 y1, .int .u64 y2] 44))
      generalize (w.alloc (.cells (PA p) 33)).alloc (.cells #[.int .i64 k, .int .i64 (i : Int), .int .i64 a, .int .i64 q, .int .i64 m, .int .u64 y1, .int .u64 y2] 44) = w1 at *
      generalize w.heap.size + 1 = E at *
      generalize hK : w.heap.size = P at *
      have HK := hid hK
      clear hK
      have c0 := CX.out.2.1 0 _ rfl
      have c1 := CX.out.2.1 1 _ rfl
      have c2 := CX.out.2.1 2 _ rfl
      have c3 := CX.out.2.1 3 _ rfl
      have c4 := CX.out.2.1 4 _ rfl
      have c5 := CX.out.2.1 5 _ rfl
      have c6 := CX.out.2.1 6 _ rfl
      have LP := P1.out.load
      go_wp2_with (refine wl_load rfl rfl rfl LP ?_)
      refine (FT.out _).mono ?_
      rintro x w2 ⟨rfl, hb⟩
      have P2 := hid (P1.out.below hb)
      have CX2 := hid (CX.out.below hb)
      have HB2 := hid (HB.out.trans (hb.mono (by have := HB.out.size; rw [HK.out] at this; exact this)))
      clear hb c0 c1 c2 c3 c4 c5 c6 LP P1 CX
      have c0 := CX2.out.2.1 0 _ rfl
      go_wp2_with fail
      go_quiet (fail)
      go_wp2_with fail
      go_ret
      exact ⟨rfl, by rw [HK.out]; exact below_drewN HB2.out _⟩
    · cases d3 : decide (p.r.e < (p.s i).si + 3)
      all_goals
        go_enter Tryz.func77, Tryz.ntmps77
        go_upto_region 1 with (fail)
        have P1 := hid ((PoolAt.made (w := w) (p := p) (T := 33) rfl).alloc (.cells #[.int .i64 k, .int .i64 (i : Int), .int .i64 a, .int .i64 q, .int .i64 m, .int .u64 y1, .int .u64 y2] 44))
        have CX := hid (Ce.made (w := w.alloc (.cells (PA p) 33)) (l := [.int .i64 k, .int .i64 (i : Int), .int .i64 a, .int .i64 q, .int .i64 m, .int .u64 y1, .int .u64 y2]) (T := 44) (g := w.heap.size + 1) (by simp))
        have HB := hid (((Below.refl w.heap.size w).alloc (Nat.le_refl _) (.cells (PA p) 33)).alloc (by simp) (.cells #[.int .i64 k, .int .i64 (i : Int), .int .i64 a, .int .i64 q, .int .i64 m, .int .u64 y1, .int .u64 y2] 44))
        generalize (w.alloc (.cells (PA p) 33)).alloc (.cells #[.int .i64 k, .int .i64 (i : Int), .int .i64 a, .int .i64 q, .int .i64 m, .int .u64 y1, .int .u64 y2] 44) = w1 at *
        generalize w.heap.size + 1 = E at *
        generalize hK : w.heap.size = P at *
        have HK := hid hK
        clear hK
        have c0 := CX.out.2.1 0 _ rfl
        have c1 := CX.out.2.1 1 _ rfl
        have c2 := CX.out.2.1 2 _ rfl
        have c3 := CX.out.2.1 3 _ rfl
        have c4 := CX.out.2.1 4 _ rfl
        have c5 := CX.out.2.1 5 _ rfl
        have c6 := CX.out.2.1 6 _ rfl
        have LP := P1.out.load
        go_wp2_with (refine wl_load rfl rfl rfl LP ?_)
        refine (FT.out _).mono ?_
        rintro x w2 ⟨rfl, hb⟩
        have P2 := hid (P1.out.below hb)
        have CX2 := hid (CX.out.below hb)
        have HB2 := hid (HB.out.trans (hb.mono (by have := HB.out.size; rw [HK.out] at this; exact this)))
        clear hb c0 c1 c2 c3 c4 c5 c6 LP P1 CX
        have c0 := CX2.out.2.1 0 _ rfl
        have c1 := CX2.out.2.1 1 _ rfl
        have cep : w2.cell? ⟨P, 323, none⟩ = some (.int .i64 p.r.e) := P2.out.cr 0 (by omega)
        have csi : w2.cell? ⟨P, 3 + i * 5 + 4, none⟩ = some (.int .i64 (p.s i).si) := P2.out.cs i 4 h64 (by omega)
        go_wp2_with fail
        go_quiet (fail)
        go_wp2_with fail
        go_ret
        exact ⟨rfl, by rw [HK.out]; exact below_drewN HB2.out _⟩
end Go.Proofs.YteefhiniamajkaaGreat
