/- What is wished: removed. -/
import Derived.Test.YtljgcffpijjliaaDoorOrdAdd
import Derived.Test.YtljgcffpijjliaaDoorPolFind
import Derived.Test.YtljgcffpijjliaaDoorPolRfind
import Derived.BigQuiet
import Derived.Deep.RegionHeld3
import Derived.Deep.Cut
namespace Go.Proofs.YtljgcffpijjliaaDoor
set_option linter.unusedVariables false
set_option linter.unusedSimpArgs false
open Go.RowKit Go.ChangeShapes Go.WideShapes Go.ChangeAt

theorem put_G {l : List En} {e : En} {w : World} {B m : Nat} {v : Value} (hm : m = l.length) (h : OwE w B v m (gl l)) : OwE w B v m (gl (l ++ [e])) := h.as fun j hj => by rw [gl_app, if_neg (by omega)]
theorem gl_last (l : List En) (e : En) (m : Nat) (hm : m = l.length) : gl (l ++ [e]) m = e := by rw [gl_app, if_pos hm]
theorem OwE.bd {w : World} {B m c : Nat} {A : Option Addr} {g : Nat → En} (h : OwE w B (.slice A m c) m g) : ∀ b, (Value.slice A m c).ownBlock = some b → B ≤ b ∧ b < w.heap.size := fun b e => World.ownsRow.lt h b e
attribute [local irreducible] PA
set_option maxRecDepth 100000 in
set_option maxHeartbeats 4000000 in
theorem remove_any (p : Pl) (hS : StI p) (a q : Int) (w : World) : Calls Tryd.prog 19 #[plV p, .int .i64 a, .int .i64 q] w (Lst w (remR p a q).1 (remR p a q).2) := by
  have FD := hid (fun w => find_any p hS a q w)
  unfold plV at FD ⊢
  cases hf : findO p a q
  · have HR : remR p a q = ([], 9) := by unfold remR; rw [hf]
    rw [HR]
    rw [hf] at FD
    unfold fdV at FD
    replace FD := hid FD
    clear HR hf
    go_enter Tryd.func19, Tryd.ntmps19
    go_upto_region 1 with (fail)
    have P1 := hid (PoolAt.made (w := w) (p := p) (T := 33) rfl)
    have B1 := hid ((Below.refl w.heap.size w).alloc (Nat.le_refl _) (.cells (PA p) 33))
    generalize w.alloc (.cells (PA p) 33) = w1 at *
    generalize hK : w.heap.size = P at *
    have HK := hid hK
    clear hK
    have LP := P1.out.loadA
    go_wp2_with ((with_reducible refine wl_id ?_); refine wl_load rfl rfl rfl LP ?_)
    clear LP
    refine (FD.out _).mono ?_
    rintro x w2 ⟨rfl, hb⟩
    have P2 := hid (P1.out.below hb)
    have B2 := hid (bt HK.out B1.out hb)
    clear hb P1 B1
    go_wp2_with fail
    go_ret2
    exact Lst.nil (by rw [HK.out]; exact B2.out)
  · rename_i k
    have FS := find_min hf
    have k64 := FS.1
    cases b2 : ((p.s k).st == 2)
    · have HR : remR p a q = ([⟨4, (k : Int), 0, 0, 0, zKy⟩], 0) := by unfold remR; rw [hf]; simp only; rw [if_neg (by simpa using b2)]
      rw [HR]
      rw [hf] at FD
      unfold fdV at FD
      replace FD := hid FD
      clear HR hf FS
      go_enter Tryd.func19, Tryd.ntmps19
      go_upto_region 1 with (fail)
      have P1 := hid (PoolAt.made (w := w) (p := p) (T := 33) rfl)
      have B1 := hid ((Below.refl w.heap.size w).alloc (Nat.le_refl _) (.cells (PA p) 33))
      generalize w.alloc (.cells (PA p) 33) = w1 at *
      generalize hK : w.heap.size = P at *
      have HK := hid hK
      clear hK
      have LP := P1.out.loadA
      go_wp2_with ((with_reducible refine wl_id ?_); refine wl_load rfl rfl rfl LP ?_)
      clear LP
      refine (FD.out _).mono ?_
      rintro x w2 ⟨rfl, hb⟩
      have P2 := hid (P1.out.below hb)
      have B2 := hid (bt HK.out B1.out hb)
      clear hb P1 B1
      have i0 : (0 : Int) ≤ k := by omega
      have i1 : (k : Int) < 64 := by omega
      go_upto_region 5 with (fail)
      have lPE : P ≤ w2.heap.size := by have := B2.out.size; rw [HK.out] at this; exact this
      have C3 := hid (Ce.made (w := w2) (l := [.int .i64 4, .int .i64 (k : Int), .int .i64 0, .int .i64 0, .int .i64 0, .int .u64 0, .int .u64 0]) (T := 56) (g := w2.heap.size) rfl)
      have P3 := hid (P2.out.alloc (.cells #[.int .i64 4, .int .i64 (k : Int), .int .i64 0, .int .i64 0, .int .i64 0, .int .u64 0, .int .u64 0] 56))
      have B3 := hid (ba HK.out B2.out (.cells #[.int .i64 4, .int .i64 (k : Int), .int .i64 0, .int .i64 0, .int .i64 0, .int .u64 0, .int .u64 0] 56))
      clear P2 B2
      simp only [List.toArray] at C3
      generalize w2.alloc (.cells #[.int .i64 4, .int .i64 (k : Int), .int .i64 0, .int .i64 0, .int .i64 0, .int .u64 0, .int .u64 0] 56) = w3 at *
      generalize w2.heap.size = E at *
      have cs : w3.cell? ⟨P, 3 + k * 5, none⟩ = some (.int .i64 (p.s k).st) := P3.out.cs k 0 k64 (by omega)
      have b3 : ((p.s k).st != 2) = true := by rw [bne, b2]; rfl
      generalize (p.s k).st = st at *
      have e0 := C3.out.2.1 0 _ rfl
      have e1 := C3.out.2.1 1 _ rfl
      have e2 := C3.out.2.1 2 _ rfl
      have e3 := C3.out.2.1 3 _ rfl
      have e4 := C3.out.2.1 4 _ rfl
      have e5 := C3.out.2.1 5 _ rfl
      have e6 := C3.out.2.1 6 _ rfl
      have ef := C3.out.2.2
      go_wp2_with fail
      clear e0 e1 e2 e3 e4 e5 e6 ef
      go_ret2
      exact Lst.lit [⟨4, (k : Int), 0, 0, 0, zKy⟩] rfl rfl (by simp) rfl (by rw [HK.out]; exact B3.out)
    · have HR : remR p a q = ([⟨3, (k : Int), 0, 0, 0, zKy⟩, ⟨4, (k : Int), 0, 0, 0, zKy⟩], 0) := by unfold remR; rw [hf]; simp only; rw [if_pos (by simpa using b2)]
      rw [HR]
      rw [hf] at FD
      unfold fdV at FD
      replace FD := hid FD
      clear HR hf FS
      go_enter Tryd.func19, Tryd.ntmps19
      go_upto_region 1 with (fail)
      have P1 := hid (PoolAt.made (w := w) (p := p) (T := 33) rfl)
      have B1 := hid ((Below.refl w.heap.size w).alloc (Nat.le_refl _) (.cells (PA p) 33))
      generalize w.alloc (.cells (PA p) 33) = w1 at *
      generalize hK : w.heap.size = P at *
      have HK := hid hK
      clear hK
      have LP := P1.out.loadA
      go_wp2_with ((with_reducible refine wl_id ?_); refine wl_load rfl rfl rfl LP ?_)
      clear LP
      refine (FD.out _).mono ?_
      rintro x w2 ⟨rfl, hb⟩
      have P2 := hid (P1.out.below hb)
      have B2 := hid (bt HK.out B1.out hb)
      clear hb P1 B1
      have i0 : (0 : Int) ≤ k := by omega
      have i1 : (k : Int) < 64 := by omega
      go_upto_region 5 with (fail)
      have lPE : P ≤ w2.heap.size := by have := B2.out.size; rw [HK.out] at this; exact this
      have C3 := hid (Ce.made (w := w2) (l := [.int .i64 4, .int .i64 (k : Int), .int .i64 0, .int .i64 0, .int .i64 0, .int .u64 0, .int .u64 0]) (T := 56) (g := w2.heap.size) rfl)
      have P3 := hid (P2.out.alloc (.cells #[.int .i64 4, .int .i64 (k : Int), .int .i64 0, .int .i64 0, .int .i64 0, .int .u64 0, .int .u64 0] 56))
      have B3 := hid (ba HK.out B2.out (.cells #[.int .i64 4, .int .i64 (k : Int), .int .i64 0, .int .i64 0, .int .i64 0, .int .u64 0, .int .u64 0] 56))
      clear P2 B2
      simp only [List.toArray] at C3
      generalize w2.alloc (.cells #[.int .i64 4, .int .i64 (k : Int), .int .i64 0, .int .i64 0, .int .i64 0, .int .u64 0, .int .u64 0] 56) = w3 at *
      generalize w2.heap.size = E at *
      have cs : w3.cell? ⟨P, 3 + k * 5, none⟩ = some (.int .i64 (p.s k).st) := P3.out.cs k 0 k64 (by omega)
      have b3 : ((p.s k).st != 2) = false := by rw [bne, b2]; rfl
      generalize (p.s k).st = st at *
      have e0 := C3.out.2.1 0 _ rfl
      have e1 := C3.out.2.1 1 _ rfl
      have e2 := C3.out.2.1 2 _ rfl
      have e3 := C3.out.2.1 3 _ rfl
      have e4 := C3.out.2.1 4 _ rfl
      have e5 := C3.out.2.1 5 _ rfl
      have e6 := C3.out.2.1 6 _ rfl
      have ef := C3.out.2.2
      go_wp2_with fail
      clear e0 e1 e2 e3 e4 e5 e6 ef
      go_ret2
      exact Lst.lit [⟨3, (k : Int), 0, 0, 0, zKy⟩, ⟨4, (k : Int), 0, 0, 0, zKy⟩] rfl rfl (by simp) rfl (by rw [HK.out]; exact B3.out)
end Go.Proofs.YtljgcffpijjliaaDoor
