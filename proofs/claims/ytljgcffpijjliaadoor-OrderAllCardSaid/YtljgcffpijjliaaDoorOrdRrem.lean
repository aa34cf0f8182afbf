/- What is removed, as the reference tells it. -/
import Derived.Test.YtljgcffpijjliaaDoorOrdRem
import Derived.BigQuiet
import Derived.Deep.RegionHeld3
import Derived.Deep.Cut
namespace Go.Proofs.YtljgcffpijjliaaDoor
set_option linter.unusedVariables false
set_option linter.unusedSimpArgs false
open Go.RowKit Go.ChangeShapes Go.WideShapes Go.ChangeAt

attribute [local irreducible] PA
set_option maxRecDepth 100000 in
set_option maxHeartbeats 4000000 in
theorem rremove_any (p : Pl) (a q : Int) (w : World) : Calls Tryd.prog 20 #[plV p, .int .i64 a, .int .i64 q] w (Lst w (remR p a q).1 (remR p a q).2) := by
  have FD := hid (fun w => rfind_any p a q w)
  unfold plV at FD ⊢
  cases hf : findO p a q
  · have HR : remR p a q = ([], 9) := by unfold remR; rw [hf]
    rw [HR]
    rw [hf] at FD
    unfold fdV at FD
    replace FD := hid FD
    clear HR hf
    go_enter Tryd.func20, Tryd.ntmps20
    go_upto_region 1 with (fail)
    have P1 := hid (PoolAt.made (w := w) (p := p) (T := 33) rfl)
    have B1 := hid ((Below.refl w.heap.size w).alloc (Nat.le_refl _) (.cells (PA p) 33))
    generalize w.alloc (.cells (PA p) 33) = w1 at *
    generalize hK : w.heap.size = P at *
    have HK := hid hK
    clear hK
    have LP := P1.out.loadA
    go_wp2_with ((with_reducible refine wl_id ?_); refine wl_load rfl rfl rfl LP ?_)
    clear LP
    refine (FD.out _).mono ?_
    rintro x w2 ⟨rfl, hb⟩
    have P2 := hid (P1.out.below hb)
    have B2 := hid (bt HK.out B1.out hb)
    clear hb P1 B1
    go_wp2_with fail
    go_ret2
    exact Lst.nil (by rw [HK.out]; exact B2.out)
  · rename_i k
    have FS := find_min hf
    have k64 := FS.1
    cases b2 : ((p.s k).st == 2)
    · have HR : remR p a q = ([⟨4, (k : Int), 0, 0, 0, zKy⟩], 0) := by unfold remR; rw [hf]; simp only; rw [if_neg (by simpa using b2)]
      rw [HR]
      rw [hf] at FD
      unfold fdV at FD
      replace FD := hid FD
      clear HR hf FS
      go_enter Tryd.func20, Tryd.ntmps20
      go_upto_region 1 with (fail)
      have P1 := hid (PoolAt.made (w := w) (p := p) (T := 33) rfl)
      have B1 := hid ((Below.refl w.heap.size w).alloc (Nat.le_refl _) (.cells (PA p) 33))
      generalize w.alloc (.cells (PA p) 33) = w1 at *
      generalize hK : w.heap.size = P at *
      have HK := hid hK
      clear hK
      have LP := P1.out.loadA
      go_wp2_with ((with_reducible refine wl_id ?_); refine wl_load rfl rfl rfl LP ?_)
      clear LP
      refine (FD.out _).mono ?_
      rintro x w2 ⟨rfl, hb⟩
      have P2 := hid (P1.out.below hb)
      have B2 := hid (bt HK.out B1.out hb)
      clear hb P1 B1
      have i0 : (0 : Int) ≤ k := by omega
      have i1 : (k : Int) < 64 := by omega
      have cs : w2.cell? ⟨P, 3 + k * 5, none⟩ = some (.int .i64 (p.s k).st) := P2.out.cs k 0 k64 (by omega)
      have ST := hid cs
      generalize (p.s k).st = st at *
      have O2 : Hid (OwE w2 P (.slice none 0 0) 0 (gl [])) := hid OwE.nil
      go_wp2_with (at_builtin; refine wp_app_e rfl (.tmp 31) (.tmp 34) rfl P _ 0 (gl [⟨4, (k : Int), 0, 0, 0, zKy⟩]) rfl (Ow.alloc (OwE.as O2.out (fun j hj => by omega)) _) w2.heap.size 1 rfl (Ce.made (l := enL ⟨4, (k : Int), 0, 0, 0, zKy⟩) rfl) (by omega) (by have := B2.out.size; rw [HK.out] at this; simp; omega) ?_; intro A3 d3 w3 hown hbel hgr; have O3 := hid hown; have B3 := hid ((ba HK.out B2.out (.cells #[.int .i64 4, .int .i64 (k : Int), .int .i64 0, .int .i64 0, .int .i64 0, .int .u64 0, .int .u64 0] 56)).trans hbel); clear hown hbel hgr)
      try clear cs
      go_ret2
      exact ⟨_, _, rfl, OwE.base O3.out (by rw [HK.out]; exact Nat.le_refl _), by rw [HK.out]; exact B3.out⟩
    · have HR : remR p a q = ([⟨3, (k : Int), 0, 0, 0, zKy⟩, ⟨4, (k : Int), 0, 0, 0, zKy⟩], 0) := by unfold remR; rw [hf]; simp only; rw [if_pos (by simpa using b2)]
      rw [HR]
      rw [hf] at FD
      unfold fdV at FD
      replace FD := hid FD
      clear HR hf FS
      go_enter Tryd.func20, Tryd.ntmps20
      go_upto_region 1 with (fail)
      have P1 := hid (PoolAt.made (w := w) (p := p) (T := 33) rfl)
      have B1 := hid ((Below.refl w.heap.size w).alloc (Nat.le_refl _) (.cells (PA p) 33))
      generalize w.alloc (.cells (PA p) 33) = w1 at *
      generalize hK : w.heap.size = P at *
      have HK := hid hK
      clear hK
      have LP := P1.out.loadA
      go_wp2_with ((with_reducible refine wl_id ?_); refine wl_load rfl rfl rfl LP ?_)
      clear LP
      refine (FD.out _).mono ?_
      rintro x w2 ⟨rfl, hb⟩
      have P2 := hid (P1.out.below hb)
      have B2 := hid (bt HK.out B1.out hb)
      clear hb P1 B1
      have i0 : (0 : Int) ≤ k := by omega
      have i1 : (k : Int) < 64 := by omega
      have cs : w2.cell? ⟨P, 3 + k * 5, none⟩ = some (.int .i64 (p.s k).st) := P2.out.cs k 0 k64 (by omega)
      have ST := hid cs
      generalize (p.s k).st = st at *
      have O2 : Hid (OwE w2 P (.slice none 0 0) 0 (gl [])) := hid OwE.nil
      go_upto_region 7 with (at_builtin; refine wp_app_e rfl (.tmp 26) (.tmp 29) rfl P _ 0 (gl [⟨3, (k : Int), 0, 0, 0, zKy⟩]) rfl (Ow.alloc (OwE.as O2.out (fun j hj => by omega)) _) w2.heap.size 1 rfl (Ce.made (l := enL ⟨3, (k : Int), 0, 0, 0, zKy⟩) rfl) (by omega) (by have := B2.out.size; rw [HK.out] at this; simp; omega) ?_; intro A3 d3 w3 hown hbel hgr; have O3 := hid hown; have B3 := hid ((ba HK.out B2.out (.cells #[.int .i64 3, .int .i64 (k : Int), .int .i64 0, .int .i64 0, .int .i64 0, .int .u64 0, .int .u64 0] 56)).trans hbel); clear hown hbel hgr)
      try clear cs
      go_wp2_with (at_builtin; refine wp_app_e rfl (.tmp 31) (.tmp 34) rfl P _ 1 (gl [⟨3, (k : Int), 0, 0, 0, zKy⟩, ⟨4, (k : Int), 0, 0, 0, zKy⟩]) rfl (Ow.alloc (OwE.as O3.out (fun j hj => by (obtain rfl : j = 0 := by omega); rfl)) _) w3.heap.size 1 rfl (Ce.made (l := enL ⟨4, (k : Int), 0, 0, 0, zKy⟩) rfl) (by omega) (by have := B3.out.size; rw [HK.out] at this; simp; omega) ?_; intro A4 d4 w4 hown hbel hgr; have O4 := hid hown; have B4 := hid ((ba HK.out B3.out (.cells #[.int .i64 4, .int .i64 (k : Int), .int .i64 0, .int .i64 0, .int .i64 0, .int .u64 0, .int .u64 0] 56)).trans hbel); clear hown hbel hgr)
      go_ret2
      exact ⟨_, _, rfl, OwE.base O4.out (by rw [HK.out]; exact Nat.le_refl _), by rw [HK.out]; exact B4.out⟩
end Go.Proofs.YtljgcffpijjliaaDoor
