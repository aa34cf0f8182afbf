/- Why an entry is refused. -/
import Derived.Test.YtppcanaelagfmaaPolApp2
import Derived.BigQuiet
import Derived.Deep.RegionHeld3
import Derived.Deep.Cut
namespace Go.Proofs.Ytppcanaelagfmaa
set_option linter.unusedVariables false
set_option linter.unusedSimpArgs false
open Go.RowKit Go.ChangeShapes Go.WideShapes Go.ChangeAt

set_option maxRecDepth 100000 in
set_option maxHeartbeats 4000000 in
theorem refused_any (p : Pl) (e : En) (i : Nat) (hi : e.s = i) (h64 : i < 64) (hk : 1 ≤ e.k ∧ e.k ≤ 6) (hs : -1152921504606846976 ≤ (p.s i).si ∧ (p.s i).si ≤ 1152921504606846976) (w : World) : Calls Try.prog 45 #[plV p, enV e] w fun x w' => x = .returned (.int .i64 (refE p e i)) ∧ Below w.heap.size w w' := by
  obtain ⟨k, s, a, q, m, y1, y2⟩ := e
  simp only at hi hk
  subst hi
  have i0 : (0 : Int) ≤ i := by omega
  have i1 : (i : Int) < 64 := by omega
  have FT := hid (fun w => fits_any p ⟨k, (i : Int), a, q, m, ⟨y1, y2⟩⟩ i rfl h64 hk w)
  unfold refE
  simp only
  unfold plV enV
  generalize fitB p ⟨k, (i : Int), a, q, m, ⟨y1, y2⟩⟩ i = f at *
  clear hk
  obtain ⟨hs1, hs2⟩ := hs
  have q3 : IntKind.i64.wrap ((p.s i).si + 3) = (p.s i).si + 3 := IntWalk.i64_in _ (by omega)
  clear hs1 hs2
  cases f
  · go_enter Try.func45, Try.ntmps45
    go_upto_region 1 with (fail)
    have P1 := hid ((PoolAt.made (w := w) (p := p) (T := 33) rfl).alloc (.cells #[.int .i64 k, .int .i64 (i : Int), .int .i64 a, .int .i64 q, .int .i64 m, .int .u64 y1, .int .u64 y2] 44))
    have CX := hid (Ce.made (w := w.alloc (.cells (PA p) 33)) (l := [.int .i64 k, .int .i64 (i : Int), .int .i64 a, .int .i64 q, .int .i64 m, .int .u64 y1, .int .u64 y2]) (T := 44) (g := w.heap.size + 1) (by simp))
    have HB := hid (((Below.refl w.heap.size w).alloc (Nat.le_refl _) (.cells (PA p) 33)).alloc (by simp) (.cells #[.int .i64 k, .int .i64 (i : Int), .int .i64 a, .int .i64 q, .int .i64 m, .int .u64 y1, .int .u64 y2] 44))
    generalize (w.alloc (.cells (PA p) 33)).alloc (.cells #[.int .i64 k, .int .i64 (i : Int), .int .i64 a, .int .i64 q, .int .i64 m, .int .u64 y1, .int .u64 y2] 44) = w1 at *
    generalize w.heap.size + 1 = E at *
    generalize hK : w.heap.size = P at *
    have HK := hid hK
    clear hK
    have c0 := CX.out.2.1 0 _ rfl
    have c1 := CX.out.2.1 1 _ rfl
    have c2 := CX.out.2.1 2 _ rfl
    have c3 := CX.out.2.1 3 _ rfl
    have c4 := CX.out.2.1 4 _ rfl
    have c5 := CX.out.2.1 5 _ rfl
    have c6 := CX.out.2.1 6 _ rfl
    have LP := P1.out.load
    go_wp2_with (refine wl_load rfl rfl rfl LP ?_)
    refine (FT.out _).mono ?_
    rintro x w2 ⟨rfl, hb⟩
    have P2 := hid (P1.out.below hb)
    have CX2 := hid (CX.out.below hb)
    have HB2 := hid (HB.out.trans (hb.mono (by have := HB.out.size; rw [HK.out] at this; exact this)))
    clear hb c0 c1 c2 c3 c4 c5 c6 LP P1 CX
    go_wp2_with fail
    go_ret
    exact ⟨rfl, by rw [HK.out]; exact HB2.out⟩
  · cases b5 : (k == 5)
    · go_enter Try.func45, Try.ntmps45
      go_upto_region 1 with (fail)
      have P1 := hid ((PoolAt.made (w := w) (p := p) (T := 33) rfl).alloc (.cells #[.int .i64 k, .int .i64 (i : Int), .int .i64 a, .int .i64 q, .int .i64 m, .int .u64 y1, .int .u64 y2] 44))
      have CX := hid (Ce.made (w := w.alloc (.cells (PA p) 33)) (l := [.int .i64 k, .int .i64 (i : Int), .int .i64 a, .int .i64 q, .int .i64 m, .int .u64 y1, .int .u64 y2]) (T := 44) (g := w.heap.size + 1) (by simp))
      have HB := hid (((Below.refl w.heap.size w).alloc (Nat.le_refl _) (.cells (PA p) 33)).alloc (by simp) (.cells #[.int .i64 k, .int .i64 (i : Int), .int .i64 a, .int .i64 q, .int .i64 m, .int .u64 y1, .int .u64 y2] 44))
      generalize (w.alloc (.cells (PA p) 33)).alloc (.cells #[.int .i64 k, .int .i64 (i : Int), .int .i64 a, .int .i64 q, .int .i64 m, .int .u64 y1, .int .u64 y2] 44) = w1 at *
      generalize w.heap.size + 1 = E at *
      generalize hK : w.heap.size = P at *
      have HK := hid hK
      clear hK
      have c0 := CX.out.2.1 0 _ rfl
      have c1 := CX.out.2.1 1 _ rfl
      have c2 := CX.out.2.1 2 _ rfl
      have c3 := CX.out.2.1 3 _ rfl
      have c4 := CX.out.2.1 4 _ rfl
      have c5 := CX.out.2.1 5 _ rfl
      have c6 := CX.out.2.1 6 _ rfl
      have LP := P1.out.load
      go_wp2_with (refine wl_load rfl rfl rfl LP ?_)
      refine (FT.out _).mono ?_
      rintro x w2 ⟨rfl, hb⟩
      have P2 := hid (P1.out.below hb)
      have CX2 := hid (CX.out.below hb)
      have HB2 := hid (HB.out.trans (hb.mono (by have := HB.out.size; rw [HK.out] at this; exact this)))
      clear hb c0 c1 c2 c3 c4 c5 c6 LP P1 CX
      have c0 := CX2.out.2.1 0 _ rfl
      go_wp2_with fail
      go_quiet (fail)
      go_wp2_with fail
      go_ret
      exact ⟨rfl, by rw [HK.out]; exact below_drewN HB2.out _⟩
    · cases d3 : decide (p.r.e < (p.s i).si + 3)
      all_goals
        go_enter Try.func45, Try.ntmps45
        go_upto_region 1 with (fail)
        have P1 := hid ((PoolAt.made (w := w) (p := p) (T := 33) rfl).alloc (.cells #[.int .i64 k, .int .i64 (i : Int), .int .i64 a, .int .i64 q, .int .i64 m, .int .u64 y1, .int .u64 y2] 44))
        have CX := hid (Ce.made (w := w.alloc (.cells (PA p) 33)) (l := [.int .i64 k, .int .i64 (i : Int), .int .i64 a, .int .i64 q, .int .i64 m, .int .u64 y1, .int .u64 y2]) (T := 44) (g := w.heap.size + 1) (by simp))
        have HB := hid (((Below.refl w.heap.size w).alloc (Nat.le_refl _) (.cells (PA p) 33)).alloc (by simp) (.cells #[.int .i64 k, .int .i64 (i : Int), .int .i64 a, .int .i64 q, .int .i64 m, .int .u64 y1, .int .u64 y2] 44))
        generalize (w.alloc (.cells (PA p) 33)).alloc (.cells #[.int .i64 k, .int .i64 (i : Int), .int .i64 a, .int .i64 q, .int .i64 m, .int .u64 y1, .int .u64 y2] 44) = w1 at *
        generalize w.heap.size + 1 = E at *
        generalize hK : w.heap.size = P at *
        have HK := hid hK
        clear hK
        have c0 := CX.out.2.1 0 _ rfl
        have c1 := CX.out.2.1 1 _ rfl
        have c2 := CX.out.2.1 2 _ rfl
        have c3 := CX.out.2.1 3 _ rfl
        have c4 := CX.out.2.1 4 _ rfl
        have c5 := CX.out.2.1 5 _ rfl
        have c6 := CX.out.2.1 6 _ rfl
        have LP := P1.out.load
        go_wp2_with (refine wl_load rfl rfl rfl LP ?_)
        refine (FT.out _).mono ?_
        rintro x w2 ⟨rfl, hb⟩
        have P2 := hid (P1.out.below hb)
        have CX2 := hid (CX.out.below hb)
        have HB2 := hid (HB.out.trans (hb.mono (by have := HB.out.size; rw [HK.out] at this; exact this)))
        clear hb c0 c1 c2 c3 c4 c5 c6 LP P1 CX
        have c0 := CX2.out.2.1 0 _ rfl
        have c1 := CX2.out.2.1 1 _ rfl
        have cep : w2.cell? ⟨P, 323, none⟩ = some (.int .i64 p.r.e) := P2.out.cr 0 (by omega)
        have csi : w2.cell? ⟨P, 3 + i * 5 + 4, none⟩ = some (.int .i64 (p.s i).si) := P2.out.cs i 4 h64 (by omega)
        go_wp2_with fail
        go_quiet (fail)
        go_wp2_with fail
        go_ret
        exact ⟨rfl, by rw [HK.out]; exact below_drewN HB2.out _⟩
end Go.Proofs.Ytppcanaelagfmaa
