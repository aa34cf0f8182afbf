/- The reference's Apply. -/
import Derived.Test.YteefhiniamajkaaGreatPolApp3
import Derived.Test.YteefhiniamajkaaGreatGq
import Derived.RegionTactic
import Derived.BigQuiet
import Derived.Deep.RegionHeld3
import Derived.Deep.Cut
namespace Go.Proofs.YteefhiniamajkaaGreat
set_option linter.unusedVariables false
set_option linter.unusedSimpArgs false
open Go.RowKit Go.ChangeShapes Go.WideShapes Go.ChangeAt

theorem setS_same (f : Nat → Sp) (i : Nat) : setS f i (f i) = f := by
  funext j
  unfold setS
  split
  · rename_i h; rw [h]
  · rfl
theorem Ce.set {w : World} {b : Nat} {l : List Value} (h : Ce w b l) (j : Nat) (v : Value) (hj : j < l.length) : Ce (w.setCell ⟨b, j, none⟩ v) b (l.set j v) := by
  refine ⟨by simpa using h.1, fun i u hi => ?_, fun i => by rw [World.frozen?_setCell]; exact h.2.2 i⟩
  by_cases e : i = j
  · subst e
    rw [List.getElem?_set_self hj] at hi
    injection hi with hi
    subst hi
    exact World.cell?_setCell_same _ _ _ (h.2.1 i _ (List.getElem?_eq_getElem hj))
  · rw [List.getElem?_set_ne (Ne.symm e)] at hi
    rw [World.cell?_setCell_other _ _ _ _ (fun x => e (by injection x with _ x; exact x.symm))]
    exact h.2.1 i u hi
attribute [local irreducible] PA
set_option maxRecDepth 100000 in
set_option maxHeartbeats 4000000 in
theorem rapply_any (p : Pl) (e : En) (hp : PB p) (w : World) : Calls Tryz.prog 25 #[plV p, enV e] w fun x w' => x = .returned (.tuple #[plV (apR p e).1, .int .i64 (apR p e).2]) ∧ Below w.heap.size w w' := by
  have hz : ∀ w : World, (zeroValue 33).run Tryz.prog w = .ok (.agg (PA zPl)) w := fun w => zero_pl w
  have hz1 := pa_size zPl
  have hz2 := pa_ne zPl
  obtain ⟨k, s, a, q, m, y1, y2⟩ := e
  obtain ⟨c, hc⟩ : ∃ c, c = chk ⟨k, s, a, q, m, ⟨y1, y2⟩⟩ := ⟨_, rfl⟩
  have CK := hid (fun w => re_i64 (rcheck_any ⟨k, s, a, q, m, ⟨y1, y2⟩⟩ w) hc.symm)
  have HC := hid hc
  unfold apR
  rw [← hc]
  clear hc
  simp only
  unfold plV enV
  cases bc : (c != 0)
  · have hc0 : c = 0 := by simpa using bc
    subst hc0
    obtain ⟨hk1, hk2, hs1, hs2, hr0⟩ := chk_ok HC.out.symm
    simp only at hk1 hk2 hs1 hs2 hr0
    obtain ⟨i, rfl⟩ : ∃ i : Nat, s = i := ⟨s.toNat, by omega⟩
    have h64 : i < 64 := by omega
    have i0 : (0 : Int) ≤ i := by omega
    have i1 : (i : Int) < 64 := by omega
    simp only [Int.toNat_natCast]
    obtain ⟨hp1, hp2, hp3⟩ := hp
    have hsi := hp3 i h64
    have q3 : IntKind.i64.wrap ((p.s i).si + 3) = (p.s i).si + 3 := IntWalk.i64_in _ (by omega)
    have qv : IntKind.i64.wrap (p.v + 1) = p.v + 1 := IntWalk.i64_in _ (by omega)
    clear hp3 hsi
    replace hr0 := hid hr0
    have NX := hid (fun w => rnext_any p.r ⟨y1, y2⟩ hp2 w)
    obtain ⟨f, hf⟩ : ∃ f, f = fitB p ⟨k, (i : Int), a, q, m, ⟨y1, y2⟩⟩ i := ⟨_, rfl⟩
    have BD := hid (fun w => re_bool (bad_any p ⟨k, (i : Int), a, q, m, ⟨y1, y2⟩⟩ i rfl h64 ⟨hk1, hk2⟩ w) (show (!(fitB p ⟨k, (i : Int), a, q, m, ⟨y1, y2⟩⟩ i)) = !f from by rw [hf]))
    have HR : refE p ⟨k, (i : Int), a, q, m, ⟨y1, y2⟩⟩ i = bif !f then 12 else bif (k == 5 && decide (p.r.e < (p.s i).si + 3)) then 13 else 0 := by unfold refE; rw [← hf]
    rw [HR]
    clear HR hf
    go_enter Tryz.func25, Tryz.ntmps25
    go_upto_region 1 with (fail)
    have P1 := hid (((PoolAt.made (w := w) (p := p) (T := 33) rfl).alloc (.cells #[.int .i64 k, .int .i64 (i : Int), .int .i64 a, .int .i64 q, .int .i64 m, .int .u64 y1, .int .u64 y2] 44)).alloc (.cells (PA zPl) 33))
    have CX := hid ((Ce.made (w := w.alloc (.cells (PA p) 33)) (l := [.int .i64 k, .int .i64 (i : Int), .int .i64 a, .int .i64 q, .int .i64 m, .int .u64 y1, .int .u64 y2]) (T := 44) (g := w.heap.size + 1) (by simp)).alloc (.cells (PA zPl) 33))
    have R1 := hid (PoolAt.made (w := ((w.alloc (.cells (PA p) 33)).alloc (.cells #[.int .i64 k, .int .i64 (i : Int), .int .i64 a, .int .i64 q, .int .i64 m, .int .u64 y1, .int .u64 y2] 44))) (p := zPl) (T := 33) (g := w.heap.size + 1 + 1) (by simp))
    have HB := hid ((((Below.refl w.heap.size w).alloc (Nat.le_refl _) (.cells (PA p) 33)).alloc (by simp) (.cells #[.int .i64 k, .int .i64 (i : Int), .int .i64 a, .int .i64 q, .int .i64 m, .int .u64 y1, .int .u64 y2] 44)).alloc (by simp; omega) (.cells (PA zPl) 33))
    have lR : w.heap.size ≤ w.heap.size + 1 + 1 := by omega
    have dRP : w.heap.size + 1 + 1 ≠ w.heap.size := by omega
    have dRE : w.heap.size + 1 + 1 ≠ w.heap.size + 1 := by omega
    have dPE : w.heap.size ≠ w.heap.size + 1 := by omega
    have dPR := Ne.symm dRP
    have dER := Ne.symm dRE
    have dEP := Ne.symm dPE
    generalize (((w.alloc (.cells (PA p) 33)).alloc (.cells #[.int .i64 k, .int .i64 (i : Int), .int .i64 a, .int .i64 q, .int .i64 m, .int .u64 y1, .int .u64 y2] 44))).alloc (.cells (PA zPl) 33) = w1 at *
    generalize w.heap.size + 1 + 1 = R at *
    generalize w.heap.size + 1 = E at *
    generalize hK : w.heap.size = P at *
    have HK := hid hK
    clear hK
    have X1 := hid CX.out
    have B1 := hid HB.out
    clear CX HB
    have c0 := X1.out.2.1 0 _ rfl
    have c1 := X1.out.2.1 1 _ rfl
    have c2 := X1.out.2.1 2 _ rfl
    have c3 := X1.out.2.1 3 _ rfl
    have c4 := X1.out.2.1 4 _ rfl
    have c5 := X1.out.2.1 5 _ rfl
    have c6 := X1.out.2.1 6 _ rfl
    go_wp2_with fail
    refine (CK.out _).mono ?_
    rintro x w2 ⟨rfl, hb⟩
    have P2 := hid (P1.out.below hb)
    have X2 := hid (X1.out.below hb)
    have R2 := hid (R1.out.below hb)
    have B2 := hid (B1.out.trans (hb.mono (Nat.le_of_lt P1.out.1)))
    clear hb
    clear c0 c1 c2 c3 c4 c5 c6
    have c0 := X2.out.2.1 0 _ rfl
    have c1 := X2.out.2.1 1 _ rfl
    have c2 := X2.out.2.1 2 _ rfl
    have c3 := X2.out.2.1 3 _ rfl
    have c4 := X2.out.2.1 4 _ rfl
    have c5 := X2.out.2.1 5 _ rfl
    have c6 := X2.out.2.1 6 _ rfl
    have LP := P2.out.loadA
    go_wp2_with ((with_reducible refine wl_id ?_); refine wl_load rfl rfl rfl LP ?_)
    refine (BD.out _).mono ?_
    rintro x w3 ⟨rfl, hb⟩
    have P3 := hid (P2.out.below hb)
    have X3 := hid (X2.out.below hb)
    have R3 := hid (R2.out.below hb)
    have B3 := hid (B2.out.trans (hb.mono (Nat.le_of_lt P2.out.1)))
    clear hb
    clear c0 c1 c2 c3 c4 c5 c6 LP
    cases f
    · have SR := hid (R3.out.storeA zPl)
      go_upto_region 5 with (fail)
      go_wp2_with (first | ((with_reducible refine wl_id ?_); refine wl_build0 rfl rfl (build_zz _) ?_) | ((with_reducible refine wl_id ?_); refine wl_store rfl rfl rfl rfl SR.out ?_; refine wl_val rfl rfl ?_; refine end_then ?_; apply_assumption; refine wp_ret ?_; (repeat refine ret_then ?_); (show bodyPost _ _ _ _ _ _); refine bodyPost_ret (v := .tuple #[.agg (PA zPl), .int .i64 12]) (results_c2 Tryz.results25 _ rfl rfl (R3.out.whole zPl)) rfl ⟨by simp only [eq_self, if_true, cond_true, Bool.not_false]; rw [if_neg (by decide)], by rw [HK.out]; exact B3.out.trans (keeps_setCells R (PA zPl).toList 0 w3 P lR)⟩))
    · have h6 : k = 1 ∨ k = 2 ∨ k = 3 ∨ k = 4 ∨ k = 5 ∨ k = 6 := by omega
      clear hk1 hk2 HC
      rcases h6 with rfl | rfl | rfl | rfl | rfl | rfl
      · simp only [show ((1 : Int) == 5) = false from rfl, Bool.true_and, Bool.false_and]
        obtain ⟨sl, hsl⟩ : ∃ sl, sl = p.s i := ⟨_, rfl⟩
        obtain ⟨st, ad, po, we, si⟩ := sl
        have HSL := hid hsl
        have HQ : Hid (nxP p ⟨1, (i : Int), a, q, m, ⟨y1, y2⟩⟩ = ⟨p.v + 1, p.a, p.p, setS p.s i ⟨1, a, q, m, 0⟩, p.r⟩) := hid (by unfold nxP chS; simp only [Int.toNat_natCast]; rw [← hsl]; rfl)
        clear hsl
        go_upto_region 6 with (fail)
        clear P1 X1 R1 B1 P2 X2 R2 B2 BD CK
        have c0 := X3.out.2.1 0 _ rfl
        refine wp_region_held_drew (S := fun w' => w'.cell? ⟨E, 0, none⟩ = some (.int .i64 1)) (by kernel_rfl) ?_ (fun hHeld => ?_)
        · exact c0
        refine tkq 0 (by assumption) ?_
        refine tkq 1 (by assumption) ?_
        refine tkq 2 (by assumption) ?_
        refine tkq 3 (by assumption) ?_
        refine tuq 4 (by assumption) ?_
        refine tuq 5 (by assumption) ?_
        refine tuq 6 (by assumption) ?_
        refine tuq 7 (by assumption) ?_
        refine tuq 8 (by assumption) ?_
        refine tuq 9 (by assumption) ?_
        refine tuq 10 (by assumption) ?_
        refine tuq 11 (by assumption) ?_
        refine tuq 12 (by assumption) ?_
        refine tuq 13 (by assumption) ?_
        refine tuq 14 (by assumption) ?_
        refine tkq 15 (by assumption) ?_
        refine wpAnyH_done (by kernel_rfl) ?_ _
        clear hHeld c0
        have P4 := hid P3.out.drew
        have X4 := hid (show Ce w3.drew E [.int .i64 1, .int .i64 (i : Int), .int .i64 a, .int .i64 q, .int .i64 m, .int .u64 y1, .int .u64 y2] from X3.out)
        have R4 := hid R3.out.drew
        have B4 := hid B3.out.drew
        clear P3 X3 R3 B3
        go_upto_region 8 with (fail)
        generalize w3.drew = w4 at *
        have v0 := P4.out.c0
        have f0 := P4.out.2.2 0
        go_upto_region 9 with (fail)
        have P5 := hid (P4.out.ver (p.v + 1))
        have X5 := hid (X4.out.oth (c := P) (j := 0) (v := .int .i64 (p.v + 1)) dPE)
        have R5 := hid (R4.out.other (c := P) (j := 0) (v := .int .i64 (p.v + 1)) dPR)
        have B5 := hid (B4.out.setCell (p := ⟨P, 0, none⟩) (Nat.le_refl _) (.int .i64 (p.v + 1)))
        clear v0 f0 P4 X4 R4 B4
        generalize w4.setCell ⟨P, 0, none⟩ (.int .i64 (p.v + 1)) = w5 at *
        have c1 := X5.out.2.1 1 _ rfl
        have LK := P5.out.loadK i h64
        try simp only at LK
        rw [← HSL.out] at LK
        unfold spV at LK
        try simp only at LK
        go_upto_region 10 with ((with_reducible refine wl_id ?_); refine wl_load rfl rfl rfl LK ?_)
        clear c1 LK
        have lV : P ≤ w5.heap.size := Nat.le_of_lt P5.out.1
        have dVP : w5.heap.size ≠ P := Nat.ne_of_gt P5.out.1
        have dVE : w5.heap.size ≠ E := Nat.ne_of_gt X5.out.1
        have dVR : w5.heap.size ≠ R := Nat.ne_of_gt R5.out.1
        have P6 := hid (P5.out.alloc (.cells #[.int .i64 st, .int .i64 ad, .int .i64 po, .int .i64 we, .int .i64 si] 25))
        have X6 := hid (X5.out.alloc (.cells #[.int .i64 st, .int .i64 ad, .int .i64 po, .int .i64 we, .int .i64 si] 25))
        have R6 := hid (R5.out.alloc (.cells #[.int .i64 st, .int .i64 ad, .int .i64 po, .int .i64 we, .int .i64 si] 25))
        have CV := hid (Ce.made (w := w5) (l := [.int .i64 st, .int .i64 ad, .int .i64 po, .int .i64 we, .int .i64 si]) (T := 25) (g := w5.heap.size) rfl)
        have B6 := hid (B5.out.alloc lV (.cells #[.int .i64 st, .int .i64 ad, .int .i64 po, .int .i64 we, .int .i64 si] 25))
        clear P5 X5 R5 B5
        generalize w5.alloc (.cells #[.int .i64 st, .int .i64 ad, .int .i64 po, .int .i64 we, .int .i64 si] 25) = w6 at *
        generalize w5.heap.size = V at *
        have c0 := X6.out.2.1 0 _ rfl
        have c2 := X6.out.2.1 2 _ rfl
        have c3 := X6.out.2.1 3 _ rfl
        have c4 := X6.out.2.1 4 _ rfl
        have v0 := CV.out.2.1 0 _ rfl
        have g0 := CV.out.2.2 0
        have v1 := CV.out.2.1 1 _ rfl
        have g1 := CV.out.2.2 1
        have v2 := CV.out.2.1 2 _ rfl
        have g2 := CV.out.2.2 2
        have v3 := CV.out.2.1 3 _ rfl
        have g3 := CV.out.2.2 3
        have v4 := CV.out.2.1 4 _ rfl
        have g4 := CV.out.2.2 4
        have P8 := hid ((((((P6.out).other (c := V) (j := 0) (v := .int .i64 1) dVP).other (c := V) (j := 1) (v := .int .i64 a) dVP).other (c := V) (j := 2) (v := .int .i64 q) dVP).other (c := V) (j := 3) (v := .int .i64 m) dVP).other (c := V) (j := 4) (v := .int .i64 0) dVP)
        have X8 := hid ((((((X6.out).oth (c := V) (j := 0) (v := .int .i64 1) dVE).oth (c := V) (j := 1) (v := .int .i64 a) dVE).oth (c := V) (j := 2) (v := .int .i64 q) dVE).oth (c := V) (j := 3) (v := .int .i64 m) dVE).oth (c := V) (j := 4) (v := .int .i64 0) dVE)
        have R8 := hid ((((((R6.out).other (c := V) (j := 0) (v := .int .i64 1) dVR).other (c := V) (j := 1) (v := .int .i64 a) dVR).other (c := V) (j := 2) (v := .int .i64 q) dVR).other (c := V) (j := 3) (v := .int .i64 m) dVR).other (c := V) (j := 4) (v := .int .i64 0) dVR)
        have C8 := hid ((((((CV.out).set 0 (.int .i64 1) (by simp)).set 1 (.int .i64 a) (by simp)).set 2 (.int .i64 q) (by simp)).set 3 (.int .i64 m) (by simp)).set 4 (.int .i64 0) (by simp))
        have B8 := hid ((((((B6.out).setCell (p := ⟨V, 0, none⟩) lV (.int .i64 1)).setCell (p := ⟨V, 1, none⟩) lV (.int .i64 a)).setCell (p := ⟨V, 2, none⟩) lV (.int .i64 q)).setCell (p := ⟨V, 3, none⟩) lV (.int .i64 m)).setCell (p := ⟨V, 4, none⟩) lV (.int .i64 0))
        go_upto_region 23 with (fail)
        clear c0 c2 c3 c4 v0 g0 v1 g1 v2 g2 v3 g3 v4 g4
        generalize (((((w6.setCell ⟨V, 0, none⟩ (.int .i64 1)).setCell ⟨V, 1, none⟩ (.int .i64 a)).setCell ⟨V, 2, none⟩ (.int .i64 q)).setCell ⟨V, 3, none⟩ (.int .i64 m)).setCell ⟨V, 4, none⟩ (.int .i64 0)) = w8 at *
        have c1 := X8.out.2.1 1 _ rfl
        have v0 := C8.out.2.1 0 _ rfl
        have v1 := C8.out.2.1 1 _ rfl
        have v2 := C8.out.2.1 2 _ rfl
        have v3 := C8.out.2.1 3 _ rfl
        have v4 := C8.out.2.1 4 _ rfl
        have SR := hid (P8.out.storeK i h64 ⟨1, a, q, m, 0⟩)
        unfold spV at SR
        try simp only at SR
        have P9 := hid (P8.out.slot i h64 ⟨1, a, q, m, 0⟩)
        try simp only at P9
        have R9 := hid (R8.out.others (c := P) (o := 3 + i * 5) (vs := [.int .i64 1, .int .i64 a, .int .i64 q, .int .i64 m, .int .i64 0]) dPR)
        have B9 := hid (B8.out.trans (keeps_setCells P [.int .i64 1, .int .i64 a, .int .i64 q, .int .i64 m, .int .i64 0] (3 + i * 5) w8 P (Nat.le_refl _)))
        go_upto_region 24 with ((with_reducible refine wl_id ?_); refine wl_store rfl rfl rfl rfl SR.out ?_)
        clear SR P8 X8 R8 B8 C8 c1 v0 v1 v2 v3 v4
        generalize w8.setCells P (3 + i * 5) [.int .i64 1, .int .i64 a, .int .i64 q, .int .i64 m, .int .i64 0] = w9 at *
        have LP := P9.out.loadA
        have SR := hid (R9.out.storeA ⟨p.v + 1, p.a, p.p, setS p.s i ⟨1, a, q, m, 0⟩, p.r⟩)
        skip
        go_wp2_with (first | ((with_reducible refine wl_id ?_); refine wl_load rfl rfl rfl LP ?_) | ((with_reducible refine wl_id ?_); refine wl_store rfl rfl rfl rfl SR.out ?_; refine wl_val rfl rfl ?_; refine end_then ?_; apply_assumption; refine wp_ret ?_; (repeat refine ret_then ?_); (show bodyPost _ _ _ _ _ _); refine bodyPost_ret (v := .tuple #[.agg (PA ⟨p.v + 1, p.a, p.p, setS p.s i ⟨1, a, q, m, 0⟩, p.r⟩), .int .i64 0]) (results_c2 Tryz.results25 _ rfl rfl (R9.out.whole ⟨p.v + 1, p.a, p.p, setS p.s i ⟨1, a, q, m, 0⟩, p.r⟩)) rfl ⟨by simp only [eq_self, if_true, cond_false, Bool.not_true, Int.reduceBEq, Bool.false_and]; rw [HQ.out], by rw [HK.out]; exact B9.out.trans (keeps_setCells R (PA ⟨p.v + 1, p.a, p.p, setS p.s i ⟨1, a, q, m, 0⟩, p.r⟩).toList 0 w9 P lR)⟩))
      · simp only [show ((2 : Int) == 5) = false from rfl, Bool.true_and, Bool.false_and]
        obtain ⟨sl, hsl⟩ : ∃ sl, sl = p.s i := ⟨_, rfl⟩
        obtain ⟨st, ad, po, we, si⟩ := sl
        have HSL := hid hsl
        have HQ : Hid (nxP p ⟨2, (i : Int), a, q, m, ⟨y1, y2⟩⟩ = ⟨p.v + 1, p.a, p.p, setS p.s i ⟨2, ad, po, we, si⟩, p.r⟩) := hid (by unfold nxP chS; simp only [Int.toNat_natCast]; rw [← hsl]; rfl)
        clear hsl
        go_upto_region 6 with (fail)
        clear P1 X1 R1 B1 P2 X2 R2 B2 BD CK
        have c0 := X3.out.2.1 0 _ rfl
        refine wp_region_held_drew (S := fun w' => w'.cell? ⟨E, 0, none⟩ = some (.int .i64 2)) (by kernel_rfl) ?_ (fun hHeld => ?_)
        · exact c0
        refine tkq 0 (by assumption) ?_
        refine tkq 1 (by assumption) ?_
        refine tkq 2 (by assumption) ?_
        refine tkq 3 (by assumption) ?_
        refine tuq 4 (by assumption) ?_
        refine tuq 5 (by assumption) ?_
        refine tuq 6 (by assumption) ?_
        refine tuq 7 (by assumption) ?_
        refine tuq 8 (by assumption) ?_
        refine tuq 9 (by assumption) ?_
        refine tuq 10 (by assumption) ?_
        refine tuq 11 (by assumption) ?_
        refine tuq 12 (by assumption) ?_
        refine tuq 13 (by assumption) ?_
        refine tuq 14 (by assumption) ?_
        refine tkq 15 (by assumption) ?_
        refine wpAnyH_done (by kernel_rfl) ?_ _
        clear hHeld c0
        have P4 := hid P3.out.drew
        have X4 := hid (show Ce w3.drew E [.int .i64 2, .int .i64 (i : Int), .int .i64 a, .int .i64 q, .int .i64 m, .int .u64 y1, .int .u64 y2] from X3.out)
        have R4 := hid R3.out.drew
        have B4 := hid B3.out.drew
        clear P3 X3 R3 B3
        go_upto_region 8 with (fail)
        generalize w3.drew = w4 at *
        have v0 := P4.out.c0
        have f0 := P4.out.2.2 0
        go_upto_region 9 with (fail)
        have P5 := hid (P4.out.ver (p.v + 1))
        have X5 := hid (X4.out.oth (c := P) (j := 0) (v := .int .i64 (p.v + 1)) dPE)
        have R5 := hid (R4.out.other (c := P) (j := 0) (v := .int .i64 (p.v + 1)) dPR)
        have B5 := hid (B4.out.setCell (p := ⟨P, 0, none⟩) (Nat.le_refl _) (.int .i64 (p.v + 1)))
        clear v0 f0 P4 X4 R4 B4
        generalize w4.setCell ⟨P, 0, none⟩ (.int .i64 (p.v + 1)) = w5 at *
        have c1 := X5.out.2.1 1 _ rfl
        have LK := P5.out.loadK i h64
        try simp only at LK
        rw [← HSL.out] at LK
        unfold spV at LK
        try simp only at LK
        go_upto_region 10 with ((with_reducible refine wl_id ?_); refine wl_load rfl rfl rfl LK ?_)
        clear c1 LK
        have lV : P ≤ w5.heap.size := Nat.le_of_lt P5.out.1
        have dVP : w5.heap.size ≠ P := Nat.ne_of_gt P5.out.1
        have dVE : w5.heap.size ≠ E := Nat.ne_of_gt X5.out.1
        have dVR : w5.heap.size ≠ R := Nat.ne_of_gt R5.out.1
        have P6 := hid (P5.out.alloc (.cells #[.int .i64 st, .int .i64 ad, .int .i64 po, .int .i64 we, .int .i64 si] 25))
        have X6 := hid (X5.out.alloc (.cells #[.int .i64 st, .int .i64 ad, .int .i64 po, .int .i64 we, .int .i64 si] 25))
        have R6 := hid (R5.out.alloc (.cells #[.int .i64 st, .int .i64 ad, .int .i64 po, .int .i64 we, .int .i64 si] 25))
        have CV := hid (Ce.made (w := w5) (l := [.int .i64 st, .int .i64 ad, .int .i64 po, .int .i64 we, .int .i64 si]) (T := 25) (g := w5.heap.size) rfl)
        have B6 := hid (B5.out.alloc lV (.cells #[.int .i64 st, .int .i64 ad, .int .i64 po, .int .i64 we, .int .i64 si] 25))
        clear P5 X5 R5 B5
        generalize w5.alloc (.cells #[.int .i64 st, .int .i64 ad, .int .i64 po, .int .i64 we, .int .i64 si] 25) = w6 at *
        generalize w5.heap.size = V at *
        have c0 := X6.out.2.1 0 _ rfl
        have c2 := X6.out.2.1 2 _ rfl
        have c3 := X6.out.2.1 3 _ rfl
        have c4 := X6.out.2.1 4 _ rfl
        have v0 := CV.out.2.1 0 _ rfl
        have g0 := CV.out.2.2 0
        have v1 := CV.out.2.1 1 _ rfl
        have g1 := CV.out.2.2 1
        have v2 := CV.out.2.1 2 _ rfl
        have g2 := CV.out.2.2 2
        have v3 := CV.out.2.1 3 _ rfl
        have g3 := CV.out.2.2 3
        have v4 := CV.out.2.1 4 _ rfl
        have g4 := CV.out.2.2 4
        have P8 := hid ((P6.out).other (c := V) (j := 0) (v := .int .i64 2) dVP)
        have X8 := hid ((X6.out).oth (c := V) (j := 0) (v := .int .i64 2) dVE)
        have R8 := hid ((R6.out).other (c := V) (j := 0) (v := .int .i64 2) dVR)
        have C8 := hid ((CV.out).set 0 (.int .i64 2) (by simp))
        have B8 := hid ((B6.out).setCell (p := ⟨V, 0, none⟩) lV (.int .i64 2))
        go_upto_region 23 with (fail)
        clear c0 c2 c3 c4 v0 g0 v1 g1 v2 g2 v3 g3 v4 g4
        generalize (w6.setCell ⟨V, 0, none⟩ (.int .i64 2)) = w8 at *
        have c1 := X8.out.2.1 1 _ rfl
        have v0 := C8.out.2.1 0 _ rfl
        have v1 := C8.out.2.1 1 _ rfl
        have v2 := C8.out.2.1 2 _ rfl
        have v3 := C8.out.2.1 3 _ rfl
        have v4 := C8.out.2.1 4 _ rfl
        have SR := hid (P8.out.storeK i h64 ⟨2, ad, po, we, si⟩)
        unfold spV at SR
        try simp only at SR
        have P9 := hid (P8.out.slot i h64 ⟨2, ad, po, we, si⟩)
        try simp only at P9
        have R9 := hid (R8.out.others (c := P) (o := 3 + i * 5) (vs := [.int .i64 2, .int .i64 ad, .int .i64 po, .int .i64 we, .int .i64 si]) dPR)
        have B9 := hid (B8.out.trans (keeps_setCells P [.int .i64 2, .int .i64 ad, .int .i64 po, .int .i64 we, .int .i64 si] (3 + i * 5) w8 P (Nat.le_refl _)))
        go_upto_region 24 with ((with_reducible refine wl_id ?_); refine wl_store rfl rfl rfl rfl SR.out ?_)
        clear SR P8 X8 R8 B8 C8 c1 v0 v1 v2 v3 v4
        generalize w8.setCells P (3 + i * 5) [.int .i64 2, .int .i64 ad, .int .i64 po, .int .i64 we, .int .i64 si] = w9 at *
        have LP := P9.out.loadA
        have SR := hid (R9.out.storeA ⟨p.v + 1, p.a, p.p, setS p.s i ⟨2, ad, po, we, si⟩, p.r⟩)
        skip
        go_wp2_with (first | ((with_reducible refine wl_id ?_); refine wl_load rfl rfl rfl LP ?_) | ((with_reducible refine wl_id ?_); refine wl_store rfl rfl rfl rfl SR.out ?_; refine wl_val rfl rfl ?_; refine end_then ?_; apply_assumption; refine wp_ret ?_; (repeat refine ret_then ?_); (show bodyPost _ _ _ _ _ _); refine bodyPost_ret (v := .tuple #[.agg (PA ⟨p.v + 1, p.a, p.p, setS p.s i ⟨2, ad, po, we, si⟩, p.r⟩), .int .i64 0]) (results_c2 Tryz.results25 _ rfl rfl (R9.out.whole ⟨p.v + 1, p.a, p.p, setS p.s i ⟨2, ad, po, we, si⟩, p.r⟩)) rfl ⟨by simp only [eq_self, if_true, cond_false, Bool.not_true, Int.reduceBEq, Bool.false_and]; rw [HQ.out], by rw [HK.out]; exact B9.out.trans (keeps_setCells R (PA ⟨p.v + 1, p.a, p.p, setS p.s i ⟨2, ad, po, we, si⟩, p.r⟩).toList 0 w9 P lR)⟩))
      · simp only [show ((3 : Int) == 5) = false from rfl, Bool.true_and, Bool.false_and]
        obtain ⟨sl, hsl⟩ : ∃ sl, sl = p.s i := ⟨_, rfl⟩
        obtain ⟨st, ad, po, we, si⟩ := sl
        have HSL := hid hsl
        have HQ : Hid (nxP p ⟨3, (i : Int), a, q, m, ⟨y1, y2⟩⟩ = ⟨p.v + 1, p.a, p.p, setS p.s i ⟨3, ad, po, we, si⟩, p.r⟩) := hid (by unfold nxP chS; simp only [Int.toNat_natCast]; rw [← hsl]; rfl)
        clear hsl
        go_upto_region 6 with (fail)
        clear P1 X1 R1 B1 P2 X2 R2 B2 BD CK
        have c0 := X3.out.2.1 0 _ rfl
        refine wp_region_held_drew (S := fun w' => w'.cell? ⟨E, 0, none⟩ = some (.int .i64 3)) (by kernel_rfl) ?_ (fun hHeld => ?_)
        · exact c0
        refine tkq 0 (by assumption) ?_
        refine tkq 1 (by assumption) ?_
        refine tkq 2 (by assumption) ?_
        refine tkq 3 (by assumption) ?_
        refine tuq 4 (by assumption) ?_
        refine tuq 5 (by assumption) ?_
        refine tuq 6 (by assumption) ?_
        refine tuq 7 (by assumption) ?_
        refine tuq 8 (by assumption) ?_
        refine tuq 9 (by assumption) ?_
        refine tuq 10 (by assumption) ?_
        refine tuq 11 (by assumption) ?_
        refine tuq 12 (by assumption) ?_
        refine tuq 13 (by assumption) ?_
        refine tuq 14 (by assumption) ?_
        refine tkq 15 (by assumption) ?_
        refine wpAnyH_done (by kernel_rfl) ?_ _
        clear hHeld c0
        have P4 := hid P3.out.drew
        have X4 := hid (show Ce w3.drew E [.int .i64 3, .int .i64 (i : Int), .int .i64 a, .int .i64 q, .int .i64 m, .int .u64 y1, .int .u64 y2] from X3.out)
        have R4 := hid R3.out.drew
        have B4 := hid B3.out.drew
        clear P3 X3 R3 B3
        go_upto_region 8 with (fail)
        generalize w3.drew = w4 at *
        have v0 := P4.out.c0
        have f0 := P4.out.2.2 0
        go_upto_region 9 with (fail)
        have P5 := hid (P4.out.ver (p.v + 1))
        have X5 := hid (X4.out.oth (c := P) (j := 0) (v := .int .i64 (p.v + 1)) dPE)
        have R5 := hid (R4.out.other (c := P) (j := 0) (v := .int .i64 (p.v + 1)) dPR)
        have B5 := hid (B4.out.setCell (p := ⟨P, 0, none⟩) (Nat.le_refl _) (.int .i64 (p.v + 1)))
        clear v0 f0 P4 X4 R4 B4
        generalize w4.setCell ⟨P, 0, none⟩ (.int .i64 (p.v + 1)) = w5 at *
        have c1 := X5.out.2.1 1 _ rfl
        have LK := P5.out.loadK i h64
        try simp only at LK
        rw [← HSL.out] at LK
        unfold spV at LK
        try simp only at LK
        go_upto_region 10 with ((with_reducible refine wl_id ?_); refine wl_load rfl rfl rfl LK ?_)
        clear c1 LK
        have lV : P ≤ w5.heap.size := Nat.le_of_lt P5.out.1
        have dVP : w5.heap.size ≠ P := Nat.ne_of_gt P5.out.1
        have dVE : w5.heap.size ≠ E := Nat.ne_of_gt X5.out.1
        have dVR : w5.heap.size ≠ R := Nat.ne_of_gt R5.out.1
        have P6 := hid (P5.out.alloc (.cells #[.int .i64 st, .int .i64 ad, .int .i64 po, .int .i64 we, .int .i64 si] 25))
        have X6 := hid (X5.out.alloc (.cells #[.int .i64 st, .int .i64 ad, .int .i64 po, .int .i64 we, .int .i64 si] 25))
        have R6 := hid (R5.out.alloc (.cells #[.int .i64 st, .int .i64 ad, .int .i64 po, .int .i64 we, .int .i64 si] 25))
        have CV := hid (Ce.made (w := w5) (l := [.int .i64 st, .int .i64 ad, .int .i64 po, .int .i64 we, .int .i64 si]) (T := 25) (g := w5.heap.size) rfl)
        have B6 := hid (B5.out.alloc lV (.cells #[.int .i64 st, .int .i64 ad, .int .i64 po, .int .i64 we, .int .i64 si] 25))
        clear P5 X5 R5 B5
        generalize w5.alloc (.cells #[.int .i64 st, .int .i64 ad, .int .i64 po, .int .i64 we, .int .i64 si] 25) = w6 at *
        generalize w5.heap.size = V at *
        have c0 := X6.out.2.1 0 _ rfl
        have c2 := X6.out.2.1 2 _ rfl
        have c3 := X6.out.2.1 3 _ rfl
        have c4 := X6.out.2.1 4 _ rfl
        have v0 := CV.out.2.1 0 _ rfl
        have g0 := CV.out.2.2 0
        have v1 := CV.out.2.1 1 _ rfl
        have g1 := CV.out.2.2 1
        have v2 := CV.out.2.1 2 _ rfl
        have g2 := CV.out.2.2 2
        have v3 := CV.out.2.1 3 _ rfl
        have g3 := CV.out.2.2 3
        have v4 := CV.out.2.1 4 _ rfl
        have g4 := CV.out.2.2 4
        have P8 := hid ((P6.out).other (c := V) (j := 0) (v := .int .i64 3) dVP)
        have X8 := hid ((X6.out).oth (c := V) (j := 0) (v := .int .i64 3) dVE)
        have R8 := hid ((R6.out).other (c := V) (j := 0) (v := .int .i64 3) dVR)
        have C8 := hid ((CV.out).set 0 (.int .i64 3) (by simp))
        have B8 := hid ((B6.out).setCell (p := ⟨V, 0, none⟩) lV (.int .i64 3))
        go_upto_region 23 with (fail)
        clear c0 c2 c3 c4 v0 g0 v1 g1 v2 g2 v3 g3 v4 g4
        generalize (w6.setCell ⟨V, 0, none⟩ (.int .i64 3)) = w8 at *
        have c1 := X8.out.2.1 1 _ rfl
        have v0 := C8.out.2.1 0 _ rfl
        have v1 := C8.out.2.1 1 _ rfl
        have v2 := C8.out.2.1 2 _ rfl
        have v3 := C8.out.2.1 3 _ rfl
        have v4 := C8.out.2.1 4 _ rfl
        have SR := hid (P8.out.storeK i h64 ⟨3, ad, po, we, si⟩)
        unfold spV at SR
        try simp only at SR
        have P9 := hid (P8.out.slot i h64 ⟨3, ad, po, we, si⟩)
        try simp only at P9
        have R9 := hid (R8.out.others (c := P) (o := 3 + i * 5) (vs := [.int .i64 3, .int .i64 ad, .int .i64 po, .int .i64 we, .int .i64 si]) dPR)
        have B9 := hid (B8.out.trans (keeps_setCells P [.int .i64 3, .int .i64 ad, .int .i64 po, .int .i64 we, .int .i64 si] (3 + i * 5) w8 P (Nat.le_refl _)))
        go_upto_region 24 with ((with_reducible refine wl_id ?_); refine wl_store rfl rfl rfl rfl SR.out ?_)
        clear SR P8 X8 R8 B8 C8 c1 v0 v1 v2 v3 v4
        generalize w8.setCells P (3 + i * 5) [.int .i64 3, .int .i64 ad, .int .i64 po, .int .i64 we, .int .i64 si] = w9 at *
        have LP := P9.out.loadA
        have SR := hid (R9.out.storeA ⟨p.v + 1, p.a, p.p, setS p.s i ⟨3, ad, po, we, si⟩, p.r⟩)
        skip
        go_wp2_with (first | ((with_reducible refine wl_id ?_); refine wl_load rfl rfl rfl LP ?_) | ((with_reducible refine wl_id ?_); refine wl_store rfl rfl rfl rfl SR.out ?_; refine wl_val rfl rfl ?_; refine end_then ?_; apply_assumption; refine wp_ret ?_; (repeat refine ret_then ?_); (show bodyPost _ _ _ _ _ _); refine bodyPost_ret (v := .tuple #[.agg (PA ⟨p.v + 1, p.a, p.p, setS p.s i ⟨3, ad, po, we, si⟩, p.r⟩), .int .i64 0]) (results_c2 Tryz.results25 _ rfl rfl (R9.out.whole ⟨p.v + 1, p.a, p.p, setS p.s i ⟨3, ad, po, we, si⟩, p.r⟩)) rfl ⟨by simp only [eq_self, if_true, cond_false, Bool.not_true, Int.reduceBEq, Bool.false_and]; rw [HQ.out], by rw [HK.out]; exact B9.out.trans (keeps_setCells R (PA ⟨p.v + 1, p.a, p.p, setS p.s i ⟨3, ad, po, we, si⟩, p.r⟩).toList 0 w9 P lR)⟩))
      · simp only [show ((4 : Int) == 5) = false from rfl, Bool.true_and, Bool.false_and]
        obtain ⟨sl, hsl⟩ : ∃ sl, sl = p.s i := ⟨_, rfl⟩
        obtain ⟨st, ad, po, we, si⟩ := sl
        have HSL := hid hsl
        have HQ : Hid (nxP p ⟨4, (i : Int), a, q, m, ⟨y1, y2⟩⟩ = ⟨p.v + 1, p.a, p.p, setS p.s i ⟨4, ad, po, we, p.r.e⟩, p.r⟩) := hid (by unfold nxP chS; simp only [Int.toNat_natCast]; rw [← hsl]; rfl)
        clear hsl
        go_upto_region 6 with (fail)
        clear P1 X1 R1 B1 P2 X2 R2 B2 BD CK
        have c0 := X3.out.2.1 0 _ rfl
        refine wp_region_held_drew (S := fun w' => w'.cell? ⟨E, 0, none⟩ = some (.int .i64 4)) (by kernel_rfl) ?_ (fun hHeld => ?_)
        · exact c0
        refine tkq 0 (by assumption) ?_
        refine tkq 1 (by assumption) ?_
        refine tkq 2 (by assumption) ?_
        refine tkq 3 (by assumption) ?_
        refine tuq 4 (by assumption) ?_
        refine tuq 5 (by assumption) ?_
        refine tuq 6 (by assumption) ?_
        refine tuq 7 (by assumption) ?_
        refine tuq 8 (by assumption) ?_
        refine tuq 9 (by assumption) ?_
        refine tuq 10 (by assumption) ?_
        refine tuq 11 (by assumption) ?_
        refine tuq 12 (by assumption) ?_
        refine tuq 13 (by assumption) ?_
        refine tuq 14 (by assumption) ?_
        refine tkq 15 (by assumption) ?_
        refine wpAnyH_done (by kernel_rfl) ?_ _
        clear hHeld c0
        have P4 := hid P3.out.drew
        have X4 := hid (show Ce w3.drew E [.int .i64 4, .int .i64 (i : Int), .int .i64 a, .int .i64 q, .int .i64 m, .int .u64 y1, .int .u64 y2] from X3.out)
        have R4 := hid R3.out.drew
        have B4 := hid B3.out.drew
        clear P3 X3 R3 B3
        go_upto_region 8 with (fail)
        generalize w3.drew = w4 at *
        have v0 := P4.out.c0
        have f0 := P4.out.2.2 0
        go_upto_region 9 with (fail)
        have P5 := hid (P4.out.ver (p.v + 1))
        have X5 := hid (X4.out.oth (c := P) (j := 0) (v := .int .i64 (p.v + 1)) dPE)
        have R5 := hid (R4.out.other (c := P) (j := 0) (v := .int .i64 (p.v + 1)) dPR)
        have B5 := hid (B4.out.setCell (p := ⟨P, 0, none⟩) (Nat.le_refl _) (.int .i64 (p.v + 1)))
        clear v0 f0 P4 X4 R4 B4
        generalize w4.setCell ⟨P, 0, none⟩ (.int .i64 (p.v + 1)) = w5 at *
        have c1 := X5.out.2.1 1 _ rfl
        have LK := P5.out.loadK i h64
        try simp only at LK
        rw [← HSL.out] at LK
        unfold spV at LK
        try simp only at LK
        go_upto_region 10 with ((with_reducible refine wl_id ?_); refine wl_load rfl rfl rfl LK ?_)
        clear c1 LK
        have lV : P ≤ w5.heap.size := Nat.le_of_lt P5.out.1
        have dVP : w5.heap.size ≠ P := Nat.ne_of_gt P5.out.1
        have dVE : w5.heap.size ≠ E := Nat.ne_of_gt X5.out.1
        have dVR : w5.heap.size ≠ R := Nat.ne_of_gt R5.out.1
        have P6 := hid (P5.out.alloc (.cells #[.int .i64 st, .int .i64 ad, .int .i64 po, .int .i64 we, .int .i64 si] 25))
        have X6 := hid (X5.out.alloc (.cells #[.int .i64 st, .int .i64 ad, .int .i64 po, .int .i64 we, .int .i64 si] 25))
        have R6 := hid (R5.out.alloc (.cells #[.int .i64 st, .int .i64 ad, .int .i64 po, .int .i64 we, .int .i64 si] 25))
        have CV := hid (Ce.made (w := w5) (l := [.int .i64 st, .int .i64 ad, .int .i64 po, .int .i64 we, .int .i64 si]) (T := 25) (g := w5.heap.size) rfl)
        have B6 := hid (B5.out.alloc lV (.cells #[.int .i64 st, .int .i64 ad, .int .i64 po, .int .i64 we, .int .i64 si] 25))
        clear P5 X5 R5 B5
        generalize w5.alloc (.cells #[.int .i64 st, .int .i64 ad, .int .i64 po, .int .i64 we, .int .i64 si] 25) = w6 at *
        generalize w5.heap.size = V at *
        have c0 := X6.out.2.1 0 _ rfl
        have c2 := X6.out.2.1 2 _ rfl
        have c3 := X6.out.2.1 3 _ rfl
        have c4 := X6.out.2.1 4 _ rfl
        have cep : w6.cell? ⟨P, 323, none⟩ = some (.int .i64 p.r.e) := P6.out.cr 0 (by omega)
        have v0 := CV.out.2.1 0 _ rfl
        have g0 := CV.out.2.2 0
        have v1 := CV.out.2.1 1 _ rfl
        have g1 := CV.out.2.2 1
        have v2 := CV.out.2.1 2 _ rfl
        have g2 := CV.out.2.2 2
        have v3 := CV.out.2.1 3 _ rfl
        have g3 := CV.out.2.2 3
        have v4 := CV.out.2.1 4 _ rfl
        have g4 := CV.out.2.2 4
        have P8 := hid (((P6.out).other (c := V) (j := 0) (v := .int .i64 4) dVP).other (c := V) (j := 4) (v := .int .i64 p.r.e) dVP)
        have X8 := hid (((X6.out).oth (c := V) (j := 0) (v := .int .i64 4) dVE).oth (c := V) (j := 4) (v := .int .i64 p.r.e) dVE)
        have R8 := hid (((R6.out).other (c := V) (j := 0) (v := .int .i64 4) dVR).other (c := V) (j := 4) (v := .int .i64 p.r.e) dVR)
        have C8 := hid (((CV.out).set 0 (.int .i64 4) (by simp)).set 4 (.int .i64 p.r.e) (by simp))
        have B8 := hid (((B6.out).setCell (p := ⟨V, 0, none⟩) lV (.int .i64 4)).setCell (p := ⟨V, 4, none⟩) lV (.int .i64 p.r.e))
        go_upto_region 18 with (fail)
        replace P8 := hid P8.out.drew
        replace X8 := hid (show Ce (((w6.setCell ⟨V, 0, none⟩ (.int .i64 4)).setCell ⟨V, 4, none⟩ (.int .i64 p.r.e))).drew E [.int .i64 4, .int .i64 (i : Int), .int .i64 a, .int .i64 q, .int .i64 m, .int .u64 y1, .int .u64 y2] from X8.out)
        replace R8 := hid R8.out.drew
        replace B8 := hid B8.out.drew
        replace C8 := hid (show Ce (((w6.setCell ⟨V, 0, none⟩ (.int .i64 4)).setCell ⟨V, 4, none⟩ (.int .i64 p.r.e))).drew V _ from C8.out)
        go_region
        all_goals go_upto_region 23 with (fail)
        all_goals clear c0 c2 c3 c4 v0 g0 v1 g1 v2 g2 v3 g3 v4 g4 cep
        all_goals generalize ((w6.setCell ⟨V, 0, none⟩ (.int .i64 4)).setCell ⟨V, 4, none⟩ (.int .i64 p.r.e)).drew = w8 at *
        all_goals
          have c1 := X8.out.2.1 1 _ rfl
          have v0 := C8.out.2.1 0 _ rfl
          have v1 := C8.out.2.1 1 _ rfl
          have v2 := C8.out.2.1 2 _ rfl
          have v3 := C8.out.2.1 3 _ rfl
          have v4 := C8.out.2.1 4 _ rfl
          have SR := hid (P8.out.storeK i h64 ⟨4, ad, po, we, p.r.e⟩)
          unfold spV at SR
          try simp only at SR
          have P9 := hid (P8.out.slot i h64 ⟨4, ad, po, we, p.r.e⟩)
          try simp only at P9
          have R9 := hid (R8.out.others (c := P) (o := 3 + i * 5) (vs := [.int .i64 4, .int .i64 ad, .int .i64 po, .int .i64 we, .int .i64 p.r.e]) dPR)
          have B9 := hid (B8.out.trans (keeps_setCells P [.int .i64 4, .int .i64 ad, .int .i64 po, .int .i64 we, .int .i64 p.r.e] (3 + i * 5) w8 P (Nat.le_refl _)))
          go_upto_region 24 with ((with_reducible refine wl_id ?_); refine wl_store rfl rfl rfl rfl SR.out ?_)
          clear SR P8 X8 R8 B8 C8 c1 v0 v1 v2 v3 v4
          generalize w8.setCells P (3 + i * 5) [.int .i64 4, .int .i64 ad, .int .i64 po, .int .i64 we, .int .i64 p.r.e] = w9 at *
          have LP := P9.out.loadA
          have SR := hid (R9.out.storeA ⟨p.v + 1, p.a, p.p, setS p.s i ⟨4, ad, po, we, p.r.e⟩, p.r⟩)
          skip
          go_wp2_with (first | ((with_reducible refine wl_id ?_); refine wl_load rfl rfl rfl LP ?_) | ((with_reducible refine wl_id ?_); refine wl_store rfl rfl rfl rfl SR.out ?_; refine wl_val rfl rfl ?_; refine end_then ?_; apply_assumption; refine wp_ret ?_; (repeat refine ret_then ?_); (show bodyPost _ _ _ _ _ _); refine bodyPost_ret (v := .tuple #[.agg (PA ⟨p.v + 1, p.a, p.p, setS p.s i ⟨4, ad, po, we, p.r.e⟩, p.r⟩), .int .i64 0]) (results_c2 Tryz.results25 _ rfl rfl (R9.out.whole ⟨p.v + 1, p.a, p.p, setS p.s i ⟨4, ad, po, we, p.r.e⟩, p.r⟩)) rfl ⟨by simp only [eq_self, if_true, cond_false, Bool.not_true, Int.reduceBEq, Bool.false_and]; rw [HQ.out], by rw [HK.out]; exact B9.out.trans (keeps_setCells R (PA ⟨p.v + 1, p.a, p.p, setS p.s i ⟨4, ad, po, we, p.r.e⟩, p.r⟩).toList 0 w9 P lR)⟩))
      · simp only [show ((5 : Int) == 5) = true from rfl, Bool.true_and, Bool.false_and]
        cases d3 : decide (p.r.e < (p.s i).si + 3)
        · obtain ⟨sl, hsl⟩ : ∃ sl, sl = p.s i := ⟨_, rfl⟩
          obtain ⟨st, ad, po, we, si⟩ := sl
          have HSL := hid hsl
          have HQ : Hid (nxP p ⟨5, (i : Int), a, q, m, ⟨y1, y2⟩⟩ = ⟨p.v + 1, p.a, p.p, setS p.s i zSp, p.r⟩) := hid (by unfold nxP chS; simp only [Int.toNat_natCast]; rw [← hsl]; rfl)
          clear hsl
          go_upto_region 6 with (fail)
          clear P1 X1 R1 B1 P2 X2 R2 B2 BD CK
          have c0 := X3.out.2.1 0 _ rfl
          have c1 := X3.out.2.1 1 _ rfl
          have cep : w3.cell? ⟨P, 323, none⟩ = some (.int .i64 p.r.e) := P3.out.cr 0 (by omega)
          have csi : w3.cell? ⟨P, 3 + i * 5 + 4, none⟩ = some (.int .i64 (p.s i).si) := P3.out.cs i 4 h64 (by omega)
          refine wp_region_held_drew (S := fun w' => w'.cell? ⟨E, 0, none⟩ = some (.int .i64 5) ∧ w'.cell? ⟨E, 1, none⟩ = some (.int .i64 (i : Int)) ∧ w'.cell? ⟨P, 323, none⟩ = some (.int .i64 p.r.e) ∧ w'.cell? ⟨P, 3 + i * 5 + 4, none⟩ = some (.int .i64 (p.s i).si)) (by kernel_rfl) ?_ (fun hHeld => ?_)
          · exact ⟨c0, c1, cep, csi⟩
          refine tkq 0 (by assumption) ?_ (hy := by intro w hSw; (try dsimp only at hSw); obtain ⟨s0, s1, s2, s3⟩ := hSw; go_simp; (try with_reducible rfl))
          refine tkq 1 (by assumption) ?_ (hy := by intro w hSw; (try dsimp only at hSw); obtain ⟨s0, s1, s2, s3⟩ := hSw; go_simp; (try with_reducible rfl))
          refine tkq 2 (by assumption) ?_ (hy := by intro w hSw; (try dsimp only at hSw); obtain ⟨s0, s1, s2, s3⟩ := hSw; go_simp; (try with_reducible rfl))
          refine tkq 3 (by assumption) ?_ (hy := by intro w hSw; (try dsimp only at hSw); obtain ⟨s0, s1, s2, s3⟩ := hSw; go_simp; (try with_reducible rfl))
          refine tkq 4 (by assumption) ?_ (hy := by intro w hSw; (try dsimp only at hSw); obtain ⟨s0, s1, s2, s3⟩ := hSw; go_simp; (try with_reducible rfl))
          refine tkq 5 (by assumption) ?_ (hy := by intro w hSw; (try dsimp only at hSw); obtain ⟨s0, s1, s2, s3⟩ := hSw; go_simp; (try with_reducible rfl))
          refine tkq 6 (by assumption) ?_ (hy := by intro w hSw; (try dsimp only at hSw); obtain ⟨s0, s1, s2, s3⟩ := hSw; go_simp; (try with_reducible rfl))
          refine tkq 7 (by assumption) ?_ (hy := by intro w hSw; (try dsimp only at hSw); obtain ⟨s0, s1, s2, s3⟩ := hSw; go_simp; (try with_reducible rfl))
          refine tkq 8 (by assumption) ?_ (hy := by intro w hSw; (try dsimp only at hSw); obtain ⟨s0, s1, s2, s3⟩ := hSw; go_simp; (try with_reducible rfl))
          refine tkq 9 (by assumption) ?_ (hy := by intro w hSw; (try dsimp only at hSw); obtain ⟨s0, s1, s2, s3⟩ := hSw; go_simp; (try with_reducible rfl))
          refine tkq 10 (by assumption) ?_ (hy := by intro w hSw; (try dsimp only at hSw); obtain ⟨s0, s1, s2, s3⟩ := hSw; go_simp; (try with_reducible rfl))
          refine tkq 11 (by assumption) ?_ (hy := by intro w hSw; (try dsimp only at hSw); obtain ⟨s0, s1, s2, s3⟩ := hSw; go_simp; (try with_reducible rfl))
          refine tkq 12 (by assumption) ?_ (hy := by intro w hSw; (try dsimp only at hSw); obtain ⟨s0, s1, s2, s3⟩ := hSw; go_simp; (try with_reducible rfl))
          refine tkq 13 (by assumption) ?_ (hy := by intro w hSw; (try dsimp only at hSw); obtain ⟨s0, s1, s2, s3⟩ := hSw; go_simp; (try with_reducible rfl))
          refine tkq 14 (by assumption) ?_ (hy := by intro w hSw; (try dsimp only at hSw); obtain ⟨s0, s1, s2, s3⟩ := hSw; go_simp; (try with_reducible rfl))
          refine tkq 15 (by assumption) ?_ (hy := by intro w hSw; (try dsimp only at hSw); obtain ⟨s0, s1, s2, s3⟩ := hSw; go_simp; (try with_reducible rfl))
          refine wpAnyH_done (by kernel_rfl) ?_ _
          clear hHeld c0 c1 cep csi
          have P4 := hid P3.out.drew
          have X4 := hid (show Ce w3.drew E [.int .i64 5, .int .i64 (i : Int), .int .i64 a, .int .i64 q, .int .i64 m, .int .u64 y1, .int .u64 y2] from X3.out)
          have R4 := hid R3.out.drew
          have B4 := hid B3.out.drew
          clear P3 X3 R3 B3
          go_upto_region 8 with (fail)
          generalize w3.drew = w4 at *
          have v0 := P4.out.c0
          have f0 := P4.out.2.2 0
          go_upto_region 9 with (fail)
          have P5 := hid (P4.out.ver (p.v + 1))
          have X5 := hid (X4.out.oth (c := P) (j := 0) (v := .int .i64 (p.v + 1)) dPE)
          have R5 := hid (R4.out.other (c := P) (j := 0) (v := .int .i64 (p.v + 1)) dPR)
          have B5 := hid (B4.out.setCell (p := ⟨P, 0, none⟩) (Nat.le_refl _) (.int .i64 (p.v + 1)))
          clear v0 f0 P4 X4 R4 B4
          generalize w4.setCell ⟨P, 0, none⟩ (.int .i64 (p.v + 1)) = w5 at *
          have c1 := X5.out.2.1 1 _ rfl
          have LK := P5.out.loadK i h64
          try simp only at LK
          rw [← HSL.out] at LK
          unfold spV at LK
          try simp only at LK
          go_upto_region 10 with ((with_reducible refine wl_id ?_); refine wl_load rfl rfl rfl LK ?_)
          clear c1 LK
          have lV : P ≤ w5.heap.size := Nat.le_of_lt P5.out.1
          have dVP : w5.heap.size ≠ P := Nat.ne_of_gt P5.out.1
          have dVE : w5.heap.size ≠ E := Nat.ne_of_gt X5.out.1
          have dVR : w5.heap.size ≠ R := Nat.ne_of_gt R5.out.1
          have P6 := hid (P5.out.alloc (.cells #[.int .i64 st, .int .i64 ad, .int .i64 po, .int .i64 we, .int .i64 si] 25))
          have X6 := hid (X5.out.alloc (.cells #[.int .i64 st, .int .i64 ad, .int .i64 po, .int .i64 we, .int .i64 si] 25))
          have R6 := hid (R5.out.alloc (.cells #[.int .i64 st, .int .i64 ad, .int .i64 po, .int .i64 we, .int .i64 si] 25))
          have CV := hid (Ce.made (w := w5) (l := [.int .i64 st, .int .i64 ad, .int .i64 po, .int .i64 we, .int .i64 si]) (T := 25) (g := w5.heap.size) rfl)
          have B6 := hid (B5.out.alloc lV (.cells #[.int .i64 st, .int .i64 ad, .int .i64 po, .int .i64 we, .int .i64 si] 25))
          clear P5 X5 R5 B5
          generalize w5.alloc (.cells #[.int .i64 st, .int .i64 ad, .int .i64 po, .int .i64 we, .int .i64 si] 25) = w6 at *
          generalize w5.heap.size = V at *
          have c0 := X6.out.2.1 0 _ rfl
          have c2 := X6.out.2.1 2 _ rfl
          have c3 := X6.out.2.1 3 _ rfl
          have c4 := X6.out.2.1 4 _ rfl
          have v0 := CV.out.2.1 0 _ rfl
          have g0 := CV.out.2.2 0
          have v1 := CV.out.2.1 1 _ rfl
          have g1 := CV.out.2.2 1
          have v2 := CV.out.2.1 2 _ rfl
          have g2 := CV.out.2.2 2
          have v3 := CV.out.2.1 3 _ rfl
          have g3 := CV.out.2.2 3
          have v4 := CV.out.2.1 4 _ rfl
          have g4 := CV.out.2.2 4
          have P8 := hid ((((((P6.out).other (c := V) (j := 0) (v := .int .i64 0) dVP).other (c := V) (j := 1) (v := .int .i64 0) dVP).other (c := V) (j := 2) (v := .int .i64 0) dVP).other (c := V) (j := 3) (v := .int .i64 0) dVP).other (c := V) (j := 4) (v := .int .i64 0) dVP)
          have X8 := hid ((((((X6.out).oth (c := V) (j := 0) (v := .int .i64 0) dVE).oth (c := V) (j := 1) (v := .int .i64 0) dVE).oth (c := V) (j := 2) (v := .int .i64 0) dVE).oth (c := V) (j := 3) (v := .int .i64 0) dVE).oth (c := V) (j := 4) (v := .int .i64 0) dVE)
          have R8 := hid ((((((R6.out).other (c := V) (j := 0) (v := .int .i64 0) dVR).other (c := V) (j := 1) (v := .int .i64 0) dVR).other (c := V) (j := 2) (v := .int .i64 0) dVR).other (c := V) (j := 3) (v := .int .i64 0) dVR).other (c := V) (j := 4) (v := .int .i64 0) dVR)
          have C8 := hid ((((((CV.out).set 0 (.int .i64 0) (by simp)).set 1 (.int .i64 0) (by simp)).set 2 (.int .i64 0) (by simp)).set 3 (.int .i64 0) (by simp)).set 4 (.int .i64 0) (by simp))
          have B8 := hid ((((((B6.out).setCell (p := ⟨V, 0, none⟩) lV (.int .i64 0)).setCell (p := ⟨V, 1, none⟩) lV (.int .i64 0)).setCell (p := ⟨V, 2, none⟩) lV (.int .i64 0)).setCell (p := ⟨V, 3, none⟩) lV (.int .i64 0)).setCell (p := ⟨V, 4, none⟩) lV (.int .i64 0))
          go_upto_region 23 with (fail)
          clear c0 c2 c3 c4 v0 g0 v1 g1 v2 g2 v3 g3 v4 g4
          generalize (((((w6.setCell ⟨V, 0, none⟩ (.int .i64 0)).setCell ⟨V, 1, none⟩ (.int .i64 0)).setCell ⟨V, 2, none⟩ (.int .i64 0)).setCell ⟨V, 3, none⟩ (.int .i64 0)).setCell ⟨V, 4, none⟩ (.int .i64 0)) = w8 at *
          have c1 := X8.out.2.1 1 _ rfl
          have v0 := C8.out.2.1 0 _ rfl
          have v1 := C8.out.2.1 1 _ rfl
          have v2 := C8.out.2.1 2 _ rfl
          have v3 := C8.out.2.1 3 _ rfl
          have v4 := C8.out.2.1 4 _ rfl
          have SR := hid (P8.out.storeK i h64 zSp)
          unfold spV zSp at SR
          try simp only at SR
          have P9 := hid (P8.out.slot i h64 zSp)
          try simp only at P9
          unfold zSp at P9
          try simp only at P9
          have R9 := hid (R8.out.others (c := P) (o := 3 + i * 5) (vs := [.int .i64 0, .int .i64 0, .int .i64 0, .int .i64 0, .int .i64 0]) dPR)
          have B9 := hid (B8.out.trans (keeps_setCells P [.int .i64 0, .int .i64 0, .int .i64 0, .int .i64 0, .int .i64 0] (3 + i * 5) w8 P (Nat.le_refl _)))
          go_upto_region 24 with ((with_reducible refine wl_id ?_); refine wl_store rfl rfl rfl rfl SR.out ?_)
          clear SR P8 X8 R8 B8 C8 c1 v0 v1 v2 v3 v4
          generalize w8.setCells P (3 + i * 5) [.int .i64 0, .int .i64 0, .int .i64 0, .int .i64 0, .int .i64 0] = w9 at *
          have P9' := hid (show PoolAt w9 P ⟨p.v + 1, p.a, p.p, setS p.s i zSp, p.r⟩ from P9.out)
          clear P9
          have LP := P9'.out.loadA
          have SR := hid (R9.out.storeA ⟨p.v + 1, p.a, p.p, setS p.s i zSp, p.r⟩)
          skip
          go_wp2_with (first | ((with_reducible refine wl_id ?_); refine wl_load rfl rfl rfl LP ?_) | ((with_reducible refine wl_id ?_); refine wl_store rfl rfl rfl rfl SR.out ?_; refine wl_val rfl rfl ?_; refine end_then ?_; apply_assumption; refine wp_ret ?_; (repeat refine ret_then ?_); (show bodyPost _ _ _ _ _ _); refine bodyPost_ret (v := .tuple #[.agg (PA ⟨p.v + 1, p.a, p.p, setS p.s i zSp, p.r⟩), .int .i64 0]) (results_c2 Tryz.results25 _ rfl rfl (R9.out.whole ⟨p.v + 1, p.a, p.p, setS p.s i zSp, p.r⟩)) rfl ⟨by simp only [eq_self, if_true, cond_false, Bool.not_true, Int.reduceBEq, d3, Bool.and_false]; rw [HQ.out], by rw [HK.out]; exact B9.out.trans (keeps_setCells R (PA ⟨p.v + 1, p.a, p.p, setS p.s i zSp, p.r⟩).toList 0 w9 P lR)⟩))
        · go_upto_region 6 with (fail)
          clear P1 X1 R1 B1 P2 X2 R2 B2 BD CK
          have c0 := X3.out.2.1 0 _ rfl
          have c1 := X3.out.2.1 1 _ rfl
          have cep : w3.cell? ⟨P, 323, none⟩ = some (.int .i64 p.r.e) := P3.out.cr 0 (by omega)
          have csi : w3.cell? ⟨P, 3 + i * 5 + 4, none⟩ = some (.int .i64 (p.s i).si) := P3.out.cs i 4 h64 (by omega)
          refine wp_region_held_drew (S := fun w' => w'.cell? ⟨E, 0, none⟩ = some (.int .i64 5) ∧ w'.cell? ⟨E, 1, none⟩ = some (.int .i64 (i : Int)) ∧ w'.cell? ⟨P, 323, none⟩ = some (.int .i64 p.r.e) ∧ w'.cell? ⟨P, 3 + i * 5 + 4, none⟩ = some (.int .i64 (p.s i).si)) (by kernel_rfl) ?_ (fun hHeld => ?_)
          · exact ⟨c0, c1, cep, csi⟩
          refine tkq 0 (by assumption) ?_ (hy := by intro w hSw; (try dsimp only at hSw); obtain ⟨s0, s1, s2, s3⟩ := hSw; go_simp; (try with_reducible rfl))
          refine tkq 1 (by assumption) ?_ (hy := by intro w hSw; (try dsimp only at hSw); obtain ⟨s0, s1, s2, s3⟩ := hSw; go_simp; (try with_reducible rfl))
          refine tkq 2 (by assumption) ?_ (hy := by intro w hSw; (try dsimp only at hSw); obtain ⟨s0, s1, s2, s3⟩ := hSw; go_simp; (try with_reducible rfl))
          refine tkq 3 (by assumption) ?_ (hy := by intro w hSw; (try dsimp only at hSw); obtain ⟨s0, s1, s2, s3⟩ := hSw; go_simp; (try with_reducible rfl))
          refine tkq 4 (by assumption) ?_ (hy := by intro w hSw; (try dsimp only at hSw); obtain ⟨s0, s1, s2, s3⟩ := hSw; go_simp; (try with_reducible rfl))
          refine tkq 5 (by assumption) ?_ (hy := by intro w hSw; (try dsimp only at hSw); obtain ⟨s0, s1, s2, s3⟩ := hSw; go_simp; (try with_reducible rfl))
          refine tkq 6 (by assumption) ?_ (hy := by intro w hSw; (try dsimp only at hSw); obtain ⟨s0, s1, s2, s3⟩ := hSw; go_simp; (try with_reducible rfl))
          refine tkq 7 (by assumption) ?_ (hy := by intro w hSw; (try dsimp only at hSw); obtain ⟨s0, s1, s2, s3⟩ := hSw; go_simp; (try with_reducible rfl))
          refine tkq 8 (by assumption) ?_ (hy := by intro w hSw; (try dsimp only at hSw); obtain ⟨s0, s1, s2, s3⟩ := hSw; go_simp; (try with_reducible rfl))
          refine tkq 9 (by assumption) ?_ (hy := by intro w hSw; (try dsimp only at hSw); obtain ⟨s0, s1, s2, s3⟩ := hSw; go_simp; (try with_reducible rfl))
          refine tkq 10 (by assumption) ?_ (hy := by intro w hSw; (try dsimp only at hSw); obtain ⟨s0, s1, s2, s3⟩ := hSw; go_simp; (try with_reducible rfl))
          refine tkq 11 (by assumption) ?_ (hy := by intro w hSw; (try dsimp only at hSw); obtain ⟨s0, s1, s2, s3⟩ := hSw; go_simp; (try with_reducible rfl))
          refine tkq 12 (by assumption) ?_ (hy := by intro w hSw; (try dsimp only at hSw); obtain ⟨s0, s1, s2, s3⟩ := hSw; go_simp; (try with_reducible rfl))
          refine tkq 13 (by assumption) ?_ (hy := by intro w hSw; (try dsimp only at hSw); obtain ⟨s0, s1, s2, s3⟩ := hSw; go_simp; (try with_reducible rfl))
          refine tkq 14 (by assumption) ?_ (hy := by intro w hSw; (try dsimp only at hSw); obtain ⟨s0, s1, s2, s3⟩ := hSw; go_simp; (try with_reducible rfl))
          refine tkq 15 (by assumption) ?_ (hy := by intro w hSw; (try dsimp only at hSw); obtain ⟨s0, s1, s2, s3⟩ := hSw; go_simp; (try with_reducible rfl))
          refine wpAnyH_done (by kernel_rfl) ?_ _
          clear hHeld c0 c1 cep csi
          have P4 := hid P3.out.drew
          have X4 := hid (show Ce w3.drew E [.int .i64 5, .int .i64 (i : Int), .int .i64 a, .int .i64 q, .int .i64 m, .int .u64 y1, .int .u64 y2] from X3.out)
          have R4 := hid R3.out.drew
          have B4 := hid B3.out.drew
          clear P3 X3 R3 B3
          go_upto_region 7 with (fail)
          generalize w3.drew = w4 at *
          have SR := hid (R4.out.storeA zPl)
          skip
          go_wp2_with (first | ((with_reducible refine wl_id ?_); refine wl_build0 rfl rfl (build_zz _) ?_) | ((with_reducible refine wl_id ?_); refine wl_store rfl rfl rfl rfl SR.out ?_; refine wl_val rfl rfl ?_; refine end_then ?_; apply_assumption; refine wp_ret ?_; (repeat refine ret_then ?_); (show bodyPost _ _ _ _ _ _); refine bodyPost_ret (v := .tuple #[.agg (PA zPl), .int .i64 13]) (results_c2 Tryz.results25 _ rfl rfl (R4.out.whole zPl)) rfl ⟨by simp only [eq_self, if_true, cond_false, cond_true, Bool.not_true, Int.reduceBEq, Bool.true_and, d3]; rw [if_neg (by decide)], by rw [HK.out]; exact B4.out.trans (keeps_setCells R (PA zPl).toList 0 w4 P lR)⟩))
      · simp only [show ((6 : Int) == 5) = false from rfl, Bool.true_and, Bool.false_and]
        obtain ⟨sl, hsl⟩ : ∃ sl, sl = p.s i := ⟨_, rfl⟩
        obtain ⟨st, ad, po, we, si⟩ := sl
        have HSL := hid hsl
        have HQ : Hid (nxP p ⟨6, (i : Int), a, q, m, ⟨y1, y2⟩⟩ = ⟨p.v + 1, p.a, p.p, setS p.s i ⟨st, ad, po, we, si⟩, ⟨p.r.e + 1, p.r.c, p.r.n, ⟨y1, y2⟩⟩⟩) := hid (by have h0 : i = 0 := (by have := hr0.out rfl; omega); rw [hsl, setS_same]; rfl)
        clear hsl
        go_upto_region 6 with (fail)
        clear P1 X1 R1 B1 P2 X2 R2 B2 BD CK
        have c0 := X3.out.2.1 0 _ rfl
        refine wp_region_held_drew (S := fun w' => w'.cell? ⟨E, 0, none⟩ = some (.int .i64 6)) (by kernel_rfl) ?_ (fun hHeld => ?_)
        · exact c0
        refine tkq 0 (by assumption) ?_
        refine tkq 1 (by assumption) ?_
        refine tkq 2 (by assumption) ?_
        refine tkq 3 (by assumption) ?_
        refine tuq 4 (by assumption) ?_
        refine tuq 5 (by assumption) ?_
        refine tuq 6 (by assumption) ?_
        refine tuq 7 (by assumption) ?_
        refine tuq 8 (by assumption) ?_
        refine tuq 9 (by assumption) ?_
        refine tuq 10 (by assumption) ?_
        refine tuq 11 (by assumption) ?_
        refine tuq 12 (by assumption) ?_
        refine tuq 13 (by assumption) ?_
        refine tuq 14 (by assumption) ?_
        refine tkq 15 (by assumption) ?_
        refine wpAnyH_done (by kernel_rfl) ?_ _
        clear hHeld c0
        have P4 := hid P3.out.drew
        have X4 := hid (show Ce w3.drew E [.int .i64 6, .int .i64 (i : Int), .int .i64 a, .int .i64 q, .int .i64 m, .int .u64 y1, .int .u64 y2] from X3.out)
        have R4 := hid R3.out.drew
        have B4 := hid B3.out.drew
        clear P3 X3 R3 B3
        go_upto_region 8 with (fail)
        generalize w3.drew = w4 at *
        have v0 := P4.out.c0
        have f0 := P4.out.2.2 0
        go_upto_region 9 with (fail)
        have P5 := hid (P4.out.ver (p.v + 1))
        have X5 := hid (X4.out.oth (c := P) (j := 0) (v := .int .i64 (p.v + 1)) dPE)
        have R5 := hid (R4.out.other (c := P) (j := 0) (v := .int .i64 (p.v + 1)) dPR)
        have B5 := hid (B4.out.setCell (p := ⟨P, 0, none⟩) (Nat.le_refl _) (.int .i64 (p.v + 1)))
        clear v0 f0 P4 X4 R4 B4
        generalize w4.setCell ⟨P, 0, none⟩ (.int .i64 (p.v + 1)) = w5 at *
        have c1 := X5.out.2.1 1 _ rfl
        have LK := P5.out.loadK i h64
        try simp only at LK
        rw [← HSL.out] at LK
        unfold spV at LK
        try simp only at LK
        go_upto_region 10 with ((with_reducible refine wl_id ?_); refine wl_load rfl rfl rfl LK ?_)
        clear c1 LK
        have lV : P ≤ w5.heap.size := Nat.le_of_lt P5.out.1
        have dVP : w5.heap.size ≠ P := Nat.ne_of_gt P5.out.1
        have dVE : w5.heap.size ≠ E := Nat.ne_of_gt X5.out.1
        have dVR : w5.heap.size ≠ R := Nat.ne_of_gt R5.out.1
        have P6 := hid (P5.out.alloc (.cells #[.int .i64 st, .int .i64 ad, .int .i64 po, .int .i64 we, .int .i64 si] 25))
        have X6 := hid (X5.out.alloc (.cells #[.int .i64 st, .int .i64 ad, .int .i64 po, .int .i64 we, .int .i64 si] 25))
        have R6 := hid (R5.out.alloc (.cells #[.int .i64 st, .int .i64 ad, .int .i64 po, .int .i64 we, .int .i64 si] 25))
        have CV := hid (Ce.made (w := w5) (l := [.int .i64 st, .int .i64 ad, .int .i64 po, .int .i64 we, .int .i64 si]) (T := 25) (g := w5.heap.size) rfl)
        have B6 := hid (B5.out.alloc lV (.cells #[.int .i64 st, .int .i64 ad, .int .i64 po, .int .i64 we, .int .i64 si] 25))
        clear P5 X5 R5 B5
        generalize w5.alloc (.cells #[.int .i64 st, .int .i64 ad, .int .i64 po, .int .i64 we, .int .i64 si] 25) = w6 at *
        generalize w5.heap.size = V at *
        have c0 := X6.out.2.1 0 _ rfl
        have c2 := X6.out.2.1 2 _ rfl
        have c3 := X6.out.2.1 3 _ rfl
        have c4 := X6.out.2.1 4 _ rfl
        have c5 := X6.out.2.1 5 _ rfl
        have c6 := X6.out.2.1 6 _ rfl
        have v0 := CV.out.2.1 0 _ rfl
        have g0 := CV.out.2.2 0
        have v1 := CV.out.2.1 1 _ rfl
        have g1 := CV.out.2.2 1
        have v2 := CV.out.2.1 2 _ rfl
        have g2 := CV.out.2.2 2
        have v3 := CV.out.2.1 3 _ rfl
        have g3 := CV.out.2.2 3
        have v4 := CV.out.2.1 4 _ rfl
        have g4 := CV.out.2.2 4
        have LR := P6.out.loadR
        try simp only at LR
        unfold rgV at LR
        go_wp2_with ((with_reducible refine wl_id ?_); refine wl_load rfl rfl rfl LR ?_)
        refine (NX.out _).mono ?_
        rintro x w7 ⟨rfl, hb⟩
        clear c0 c2 c3 c4 v0 g0 v1 g1 v2 g2 v3 g3 v4 g4 c5 c6
        have P7 := hid (P6.out.below hb)
        have X7 := hid (X6.out.below hb)
        have R7 := hid (R6.out.below hb)
        have C7 := hid (CV.out.below hb)
        have B7 := hid (B6.out.trans (hb.mono (Nat.le_of_lt P6.out.1)))
        clear hb LR P6 X6 R6 CV B6
        have SR := hid (P7.out.storeR ⟨p.r.e + 1, p.r.c, p.r.n, ⟨y1, y2⟩⟩)
        have P8 := hid (P7.out.ring ⟨p.r.e + 1, p.r.c, p.r.n, ⟨y1, y2⟩⟩)
        have X8 := hid (X7.out.oths (c := P) (o := 323) (vs := [.int .i64 (p.r.e + 1), .int .u64 p.r.c.a, .int .u64 p.r.c.b, .int .u64 p.r.n.a, .int .u64 p.r.n.b, .int .u64 y1, .int .u64 y2]) dPE)
        have R8 := hid (R7.out.others (c := P) (o := 323) (vs := [.int .i64 (p.r.e + 1), .int .u64 p.r.c.a, .int .u64 p.r.c.b, .int .u64 p.r.n.a, .int .u64 p.r.n.b, .int .u64 y1, .int .u64 y2]) dPR)
        have C8 := hid (C7.out.oths (c := P) (o := 323) (vs := [.int .i64 (p.r.e + 1), .int .u64 p.r.c.a, .int .u64 p.r.c.b, .int .u64 p.r.n.a, .int .u64 p.r.n.b, .int .u64 y1, .int .u64 y2]) (Ne.symm dVP))
        have B8 := hid (B7.out.trans (keeps_setCells P [.int .i64 (p.r.e + 1), .int .u64 p.r.c.a, .int .u64 p.r.c.b, .int .u64 p.r.n.a, .int .u64 p.r.n.b, .int .u64 y1, .int .u64 y2] 323 w7 P (Nat.le_refl _)))
        go_upto_region 23 with ((with_reducible refine wl_id ?_); refine wl_store rfl rfl rfl rfl SR.out ?_)
        clear SR P7 X7 R7 B7 C7
        try simp only at P8
        generalize w7.setCells P 323 [.int .i64 (p.r.e + 1), .int .u64 p.r.c.a, .int .u64 p.r.c.b, .int .u64 p.r.n.a, .int .u64 p.r.n.b, .int .u64 y1, .int .u64 y2] = w8 at *
        have c1 := X8.out.2.1 1 _ rfl
        have v0 := C8.out.2.1 0 _ rfl
        have v1 := C8.out.2.1 1 _ rfl
        have v2 := C8.out.2.1 2 _ rfl
        have v3 := C8.out.2.1 3 _ rfl
        have v4 := C8.out.2.1 4 _ rfl
        have SR := hid (P8.out.storeK i h64 ⟨st, ad, po, we, si⟩)
        unfold spV at SR
        try simp only at SR
        have P9 := hid (P8.out.slot i h64 ⟨st, ad, po, we, si⟩)
        try simp only at P9
        have R9 := hid (R8.out.others (c := P) (o := 3 + i * 5) (vs := [.int .i64 st, .int .i64 ad, .int .i64 po, .int .i64 we, .int .i64 si]) dPR)
        have B9 := hid (B8.out.trans (keeps_setCells P [.int .i64 st, .int .i64 ad, .int .i64 po, .int .i64 we, .int .i64 si] (3 + i * 5) w8 P (Nat.le_refl _)))
        go_upto_region 24 with ((with_reducible refine wl_id ?_); refine wl_store rfl rfl rfl rfl SR.out ?_)
        clear SR P8 X8 R8 B8 C8 c1 v0 v1 v2 v3 v4
        generalize w8.setCells P (3 + i * 5) [.int .i64 st, .int .i64 ad, .int .i64 po, .int .i64 we, .int .i64 si] = w9 at *
        have LP := P9.out.loadA
        have SR := hid (R9.out.storeA ⟨p.v + 1, p.a, p.p, setS p.s i ⟨st, ad, po, we, si⟩, ⟨p.r.e + 1, p.r.c, p.r.n, ⟨y1, y2⟩⟩⟩)
        skip
        go_wp2_with (first | ((with_reducible refine wl_id ?_); refine wl_load rfl rfl rfl LP ?_) | ((with_reducible refine wl_id ?_); refine wl_store rfl rfl rfl rfl SR.out ?_; refine wl_val rfl rfl ?_; refine end_then ?_; apply_assumption; refine wp_ret ?_; (repeat refine ret_then ?_); (show bodyPost _ _ _ _ _ _); refine bodyPost_ret (v := .tuple #[.agg (PA ⟨p.v + 1, p.a, p.p, setS p.s i ⟨st, ad, po, we, si⟩, ⟨p.r.e + 1, p.r.c, p.r.n, ⟨y1, y2⟩⟩⟩), .int .i64 0]) (results_c2 Tryz.results25 _ rfl rfl (R9.out.whole ⟨p.v + 1, p.a, p.p, setS p.s i ⟨st, ad, po, we, si⟩, ⟨p.r.e + 1, p.r.c, p.r.n, ⟨y1, y2⟩⟩⟩)) rfl ⟨by simp only [eq_self, if_true, cond_false, Bool.not_true, Int.reduceBEq, Bool.false_and]; rw [HQ.out], by rw [HK.out]; exact B9.out.trans (keeps_setCells R (PA ⟨p.v + 1, p.a, p.p, setS p.s i ⟨st, ad, po, we, si⟩, ⟨p.r.e + 1, p.r.c, p.r.n, ⟨y1, y2⟩⟩⟩).toList 0 w9 P lR)⟩))
  · go_enter Tryz.func25, Tryz.ntmps25
    go_upto_region 1 with (fail)
    have P1 := hid (((PoolAt.made (w := w) (p := p) (T := 33) rfl).alloc (.cells #[.int .i64 k, .int .i64 s, .int .i64 a, .int .i64 q, .int .i64 m, .int .u64 y1, .int .u64 y2] 44)).alloc (.cells (PA zPl) 33))
    have CX := hid ((Ce.made (w := w.alloc (.cells (PA p) 33)) (l := [.int .i64 k, .int .i64 s, .int .i64 a, .int .i64 q, .int .i64 m, .int .u64 y1, .int .u64 y2]) (T := 44) (g := w.heap.size + 1) (by simp)).alloc (.cells (PA zPl) 33))
    have R1 := hid (PoolAt.made (w := ((w.alloc (.cells (PA p) 33)).alloc (.cells #[.int .i64 k, .int .i64 s, .int .i64 a, .int .i64 q, .int .i64 m, .int .u64 y1, .int .u64 y2] 44))) (p := zPl) (T := 33) (g := w.heap.size + 1 + 1) (by simp))
    have HB := hid ((((Below.refl w.heap.size w).alloc (Nat.le_refl _) (.cells (PA p) 33)).alloc (by simp) (.cells #[.int .i64 k, .int .i64 s, .int .i64 a, .int .i64 q, .int .i64 m, .int .u64 y1, .int .u64 y2] 44)).alloc (by simp; omega) (.cells (PA zPl) 33))
    have lR : w.heap.size ≤ w.heap.size + 1 + 1 := by omega
    have dRP : w.heap.size + 1 + 1 ≠ w.heap.size := by omega
    have dRE : w.heap.size + 1 + 1 ≠ w.heap.size + 1 := by omega
    have dPE : w.heap.size ≠ w.heap.size + 1 := by omega
    have dPR := Ne.symm dRP
    have dER := Ne.symm dRE
    have dEP := Ne.symm dPE
    generalize (((w.alloc (.cells (PA p) 33)).alloc (.cells #[.int .i64 k, .int .i64 s, .int .i64 a, .int .i64 q, .int .i64 m, .int .u64 y1, .int .u64 y2] 44))).alloc (.cells (PA zPl) 33) = w1 at *
    generalize w.heap.size + 1 + 1 = R at *
    generalize w.heap.size + 1 = E at *
    generalize hK : w.heap.size = P at *
    have HK := hid hK
    clear hK
    have X1 := hid CX.out
    have B1 := hid HB.out
    clear CX HB
    have c0 := X1.out.2.1 0 _ rfl
    have c1 := X1.out.2.1 1 _ rfl
    have c2 := X1.out.2.1 2 _ rfl
    have c3 := X1.out.2.1 3 _ rfl
    have c4 := X1.out.2.1 4 _ rfl
    have c5 := X1.out.2.1 5 _ rfl
    have c6 := X1.out.2.1 6 _ rfl
    go_wp2_with fail
    refine (CK.out _).mono ?_
    rintro x w2 ⟨rfl, hb⟩
    have P2 := hid (P1.out.below hb)
    have X2 := hid (X1.out.below hb)
    have R2 := hid (R1.out.below hb)
    have B2 := hid (B1.out.trans (hb.mono (Nat.le_of_lt P1.out.1)))
    clear hb
    clear c0 c1 c2 c3 c4 c5 c6
    have SR := hid (R2.out.storeA zPl)
    go_upto_region 3 with (fail)
    go_wp2_with (first | ((with_reducible refine wl_id ?_); refine wl_build0 rfl rfl (build_zz _) ?_) | ((with_reducible refine wl_id ?_); refine wl_store rfl rfl rfl rfl SR.out ?_; refine wl_val rfl rfl ?_; refine end_then ?_; apply_assumption; refine wp_ret ?_; (repeat refine ret_then ?_); (show bodyPost _ _ _ _ _ _); refine bodyPost_ret (v := .tuple #[.agg (PA zPl), .int .i64 c]) (results_c2 Tryz.results25 _ rfl rfl (R2.out.whole zPl)) rfl ⟨by have hc1 : ¬ c = 0 := (by simpa using bc); rw [if_neg hc1], by rw [HK.out]; exact B2.out.trans (keeps_setCells R (PA zPl).toList 0 w2 P lR)⟩))
end Go.Proofs.YteefhiniamajkaaGreat
