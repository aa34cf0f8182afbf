/- Build. -/
import Derived.Test.YtjljaecjnpmdoaaWirBld2
import Derived.Test.YtjljaecjnpmdoaaWirWr2
import Derived.BigQuiet
import Derived.Deep.RegionHeld3
import Derived.Deep.Cut
namespace Go.Proofs.Ytjljaecjnpmdoaa
set_option linter.unusedVariables false
set_option linter.unusedSimpArgs false
open Go.RowKit Go.ChangeShapes Go.WideShapes Go.ChangeAt

theorem Ce.below_ {w w' : World} {B b : Nat} {l : List Value} (h : Ce w b l) (hb : Below B w w') (hB : b < B) : Ce w' b l :=
  ⟨Nat.lt_of_lt_of_le h.1 hb.size, fun j v hj => (hb.cell (p := ⟨b, j, none⟩) hB).trans (h.2.1 j v hj), fun j => (World.frozen?_of_block (a := ⟨b, j, none⟩) (hb.block b hB)).trans (h.2.2 j)⟩
theorem raw_eq (p : Pk) : putF (fun j => if j < 16 then putF (putF (set1 (set1 (set1 (fun _ => 0) 0 p.kind) 1 p.life) 12 p.piece) 4 4 p.src) 8 4 p.dst j else bodyF p (j - 16)) 2 2 (lenP p : Int) = rawF p := by
  funext j
  unfold rawF putF set1
  dsimp only
  (repeat' split)
  all_goals (first | rfl | (exfalso; omega) | (congr 1; omega))
theorem builtF_talk {p : Pk} (h : ¬ (p.kind = 2 ∧ p.bare = true)) : builtF p = fillF (putF (hedF p) (sumA p.kind) 2 (65535 - norm (tot (sumF (hedF p) (lenP p)) (sumN (hedF p) (lenP p))))) := by unfold builtF; rw [if_neg h]
theorem builtF_bare {p : Pk} (h : p.kind = 2 ∧ p.bare = true) : builtF p = hedF p := by unfold builtF; rw [if_pos h]
theorem hed_0 (p : Pk) : hedF p 0 = p.kind := by unfold hedF; rw [putF_out (by omega), raw_0]
set_option maxHeartbeats 8000000 in
theorem build_any (p : Pk) (AO : Option Addr) (cO : Nat) (AD : Option Addr) (cD : Nat) (w : World) (HO : By w AO p.no p.go) (HD : By w AD p.nd p.gd) (hgo : IsB p.go) (hgd : IsB p.gd) (h1 : p.no ≤ 1000000) (h2 : p.nd ≤ 1000000) :
    Calls Try.prog 17 #[.agg #[.int .i64 p.kind, .int .i64 p.life, .int .i64 p.piece, .int .i64 p.src, .int .i64 p.dst, .int .i64 p.fp, .int .i64 p.tp, .int .i64 p.flags, .int .i64 p.label, .bool p.bare, .int .i64 p.code, .slice AO p.no cO, .slice AD p.nd cD]] w (Outd w (buildE p) (lenP p) (builtF p)) := by
  have HOW := hid (fun (W : World) (hw : Below w.heap.size w W) => Sl.below HO hw (Nat.le_refl _))
  have HDW := hid (fun (W : World) (hw : Below w.heap.size w W) => Sl.below HD hw (Nat.le_refl _))
  have CE := hid (Ce.made (w := w) (l := [.int .i64 p.kind, .int .i64 p.life, .int .i64 p.piece, .int .i64 p.src, .int .i64 p.dst, .int .i64 p.fp, .int .i64 p.tp, .int .i64 p.flags, .int .i64 p.label, .bool p.bare, .int .i64 p.code, .slice AO p.no cO, .slice AD p.nd cD]) (T := 26) (g := w.heap.size) rfl)
  have B0 := hid ((Below.refl w.heap.size w).alloc (Nat.le_refl _) (.cells #[.int .i64 p.kind, .int .i64 p.life, .int .i64 p.piece, .int .i64 p.src, .int .i64 p.dst, .int .i64 p.fp, .int .i64 p.tp, .int .i64 p.flags, .int .i64 p.label, .bool p.bare, .int .i64 p.code, .slice AO p.no cO, .slice AD p.nd cD] 26))
  simp only [List.toArray] at CE
  have CK := hid (fun w => check_any p AO cO AD cD w h1 h2)
  obtain ⟨z, hz⟩ : ∃ z, z = buildE p := ⟨_, rfl⟩
  rw [← hz] at CK
  clear HO HD
  cases z0 : (z != 0)
  · have hE : buildE p = 0 := by rw [← hz]; simpa using z0
    obtain ⟨e1, e2, e3, e4, e5, e6⟩ := buildE_0 hE
    obtain ⟨⟨rl0, rl1⟩, ⟨rp0, rp1⟩, _, _⟩ := range_facts e2
    have hk := kind_of hE
    have HK := hid hk
    have rk0 : 0 ≤ p.kind := by omega
    have rk1 : p.kind ≤ 255 := by omega
    have BO := hid (fun (W : World) (hw : Below w.heap.size w W) => body_any p AO cO AD cD W (HOW.out W hw) (HDW.out W hw) hE)
    have RB := hid (rawF_B hgd hgo hE)
    have HDB := hid (hedF_B hgd hgo hE)
    have HE := hid hE
    clear e1 e3 e4 hE hk z0 hgo hgd e2
    have hz0 : z = 0 := by rw [hz]; exact HE.out
    subst hz0
    clear hz
    have u0 : IntKind.u8.wrap p.kind = p.kind := by rw [IntKind.wrap_u8]; omega
    have u1 : IntKind.u8.wrap p.life = p.life := by rw [IntKind.wrap_u8]; omega
    have u2 : IntKind.u8.wrap p.piece = p.piece := by rw [IntKind.wrap_u8]; omega
    go_enter Try.func17, Try.ntmps17
    go_upto_region 1 with (fail)
    generalize (w.alloc (.cells #[.int .i64 p.kind, .int .i64 p.life, .int .i64 p.piece, .int .i64 p.src, .int .i64 p.dst, .int .i64 p.fp, .int .i64 p.tp, .int .i64 p.flags, .int .i64 p.label, .bool p.bare, .int .i64 p.code, .slice AO p.no cO, .slice AD p.nd cD] 26)) = w1 at *
    have lP : w.heap.size < w1.heap.size := CE.out.1
    have y0 := CE.out.2.1 0 _ rfl
    have y1 := CE.out.2.1 1 _ rfl
    have y2 := CE.out.2.1 2 _ rfl
    have y3 := CE.out.2.1 3 _ rfl
    have y4 := CE.out.2.1 4 _ rfl
    have y5 := CE.out.2.1 5 _ rfl
    have y6 := CE.out.2.1 6 _ rfl
    have y7 := CE.out.2.1 7 _ rfl
    have y8 := CE.out.2.1 8 _ rfl
    have y9 := CE.out.2.1 9 _ rfl
    have y10 := CE.out.2.1 10 _ rfl
    have y11 := CE.out.2.1 11 _ rfl
    have y12 := CE.out.2.1 12 _ rfl
    go_wp2_with fail
    refine (CK.out _).mono ?_
    rintro e w2 ⟨rfl, hb⟩
    have HC := hid (CE.out.below hb)
    have HB := hid (B0.out.trans (hb.mono B0.out.size))
    have lw : w1.heap.size ≤ w2.heap.size := hb.size
    clear hb CE B0 CK
    clear y0 y1 y2 y3 y4 y5 y6 y7 y8 y9 y10 y11 y12
    have lR : w.heap.size < w2.heap.size := by omega
    go_upto_region 5 with (at_make; refine wp_make_b rfl _ _ rfl w2.heap.size 16 _ _ rfl rfl rfl rfl (by omega) (Nat.le_refl _) ?_; intro w3 hO hb2; have HO := hid (show OB w3 w2.heap.size (.slice (some ⟨w2.heap.size, 0, none⟩) 16 16) 16 (fun _ => 0) from hO); have HC2 := hid (HC.out.below hb2); have HB2 := hid (HB.out.trans (hb2.mono HB.out.size)); clear hO hb2)
    clear HC HB
    obtain ⟨g', e, hB, hgs, hce, hfr⟩ := Ow.block_ HO.out (by omega)
    injection e with e
    injection e with e _
    subst e
    have c0 := hce 0 (by omega)
    have c1 := hce 1 (by omega)
    have c12 := hce 12 (by omega)
    have f0 := hfr 0
    have f1 := hfr 1
    have f12 := hfr 12
    clear hce hfr
    refine wp_region_held_drew (S := fun w' => Ce w' w.heap.size [.int .i64 p.kind, .int .i64 p.life, .int .i64 p.piece, .int .i64 p.src, .int .i64 p.dst, .int .i64 p.fp, .int .i64 p.tp, .int .i64 p.flags, .int .i64 p.label, .bool p.bare, .int .i64 p.code, .slice AO p.no cO, .slice AD p.nd cD]) (by kernel_rfl) ?_ (fun hHeld => ?_)
    · exact HC2.out.drew_
    refine tk 0 (v := ?_) rfl (by kernel_rfl) (by kernel_rfl) (by kernel_rfl) (fun _ _ _ h => h) rfl ?_ hHeld ?_; rotate_left; (focus (intro w hSw; (try dsimp only at hSw);  go_simp; (try with_reducible rfl))); (try simp only [Act.put, List.setIfInBounds_toArray, List.set_cons_zero, List.set_cons_succ])
    refine tk 1 (v := ?_) rfl (by kernel_rfl) (by kernel_rfl) (by kernel_rfl) (fun _ _ _ h => h) rfl ?_ hHeld ?_; rotate_left; (focus (intro w hSw; (try dsimp only at hSw);  go_simp; (try with_reducible rfl))); (try simp only [Act.put, List.setIfInBounds_toArray, List.set_cons_zero, List.set_cons_succ])
    refine tk 2 (v := ?_) rfl (by kernel_rfl) (by kernel_rfl) (by kernel_rfl) (fun _ _ _ h => h) rfl ?_ hHeld ?_; rotate_left; (focus (intro w hSw; (try dsimp only at hSw);  go_simp; (try with_reducible rfl))); (try simp only [Act.put, List.setIfInBounds_toArray, List.set_cons_zero, List.set_cons_succ])
    refine tk 3 (v := ?_) rfl (by kernel_rfl) (by kernel_rfl) (by kernel_rfl) (fun _ _ _ h => h) rfl ?_ hHeld ?_; rotate_left; (focus (intro w hSw; (try dsimp only at hSw);  go_simp; (try with_reducible rfl))); (try simp only [Act.put, List.setIfInBounds_toArray, List.set_cons_zero, List.set_cons_succ])
    refine tk 4 (v := ?_) rfl (by kernel_rfl) (by kernel_rfl) (by kernel_rfl) (fun _ _ _ h => h) rfl ?_ hHeld ?_; rotate_left; (focus (intro w hSw; (try dsimp only at hSw); have q0 := hSw.2.1 0 _ rfl; have q1 := hSw.2.1 1 _ rfl; have q2 := hSw.2.1 2 _ rfl; go_simp; (try with_reducible rfl))); (try simp only [Act.put, List.setIfInBounds_toArray, List.set_cons_zero, List.set_cons_succ])
    refine tk 5 (v := ?_) rfl (by kernel_rfl) (by kernel_rfl) (by kernel_rfl) (fun _ _ _ h => h) rfl ?_ hHeld ?_; rotate_left; (focus (intro w hSw; (try dsimp only at hSw);  go_simp; (try with_reducible rfl))); (try simp only [Act.put, List.setIfInBounds_toArray, List.set_cons_zero, List.set_cons_succ])
    refine tk 6 (v := ?_) rfl (by kernel_rfl) (by kernel_rfl) (by kernel_rfl) (fun _ _ _ h => h) rfl ?_ hHeld ?_; rotate_left; (focus (intro w hSw; (try dsimp only at hSw);  go_simp; (try with_reducible rfl))); (try simp only [Act.put, List.setIfInBounds_toArray, List.set_cons_zero, List.set_cons_succ])
    refine tk 7 (v := ?_) rfl (by kernel_rfl) (by kernel_rfl) (by kernel_rfl) (fun _ _ _ h => h) rfl ?_ hHeld ?_; rotate_left; (focus (intro w hSw; (try dsimp only at hSw); have q0 := hSw.2.1 0 _ rfl; have q1 := hSw.2.1 1 _ rfl; have q2 := hSw.2.1 2 _ rfl; go_simp; (try with_reducible rfl))); (try simp only [Act.put, List.setIfInBounds_toArray, List.set_cons_zero, List.set_cons_succ])
    refine tk 8 (v := ?_) rfl (by kernel_rfl) (by kernel_rfl) (by kernel_rfl) (fun _ _ _ h => h) rfl ?_ hHeld ?_; rotate_left; (focus (intro w hSw; (try dsimp only at hSw);  go_simp; (try with_reducible rfl))); (try simp only [Act.put, List.setIfInBounds_toArray, List.set_cons_zero, List.set_cons_succ])
    refine tk 9 (v := ?_) rfl (by kernel_rfl) (by kernel_rfl) (by kernel_rfl) (fun _ _ _ h => h) rfl ?_ hHeld ?_; rotate_left; (focus (intro w hSw; (try dsimp only at hSw);  go_simp; (try with_reducible rfl))); (try simp only [Act.put, List.setIfInBounds_toArray, List.set_cons_zero, List.set_cons_succ])
    refine tk 10 (v := ?_) rfl (by kernel_rfl) (by kernel_rfl) (by kernel_rfl) (fun _ _ _ h => h) rfl ?_ hHeld ?_; rotate_left; (focus (intro w hSw; (try dsimp only at hSw); have q0 := hSw.2.1 0 _ rfl; have q1 := hSw.2.1 1 _ rfl; have q2 := hSw.2.1 2 _ rfl; go_simp; (try with_reducible rfl))); (try simp only [Act.put, List.setIfInBounds_toArray, List.set_cons_zero, List.set_cons_succ])
    refine tk 11 (v := ?_) rfl (by kernel_rfl) (by kernel_rfl) (by kernel_rfl) (fun _ _ _ h => h) rfl ?_ hHeld ?_; rotate_left; (focus (intro w hSw; (try dsimp only at hSw);  go_simp; (try with_reducible rfl))); (try simp only [Act.put, List.setIfInBounds_toArray, List.set_cons_zero, List.set_cons_succ])
    refine tk 12 (v := ?_) rfl (by kernel_rfl) (by kernel_rfl) (by kernel_rfl) (fun _ _ _ h => h) rfl ?_ hHeld ?_; rotate_left; (focus (intro w hSw; (try dsimp only at hSw);  go_simp; (try with_reducible rfl))); (try simp only [Act.put, List.setIfInBounds_toArray, List.set_cons_zero, List.set_cons_succ])
    refine only 13 rfl (by kernel_rfl) rfl (fun K hK => ?_)
    go_simp
    have hH0 : Ce (w3.setCell ⟨w2.heap.size, 0, none⟩ (.int .u8 p.kind)).drew w.heap.size [.int .i64 p.kind, .int .i64 p.life, .int .i64 p.piece, .int .i64 p.src, .int .i64 p.dst, .int .i64 p.fp, .int .i64 p.tp, .int .i64 p.flags, .int .i64 p.label, .bool p.bare, .int .i64 p.code, .slice AO p.no cO, .slice AD p.nd cD] := Ce.drew_ (HC2.out.grown (gs 0 (.int .u8 p.kind) (World.grownBy.refl w3 (some w2.heap.size))) (fun e => by injection e with e; omega))
    refine hK.out _ _ hH0 (fun _ => ?_)
    clear hK
    (try simp only [Act.put, List.setIfInBounds_toArray, List.set_cons_zero, List.set_cons_succ])
    refine tk 14 (v := ?_) rfl (by kernel_rfl) (by kernel_rfl) (by kernel_rfl) (fun _ _ _ h => h) rfl ?_ hH0 ?_; rotate_left; (focus (intro w hSw; (try dsimp only at hSw);  go_simp; (try with_reducible rfl))); (try simp only [Act.put, List.setIfInBounds_toArray, List.set_cons_zero, List.set_cons_succ])
    refine only 15 rfl (by kernel_rfl) rfl (fun K hK => ?_)
    go_simp
    have hH1 : Ce ((w3.setCell ⟨w2.heap.size, 0, none⟩ (.int .u8 p.kind)).setCell ⟨w2.heap.size, 1, none⟩ (.int .u8 p.life)).drew w.heap.size [.int .i64 p.kind, .int .i64 p.life, .int .i64 p.piece, .int .i64 p.src, .int .i64 p.dst, .int .i64 p.fp, .int .i64 p.tp, .int .i64 p.flags, .int .i64 p.label, .bool p.bare, .int .i64 p.code, .slice AO p.no cO, .slice AD p.nd cD] := Ce.drew_ (HC2.out.grown (gs 1 (.int .u8 p.life) (gs 0 (.int .u8 p.kind) (World.grownBy.refl w3 (some w2.heap.size)))) (fun e => by injection e with e; omega))
    refine hK.out _ _ hH1 (fun _ => ?_)
    clear hK
    (try simp only [Act.put, List.setIfInBounds_toArray, List.set_cons_zero, List.set_cons_succ])
    refine tk 16 (v := ?_) rfl (by kernel_rfl) (by kernel_rfl) (by kernel_rfl) (fun _ _ _ h => h) rfl ?_ hH1 ?_; rotate_left; (focus (intro w hSw; (try dsimp only at hSw);  go_simp; (try with_reducible rfl))); (try simp only [Act.put, List.setIfInBounds_toArray, List.set_cons_zero, List.set_cons_succ])
    refine only 17 rfl (by kernel_rfl) rfl (fun K hK => ?_)
    go_simp
    have hH2 : Ce (((w3.setCell ⟨w2.heap.size, 0, none⟩ (.int .u8 p.kind)).setCell ⟨w2.heap.size, 1, none⟩ (.int .u8 p.life)).setCell ⟨w2.heap.size, 12, none⟩ (.int .u8 p.piece)).drew w.heap.size [.int .i64 p.kind, .int .i64 p.life, .int .i64 p.piece, .int .i64 p.src, .int .i64 p.dst, .int .i64 p.fp, .int .i64 p.tp, .int .i64 p.flags, .int .i64 p.label, .bool p.bare, .int .i64 p.code, .slice AO p.no cO, .slice AD p.nd cD] := Ce.drew_ (HC2.out.grown (gs 12 (.int .u8 p.piece) (gs 1 (.int .u8 p.life) (gs 0 (.int .u8 p.kind) (World.grownBy.refl w3 (some w2.heap.size))))) (fun e => by injection e with e; omega))
    refine hK.out _ _ hH2 (fun _ => ?_)
    clear hK
    (try simp only [Act.put, List.setIfInBounds_toArray, List.set_cons_zero, List.set_cons_succ])
    refine wpAnyH_done (by kernel_rfl) ?_ _
    have HO3 := hid (Ow.drew (OB.store (OB.store (OB.store HO.out 0 p.kind) 1 p.life) 12 p.piece))
    have HB := hid ((HB2.out.trans (below_of_grown (gs 12 (.int .u8 p.piece) (gs 1 (.int .u8 p.life) (gs 0 (.int .u8 p.kind) (World.grownBy.refl w3 (some w2.heap.size))))) (by omega) HB2.out.size)).drew)
    have HC := hid hH2
    clear hH2 hH1 hH0 hHeld HO HC2 HB2 c0 c1 c12 f0 f1 f12
    have HO := HO3
    clear HO3
    generalize (((w3.setCell ⟨w2.heap.size, 0, none⟩ (.int .u8 p.kind)).setCell ⟨w2.heap.size, 1, none⟩ (.int .u8 p.life)).setCell ⟨w2.heap.size, 12, none⟩ (.int .u8 p.piece)).drew = w4 at *
    have CP4 := fun W => cut_put (G := w2.heap.size) (n := 16) (c := 16) 4 4 (by omega) (Nat.le_refl _) (by omega) 4 8 8 rfl rfl rfl W
    have CP8 := fun W => cut_put (G := w2.heap.size) (n := 16) (c := 16) 8 4 (by omega) (Nat.le_refl _) (by omega) 8 12 12 rfl rfl rfl W
    go_upto_region 6 with (fail)
    refine wp_region_held_drew (S := fun w' => Ce w' w.heap.size [.int .i64 p.kind, .int .i64 p.life, .int .i64 p.piece, .int .i64 p.src, .int .i64 p.dst, .int .i64 p.fp, .int .i64 p.tp, .int .i64 p.flags, .int .i64 p.label, .bool p.bare, .int .i64 p.code, .slice AO p.no cO, .slice AD p.nd cD]) (by kernel_rfl) ?_ (fun hHeld => ?_)
    · exact HC.out.drew_
    refine tk 0 (v := ?_) rfl (by kernel_rfl) (by kernel_rfl) (by kernel_rfl) (fun _ _ _ h => h) rfl ?_ hHeld ?_; rotate_left; (focus (intro w hSw; (try dsimp only at hSw);  go_simp; (try with_reducible rfl))); (try simp only [Act.put, List.setIfInBounds_toArray, List.set_cons_zero, List.set_cons_succ])
    refine tk 1 (v := ?_) rfl (by kernel_rfl) (by kernel_rfl) (by kernel_rfl) (fun _ _ _ h => h) rfl ?_ hHeld ?_; rotate_left; (focus (intro w hSw; (try dsimp only at hSw);  go_simp; (try with_reducible rfl))); (try simp only [Act.put, List.setIfInBounds_toArray, List.set_cons_zero, List.set_cons_succ])
    refine tk 2 (v := ?_) rfl (by kernel_rfl) (by kernel_rfl) (by kernel_rfl) (fun _ _ _ h => h) rfl ?_ hHeld ?_; rotate_left; (focus (intro w hSw; (try dsimp only at hSw);  go_simp; (try with_reducible rfl))); (try simp only [Act.put, List.setIfInBounds_toArray, List.set_cons_zero, List.set_cons_succ])
    refine tk 3 (v := ?_) rfl (by kernel_rfl) (by kernel_rfl) (by kernel_rfl) (fun _ _ _ h => h) rfl ?_ hHeld ?_; rotate_left; (focus (intro w hSw; (try dsimp only at hSw); have y := hSw.2.1 3 _ rfl; go_simp; (try with_reducible rfl))); (try simp only [Act.put, List.setIfInBounds_toArray, List.set_cons_zero, List.set_cons_succ])
    refine only 4 rfl (by kernel_rfl) rfl (fun K hK => ?_)
    go_simp
    refine (put_any (Ow.drew HO.out) 4 4 4 p.src (by omega) (by omega)).mono ?_
    rintro e' w5 ⟨rfl, hO, hg⟩
    try go_wp2_with fail
    refine hK.out _ _ (hHeld.grown hg (fun e => by injection e with e; omega)) (fun _ => ?_)
    have HO2 := hid hO
    have HC2 := hid (hHeld.grown hg (fun e => by injection e with e; omega))
    have HB2 := hid (HB.out.trans (below_of_grown (grown_drew hg) (by omega) HB.out.size))
    clear hK hHeld hO hg HO HC HB
    (try simp only [Act.put, List.setIfInBounds_toArray, List.set_cons_zero, List.set_cons_succ])
    refine wpAnyH_done (by kernel_rfl) ?_ _
    have HO := HO2
    have HC := HC2
    have HB := HB2
    clear HO2 HC2 HB2
    go_upto_region 7 with (fail)
    refine wp_region_held_drew (S := fun w' => Ce w' w.heap.size [.int .i64 p.kind, .int .i64 p.life, .int .i64 p.piece, .int .i64 p.src, .int .i64 p.dst, .int .i64 p.fp, .int .i64 p.tp, .int .i64 p.flags, .int .i64 p.label, .bool p.bare, .int .i64 p.code, .slice AO p.no cO, .slice AD p.nd cD]) (by kernel_rfl) ?_ (fun hHeld => ?_)
    · exact HC.out.drew_
    refine tk 0 (v := ?_) rfl (by kernel_rfl) (by kernel_rfl) (by kernel_rfl) (fun _ _ _ h => h) rfl ?_ hHeld ?_; rotate_left; (focus (intro w hSw; (try dsimp only at hSw);  go_simp; (try with_reducible rfl))); (try simp only [Act.put, List.setIfInBounds_toArray, List.set_cons_zero, List.set_cons_succ])
    refine tk 1 (v := ?_) rfl (by kernel_rfl) (by kernel_rfl) (by kernel_rfl) (fun _ _ _ h => h) rfl ?_ hHeld ?_; rotate_left; (focus (intro w hSw; (try dsimp only at hSw);  go_simp; (try with_reducible rfl))); (try simp only [Act.put, List.setIfInBounds_toArray, List.set_cons_zero, List.set_cons_succ])
    refine tk 2 (v := ?_) rfl (by kernel_rfl) (by kernel_rfl) (by kernel_rfl) (fun _ _ _ h => h) rfl ?_ hHeld ?_; rotate_left; (focus (intro w hSw; (try dsimp only at hSw);  go_simp; (try with_reducible rfl))); (try simp only [Act.put, List.setIfInBounds_toArray, List.set_cons_zero, List.set_cons_succ])
    refine tk 3 (v := ?_) rfl (by kernel_rfl) (by kernel_rfl) (by kernel_rfl) (fun _ _ _ h => h) rfl ?_ hHeld ?_; rotate_left; (focus (intro w hSw; (try dsimp only at hSw); have y := hSw.2.1 4 _ rfl; go_simp; (try with_reducible rfl))); (try simp only [Act.put, List.setIfInBounds_toArray, List.set_cons_zero, List.set_cons_succ])
    refine only 4 rfl (by kernel_rfl) rfl (fun K hK => ?_)
    go_simp
    refine (put_any (Ow.drew HO.out) 8 4 4 p.dst (by omega) (by omega)).mono ?_
    rintro e' w6 ⟨rfl, hO, hg⟩
    try go_wp2_with fail
    refine hK.out _ _ (hHeld.grown hg (fun e => by injection e with e; omega)) (fun _ => ?_)
    have HO2 := hid hO
    have HC2 := hid (hHeld.grown hg (fun e => by injection e with e; omega))
    have HB2 := hid (HB.out.trans (below_of_grown (grown_drew hg) (by omega) HB.out.size))
    clear hK hHeld hO hg HO HC HB
    (try simp only [Act.put, List.setIfInBounds_toArray, List.set_cons_zero, List.set_cons_succ])
    refine wpAnyH_done (by kernel_rfl) ?_ _
    have HO := HO2
    have HC := HC2
    have HB := HB2
    clear HO2 HC2 HB2
    clear CP4 CP8
    go_upto_region 8 with (fail)
    have y0 := HC.out.2.1 0 _ rfl
    have y1 := HC.out.2.1 1 _ rfl
    have y2 := HC.out.2.1 2 _ rfl
    have y3 := HC.out.2.1 3 _ rfl
    have y4 := HC.out.2.1 4 _ rfl
    have y5 := HC.out.2.1 5 _ rfl
    have y6 := HC.out.2.1 6 _ rfl
    have y7 := HC.out.2.1 7 _ rfl
    have y8 := HC.out.2.1 8 _ rfl
    have y9 := HC.out.2.1 9 _ rfl
    have y10 := HC.out.2.1 10 _ rfl
    have y11 := HC.out.2.1 11 _ rfl
    have y12 := HC.out.2.1 12 _ rfl
    go_wp2_with fail
    refine (BO.out _ HB.out).mono ?_
    rintro e w7 ⟨A7, c7, rfl, hO7, hc7, hb7⟩
    clear y0 y1 y2 y3 y4 y5 y6 y7 y8 y9 y10 y11 y12
    have HO2 := hid (HO.out.keep_ hb7)
    have HC2 := hid (HC.out.below hb7)
    have HB2 := hid (HB.out.trans (hb7.mono HB.out.size))
    have OB7 := hid hO7.sl1
    have lw7 := ow_base HO2.out (by omega)
    clear HO HC HB hO7 hb7 BO HOW HDW
    go_upto_region 9 with (at_builtin; refine wp_app_b rfl (.tmp 38) (.tmp 40) rfl w2.heap.size _ 16 _ rfl HO2.out _ (lenP p - 16) _ (bodyF p) rfl OB7.out (by omega) lw7 ?_; intro A8 c8 w8 h1 h2 h3 h4 h5 h6; have HO := hid h1; have hc8 := h2; have HC := hid (HC2.out.below_ h4 lR); have HB := hid (HB2.out.trans (h4.mono (by omega))); clear h1 h2 h3 h4 h5 h6)
    clear HO2 HC2 HB2 OB7 lw7
    obtain ⟨n, hn⟩ : ∃ n, n = lenP p := ⟨_, rfl⟩
    have HN := hid hn
    rw [show 16 + (lenP p - 16) = n from by omega] at *
    rw [← hn] at e5 e6
    clear hn
    obtain ⟨G, e, hB, hgs, hce, hfr⟩ := Ow.block_ HO.out (by omega)
    subst e
    clear hce hfr hgs
    have hPG : w.heap.size ≠ G := by omega
    have CP2 := fun W => cut_put (G := G) (n := n) (c := c8) 2 2 (by omega) hc8 (by omega) 2 4 4 rfl rfl rfl W
    go_wp2_with fail
    refine (put_any HO.out 2 2 2 (n : Int) (by omega) (by omega)).mono ?_
    rintro e w9 ⟨rfl, hO, hg⟩
    have HO2 := hid (show OB w9 w2.heap.size (.slice (some ⟨G, 0, none⟩) n c8) n (rawF p) from by rw [← raw_eq p, ← HN.out]; exact hO)
    have HC2 := hid (HC.out.grown hg (fun e => hPG (by injection e with e; exact e.symm)))
    have HB2 := hid (HB.out.trans (below_of_grown hg (by omega) HB.out.size))
    clear hO hg HO HC HB CP2
    go_upto_region 10 with (fail)
    have CP14 := fun W => cut_put (G := G) (n := n) (c := c8) 14 2 (by omega) hc8 (by omega) 14 16 16 rfl rfl rfl W
    have i16 : (16 : Int) ≤ c8 := by omega
    have OF := hid (fun (W : World) (hW : By W (some ⟨G, 0, none⟩) n (rawF p)) c' => of_any (some ⟨G, 0, none⟩) 16 c' (rawF p) W (hW.less (k := 16) (by omega)) RB.out (by omega))
    refine wp_region_held_drew (S := fun _ => True) (by kernel_rfl) trivial (fun hHeld => ?_)
    refine tk 0 (v := ?_) rfl (by kernel_rfl) (by kernel_rfl) (by kernel_rfl) (fun _ _ _ h => h) rfl ?_ hHeld ?_; rotate_left; (focus (intro w hSw; (try dsimp only at hSw);  go_simp; (try with_reducible rfl))); (try simp only [Act.put, List.setIfInBounds_toArray, List.set_cons_zero, List.set_cons_succ])
    refine tk 1 (v := ?_) rfl (by kernel_rfl) (by kernel_rfl) (by kernel_rfl) (fun _ _ _ h => h) rfl ?_ hHeld ?_; rotate_left; (focus (intro w hSw; (try dsimp only at hSw);  go_simp; (try with_reducible rfl))); (try simp only [Act.put, List.setIfInBounds_toArray, List.set_cons_zero, List.set_cons_succ])
    refine tk 2 (v := ?_) rfl (by kernel_rfl) (by kernel_rfl) (by kernel_rfl) (fun _ _ _ h => h) rfl ?_ hHeld ?_; rotate_left; (focus (intro w hSw; (try dsimp only at hSw);  go_simp; (try with_reducible rfl))); (try simp only [Act.put, List.setIfInBounds_toArray, List.set_cons_zero, List.set_cons_succ])
    refine tk 3 (v := ?_) rfl (by kernel_rfl) (by kernel_rfl) (by kernel_rfl) (fun _ _ _ h => h) rfl ?_ hHeld ?_; rotate_left; (focus (intro w hSw; (try dsimp only at hSw);  go_simp; (try with_reducible rfl))); (try simp only [Act.put, List.setIfInBounds_toArray, List.set_cons_zero, List.set_cons_succ])
    refine only 4 rfl (by kernel_rfl) rfl (fun K hK => ?_)
    go_simp
    refine (OF.out _ (Ow.sl1 (Ow.drew HO2.out)) _).mono ?_
    rintro e' w' ⟨rfl, m, rfl⟩
    try go_wp2_with fail
    refine hK.out _ _ trivial (fun _ => ?_)
    clear hK
    (try simp only [Act.put, List.setIfInBounds_toArray, List.set_cons_zero, List.set_cons_succ])
    refine only 5 rfl (by kernel_rfl) rfl (fun K hK => ?_)
    go_simp
    refine (put_any (Ow.drewN HO2.out (1 + m)) 14 2 2 (65535 - norm (tot (rawF p) 16)) (by omega) (by omega)).mono ?_
    rintro e' w10 ⟨rfl, hO, hg⟩
    try go_wp2_with fail
    refine hK.out _ _ trivial (fun _ => ?_)
    have hg2 : w9.grownBy w10 (some G) := ⟨hg.os, hg.tape, hg.output, hg.size, hg.block⟩
    have HO := hid (show OB w10 w2.heap.size (.slice (some ⟨G, 0, none⟩) n c8) n (hedF p) from hO)
    have HC := hid (HC2.out.grown hg2 (fun e => hPG (by injection e with e; exact e.symm)))
    have HB := hid (HB2.out.trans (below_of_grown hg2 (by omega) HB2.out.size))
    clear hK hO hg hg2 HO2 HC2 HB2 CP14 OF RB
    (try simp only [Act.put, List.setIfInBounds_toArray, List.set_cons_zero, List.set_cons_succ])
    refine wpAnyH_done (by kernel_rfl) ?_ _
    have y0 := HC.out.2.1 0 _ rfl
    have y9 := HC.out.2.1 9 _ rfl
    cases k2 : (p.kind != 2)
    · have k2' : p.kind = 2 := by simpa using k2
      cases bb : p.bare
      · have BN := hid (show ¬ (p.kind = 2 ∧ p.bare = true) from fun e => by rw [bb] at e; exact absurd e.2 (by decide))
        replace k2' := hid k2'
        rw [bb] at y9
        have S0 := hid (re_i64 (sumat_any (some ⟨G, 0, none⟩) n c8 (hedF p) w10 HO.out.sl1 (by omega)) (show ((sumA (hedF p 0) : Nat) : Int) = ((sumA p.kind : Nat) : Int) from by rw [hed_0]))
        have sl := kind_num (hedF p)
        rw [hed_0] at sl
        obtain ⟨s, hs⟩ : ∃ s, s = sumA p.kind := ⟨_, rfl⟩
        have HS := hid hs
        rw [← hs] at S0 sl
        clear hs
        go_wp2_with fail
        refine S0.out.mono ?_
        rintro e w' ⟨rfl, rfl⟩
        clear y0 y9
        go_upto_region 13 with (fail)
        have CPs := fun W => cut_put (G := G) (n := n) (c := c8) s 2 (by omega) hc8 (by omega) s (s + 2) (s + 2) rfl rfl rfl W
        have qs : IntKind.i64.wrap ((s : Int) + 2) = (s : Int) + 2 := IntWalk.i64_in _ (by omega)
        have SM := hid (fun (W : World) (hW : By W (some ⟨G, 0, none⟩) n (hedF p)) => summed_any (some ⟨G, 0, none⟩) n c8 (hedF p) W hW HDB.out e6 hc8 e5)
        have OF := hid (fun (W : World) A' c' (hW : By W A' (sumN (hedF p) n) (sumF (hedF p) n)) => of_any A' _ c' _ W hW (sumF_B HDB.out n) (by unfold sumN; split <;> omega))
        refine wp_region_held_drew (S := fun _ => True) (by kernel_rfl) trivial (fun hHeld => ?_)
        refine tk 0 (v := ?_) rfl (by kernel_rfl) (by kernel_rfl) (by kernel_rfl) (fun _ _ _ h => h) rfl ?_ hHeld ?_; rotate_left; (focus (intro w hSw; (try dsimp only at hSw);  go_simp; (try with_reducible rfl))); (try simp only [Act.put, List.setIfInBounds_toArray, List.set_cons_zero, List.set_cons_succ])
        refine tk 1 (v := ?_) rfl (by kernel_rfl) (by kernel_rfl) (by kernel_rfl) (fun _ _ _ h => h) rfl ?_ hHeld ?_; rotate_left; (focus (intro w hSw; (try dsimp only at hSw);  go_simp; (try with_reducible rfl))); (try simp only [Act.put, List.setIfInBounds_toArray, List.set_cons_zero, List.set_cons_succ])
        refine tk 2 (v := ?_) rfl (by kernel_rfl) (by kernel_rfl) (by kernel_rfl) (fun _ _ _ h => h) rfl ?_ hHeld ?_; rotate_left; (focus (intro w hSw; (try dsimp only at hSw);  go_simp; (try with_reducible rfl))); (try simp only [Act.put, List.setIfInBounds_toArray, List.set_cons_zero, List.set_cons_succ])
        refine tk 3 (v := ?_) rfl (by kernel_rfl) (by kernel_rfl) (by kernel_rfl) (fun _ _ _ h => h) rfl ?_ hHeld ?_; rotate_left; (focus (intro w hSw; (try dsimp only at hSw);  go_simp; (try with_reducible rfl))); (try simp only [Act.put, List.setIfInBounds_toArray, List.set_cons_zero, List.set_cons_succ])
        refine tk 4 (v := ?_) rfl (by kernel_rfl) (by kernel_rfl) (by kernel_rfl) (fun _ _ _ h => h) rfl ?_ hHeld ?_; rotate_left; (focus (intro w hSw; (try dsimp only at hSw);  go_simp; (try with_reducible rfl))); (try simp only [Act.put, List.setIfInBounds_toArray, List.set_cons_zero, List.set_cons_succ])
        refine tk 5 (v := ?_) rfl (by kernel_rfl) (by kernel_rfl) (by kernel_rfl) (fun _ _ _ h => h) rfl ?_ hHeld ?_; rotate_left; (focus (intro w hSw; (try dsimp only at hSw);  go_simp; (try with_reducible rfl))); (try simp only [Act.put, List.setIfInBounds_toArray, List.set_cons_zero, List.set_cons_succ])
        refine tk 6 (v := ?_) rfl (by kernel_rfl) (by kernel_rfl) (by kernel_rfl) (fun _ _ _ h => h) rfl ?_ hHeld ?_; rotate_left; (focus (intro w hSw; (try dsimp only at hSw);  go_simp; (try with_reducible rfl))); (try simp only [Act.put, List.setIfInBounds_toArray, List.set_cons_zero, List.set_cons_succ])
        refine tk 7 (v := ?_) rfl (by kernel_rfl) (by kernel_rfl) (by kernel_rfl) (fun _ _ _ h => h) rfl ?_ hHeld ?_; rotate_left; (focus (intro w hSw; (try dsimp only at hSw);  go_simp; (try with_reducible rfl))); (try simp only [Act.put, List.setIfInBounds_toArray, List.set_cons_zero, List.set_cons_succ])
        refine only 8 rfl (by kernel_rfl) rfl (fun K hK => ?_)
        go_simp
        refine (SM.out _ (Ow.sl1 (Ow.drew HO.out))).mono ?_
        rintro e' w11 ⟨A2, c2, rfl, hS, hb11⟩
        try go_wp2_with fail
        refine hK.out _ _ trivial (fun _ => ?_)
        clear hK
        (try simp only [Act.put, List.setIfInBounds_toArray, List.set_cons_zero, List.set_cons_succ])
        have HO2 := hid (OB.keep_ (Ow.drew HO.out) hb11)
        have HB2 := hid (HB.out.drew.trans (hb11.mono HB.out.drew.size))
        have HS2 := hid hS
        clear hS hb11 HO HB
        refine only 9 rfl (by kernel_rfl) rfl (fun K hK => ?_)
        go_simp
        refine (OF.out _ A2 c2 HS2.out).mono ?_
        rintro e' w' ⟨rfl, m', rfl⟩
        try go_wp2_with fail
        refine hK.out _ _ trivial (fun _ => ?_)
        clear hK
        (try simp only [Act.put, List.setIfInBounds_toArray, List.set_cons_zero, List.set_cons_succ])
        refine only 10 rfl (by kernel_rfl) rfl (fun K hK => ?_)
        go_simp
        refine (put_any (Ow.drewN HO2.out m') s 2 2 (65535 - norm (tot (sumF (hedF p) n) (sumN (hedF p) n))) (by omega) (by omega)).mono ?_
        rintro e' w12 ⟨rfl, hO, hg⟩
        try go_wp2_with fail
        refine hK.out _ _ trivial (fun _ => ?_)
        have hg2 : w11.grownBy w12 (some G) := ⟨hg.os, hg.tape, hg.output, hg.size, hg.block⟩
        have HO := hid hO
        have HB := hid (HB2.out.trans (below_of_grown hg2 (by omega) HB2.out.size))
        clear hK hO hg hg2 HO2 HB2
        (try simp only [Act.put, List.setIfInBounds_toArray, List.set_cons_zero, List.set_cons_succ])
        refine wpAnyH_done (by kernel_rfl) ?_ _
        have XB := hid (putF_B HDB.out s 2 (65535 - norm (tot (sumF (hedF p) n) (sumN (hedF p) n))))
        have k0 : putF (hedF p) s 2 (65535 - norm (tot (sumF (hedF p) n) (sumN (hedF p) n))) 0 = p.kind := by rw [putF_out (by omega), hed_0]
        replace k0 := hid k0
        go_wp2_with fail
        refine (fill_any HO.out XB.out (by omega) (.inr e6) hc8 (by omega)).mono ?_
        rintro e w13 ⟨rfl, hO, hg⟩
        have HO2 := hid hO
        have HB2 := hid (HB.out.trans (below_of_grown hg (by omega) HB.out.size))
        clear hO hg HO HB
        go_wp2_with fail
        refine bodyPost_ret (v := .tuple #[.slice (some ⟨G, 0, none⟩) n c8, .int .i64 0]) (by simp [results, Try.results17, go_sem]) rfl ?_
        rw [HE.out, ← HN.out, builtF_talk BN.out, ← HS.out, ← HN.out]
        exact ⟨_, rfl, OB.base HO2.out (by omega), HB2.out⟩
      · have BN := hid (show p.kind = 2 ∧ p.bare = true from ⟨k2', bb⟩)
        replace k2' := hid k2'
        rw [bb] at y9
        go_wp2_with fail
        refine bodyPost_ret (v := .tuple #[.slice (some ⟨G, 0, none⟩) n c8, .int .i64 0]) (by simp [results, Try.results17, go_sem]) rfl ?_
        rw [HE.out, ← HN.out, builtF_bare BN.out]
        exact ⟨_, rfl, OB.base HO.out (by omega), HB.out⟩
    · have BN := hid (show ¬ (p.kind = 2 ∧ p.bare = true) from fun e => by have := e.1; simp at k2; exact k2 this)
      have S0 := hid (re_i64 (sumat_any (some ⟨G, 0, none⟩) n c8 (hedF p) w10 HO.out.sl1 (by omega)) (show ((sumA (hedF p 0) : Nat) : Int) = ((sumA p.kind : Nat) : Int) from by rw [hed_0]))
      have sl := kind_num (hedF p)
      rw [hed_0] at sl
      obtain ⟨s, hs⟩ : ∃ s, s = sumA p.kind := ⟨_, rfl⟩
      have HS := hid hs
      rw [← hs] at S0 sl
      clear hs
      go_wp2_with fail
      refine S0.out.mono ?_
      rintro e w' ⟨rfl, rfl⟩
      clear y0 y9
      go_upto_region 13 with (fail)
      have CPs := fun W => cut_put (G := G) (n := n) (c := c8) s 2 (by omega) hc8 (by omega) s (s + 2) (s + 2) rfl rfl rfl W
      have qs : IntKind.i64.wrap ((s : Int) + 2) = (s : Int) + 2 := IntWalk.i64_in _ (by omega)
      have SM := hid (fun (W : World) (hW : By W (some ⟨G, 0, none⟩) n (hedF p)) => summed_any (some ⟨G, 0, none⟩) n c8 (hedF p) W hW HDB.out e6 hc8 e5)
      have OF := hid (fun (W : World) A' c' (hW : By W A' (sumN (hedF p) n) (sumF (hedF p) n)) => of_any A' _ c' _ W hW (sumF_B HDB.out n) (by unfold sumN; split <;> omega))
      refine wp_region_held_drew (S := fun _ => True) (by kernel_rfl) trivial (fun hHeld => ?_)
      refine tk 0 (v := ?_) rfl (by kernel_rfl) (by kernel_rfl) (by kernel_rfl) (fun _ _ _ h => h) rfl ?_ hHeld ?_; rotate_left; (focus (intro w hSw; (try dsimp only at hSw);  go_simp; (try with_reducible rfl))); (try simp only [Act.put, List.setIfInBounds_toArray, List.set_cons_zero, List.set_cons_succ])
      refine tk 1 (v := ?_) rfl (by kernel_rfl) (by kernel_rfl) (by kernel_rfl) (fun _ _ _ h => h) rfl ?_ hHeld ?_; rotate_left; (focus (intro w hSw; (try dsimp only at hSw);  go_simp; (try with_reducible rfl))); (try simp only [Act.put, List.setIfInBounds_toArray, List.set_cons_zero, List.set_cons_succ])
      refine tk 2 (v := ?_) rfl (by kernel_rfl) (by kernel_rfl) (by kernel_rfl) (fun _ _ _ h => h) rfl ?_ hHeld ?_; rotate_left; (focus (intro w hSw; (try dsimp only at hSw);  go_simp; (try with_reducible rfl))); (try simp only [Act.put, List.setIfInBounds_toArray, List.set_cons_zero, List.set_cons_succ])
      refine tk 3 (v := ?_) rfl (by kernel_rfl) (by kernel_rfl) (by kernel_rfl) (fun _ _ _ h => h) rfl ?_ hHeld ?_; rotate_left; (focus (intro w hSw; (try dsimp only at hSw);  go_simp; (try with_reducible rfl))); (try simp only [Act.put, List.setIfInBounds_toArray, List.set_cons_zero, List.set_cons_succ])
      refine tk 4 (v := ?_) rfl (by kernel_rfl) (by kernel_rfl) (by kernel_rfl) (fun _ _ _ h => h) rfl ?_ hHeld ?_; rotate_left; (focus (intro w hSw; (try dsimp only at hSw);  go_simp; (try with_reducible rfl))); (try simp only [Act.put, List.setIfInBounds_toArray, List.set_cons_zero, List.set_cons_succ])
      refine tk 5 (v := ?_) rfl (by kernel_rfl) (by kernel_rfl) (by kernel_rfl) (fun _ _ _ h => h) rfl ?_ hHeld ?_; rotate_left; (focus (intro w hSw; (try dsimp only at hSw);  go_simp; (try with_reducible rfl))); (try simp only [Act.put, List.setIfInBounds_toArray, List.set_cons_zero, List.set_cons_succ])
      refine tk 6 (v := ?_) rfl (by kernel_rfl) (by kernel_rfl) (by kernel_rfl) (fun _ _ _ h => h) rfl ?_ hHeld ?_; rotate_left; (focus (intro w hSw; (try dsimp only at hSw);  go_simp; (try with_reducible rfl))); (try simp only [Act.put, List.setIfInBounds_toArray, List.set_cons_zero, List.set_cons_succ])
      refine tk 7 (v := ?_) rfl (by kernel_rfl) (by kernel_rfl) (by kernel_rfl) (fun _ _ _ h => h) rfl ?_ hHeld ?_; rotate_left; (focus (intro w hSw; (try dsimp only at hSw);  go_simp; (try with_reducible rfl))); (try simp only [Act.put, List.setIfInBounds_toArray, List.set_cons_zero, List.set_cons_succ])
      refine only 8 rfl (by kernel_rfl) rfl (fun K hK => ?_)
      go_simp
      refine (SM.out _ (Ow.sl1 (Ow.drew HO.out))).mono ?_
      rintro e' w11 ⟨A2, c2, rfl, hS, hb11⟩
      try go_wp2_with fail
      refine hK.out _ _ trivial (fun _ => ?_)
      clear hK
      (try simp only [Act.put, List.setIfInBounds_toArray, List.set_cons_zero, List.set_cons_succ])
      have HO2 := hid (OB.keep_ (Ow.drew HO.out) hb11)
      have HB2 := hid (HB.out.drew.trans (hb11.mono HB.out.drew.size))
      have HS2 := hid hS
      clear hS hb11 HO HB
      refine only 9 rfl (by kernel_rfl) rfl (fun K hK => ?_)
      go_simp
      refine (OF.out _ A2 c2 HS2.out).mono ?_
      rintro e' w' ⟨rfl, m', rfl⟩
      try go_wp2_with fail
      refine hK.out _ _ trivial (fun _ => ?_)
      clear hK
      (try simp only [Act.put, List.setIfInBounds_toArray, List.set_cons_zero, List.set_cons_succ])
      refine only 10 rfl (by kernel_rfl) rfl (fun K hK => ?_)
      go_simp
      refine (put_any (Ow.drewN HO2.out m') s 2 2 (65535 - norm (tot (sumF (hedF p) n) (sumN (hedF p) n))) (by omega) (by omega)).mono ?_
      rintro e' w12 ⟨rfl, hO, hg⟩
      try go_wp2_with fail
      refine hK.out _ _ trivial (fun _ => ?_)
      have hg2 : w11.grownBy w12 (some G) := ⟨hg.os, hg.tape, hg.output, hg.size, hg.block⟩
      have HO := hid hO
      have HB := hid (HB2.out.trans (below_of_grown hg2 (by omega) HB2.out.size))
      clear hK hO hg hg2 HO2 HB2
      (try simp only [Act.put, List.setIfInBounds_toArray, List.set_cons_zero, List.set_cons_succ])
      refine wpAnyH_done (by kernel_rfl) ?_ _
      have XB := hid (putF_B HDB.out s 2 (65535 - norm (tot (sumF (hedF p) n) (sumN (hedF p) n))))
      have k0 : putF (hedF p) s 2 (65535 - norm (tot (sumF (hedF p) n) (sumN (hedF p) n))) 0 = p.kind := by rw [putF_out (by omega), hed_0]
      replace k0 := hid k0
      go_wp2_with fail
      refine (fill_any HO.out XB.out (by omega) (.inr e6) hc8 (by omega)).mono ?_
      rintro e w13 ⟨rfl, hO, hg⟩
      have HO2 := hid hO
      have HB2 := hid (HB.out.trans (below_of_grown hg (by omega) HB.out.size))
      clear hO hg HO HB
      go_wp2_with fail
      refine bodyPost_ret (v := .tuple #[.slice (some ⟨G, 0, none⟩) n c8, .int .i64 0]) (by simp [results, Try.results17, go_sem]) rfl ?_
      rw [HE.out, ← HN.out, builtF_talk BN.out, ← HS.out, ← HN.out]
      exact ⟨_, rfl, OB.base HO2.out (by omega), HB2.out⟩
  · have HZ := hid (show z ≠ 0 from by simpa using z0)
    have HE := hid hz
    clear hz
    go_enter Try.func17, Try.ntmps17
    go_upto_region 1 with (fail)
    generalize (w.alloc (.cells #[.int .i64 p.kind, .int .i64 p.life, .int .i64 p.piece, .int .i64 p.src, .int .i64 p.dst, .int .i64 p.fp, .int .i64 p.tp, .int .i64 p.flags, .int .i64 p.label, .bool p.bare, .int .i64 p.code, .slice AO p.no cO, .slice AD p.nd cD] 26)) = w1 at *
    have lP : w.heap.size < w1.heap.size := CE.out.1
    have y0 := CE.out.2.1 0 _ rfl
    have y1 := CE.out.2.1 1 _ rfl
    have y2 := CE.out.2.1 2 _ rfl
    have y3 := CE.out.2.1 3 _ rfl
    have y4 := CE.out.2.1 4 _ rfl
    have y5 := CE.out.2.1 5 _ rfl
    have y6 := CE.out.2.1 6 _ rfl
    have y7 := CE.out.2.1 7 _ rfl
    have y8 := CE.out.2.1 8 _ rfl
    have y9 := CE.out.2.1 9 _ rfl
    have y10 := CE.out.2.1 10 _ rfl
    have y11 := CE.out.2.1 11 _ rfl
    have y12 := CE.out.2.1 12 _ rfl
    go_wp2_with fail
    refine (CK.out _).mono ?_
    rintro e w2 ⟨rfl, hb⟩
    have HC := hid (CE.out.below hb)
    have HB := hid (B0.out.trans (hb.mono B0.out.size))
    have lw : w1.heap.size ≤ w2.heap.size := hb.size
    clear hb CE B0 CK
    clear y0 y1 y2 y3 y4 y5 y6 y7 y8 y9 y10 y11 y12
    go_wp2_with fail
    refine bodyPost_ret (v := .tuple #[.slice none 0 0, .int .i64 z]) (by simp [results, Try.results17, go_sem]) rfl ?_
    rw [← HE.out]
    exact outd_no HZ.out HB.out
end Go.Proofs.Ytjljaecjnpmdoaa
