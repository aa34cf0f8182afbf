/- faultIn. -/
import Derived.Test.YteapnfdpkjbfhaaGreatGa
import Derived.Test.YteapnfdpkjbfhaaGreatPlFx
import Derived.Test.YteapnfdpkjbfhaaGreatPlR
import Derived.Test.YteapnfdpkjbfhaaGreatGz
import Derived.BigQuiet
import Derived.Deep.RegionHeld3
import Derived.Deep.Cut
import Derived.IntWalk
namespace Go.Proofs.YteapnfdpkjbfhaaGreat
set_option linter.unusedVariables false
set_option linter.unusedSimpArgs false
open Go.RowKit Go.ChangeShapes Go.WideShapes Go.ChangeAt
theorem zSlot (w : World) : (zeroValue 25).run Tryz.prog w = .ok (.agg ([.int .i64 0, .int .i64 0, .int .i64 0, .int .i64 0, .int .i64 0] : List Value).toArray) w := by kernel_rfl
theorem iSlot : (Tryz.prog.info? 25).map (·.size) = some 5 := by kernel_rfl
theorem fau_bd (p : Pl) (x : Pk) : fauS p x = -1 ∨ ∃ k : Nat, k < 64 ∧ fauS p x = k := by
 unfold fauS
 have hb := pkW_bd (flP p (num x.gd 8 4) (num x.gd 18 2))
 rcases whl_bd (p := p) (j := (pkW (flP p (num x.gd 8 4) (num x.gd 18 2))).toNat) (by omega) with h | ⟨i, h1, _, h3⟩
 ·exact .inl h
 ·exact .inr ⟨i, h1, h3⟩
set_option maxRecDepth 100000
set_option maxHeartbeats 4000000 in
theorem fault_any (p : Pl) (pb sb wb : Nat) (nr : Nat → Option Int) (g : Nat → Int) (n c : Nat) (x : Pk) (X AO : Option Addr) (cO : Nat) (AD : Option Addr) (cD : Nat) (w : World) (hx : x = parseR g n) (hg : IsB g) (hE : parseE g n = 0) (h1 : 1 < g 1) (h3 : g 0 = 3) (hp : Pt p) (hF : Fb w pb 130 (plf sb nr)) (hS : StAt w sb wb p) (hX : By w X n g) (hc : n ≤ c) (hD : By w AD x.nd x.gd) (hcD : x.nd ≤ cD) :
 Calls Tryz.prog 49 #[.pointer (some ⟨sb, 0, none⟩), .slice X n c, .agg #[.int .i64 x.kind, .int .i64 x.life, .int .i64 x.piece, .int .i64 x.src, .int .i64 x.dst, .int .i64 x.fp, .int .i64 x.tp, .int .i64 x.flags, .int .i64 x.label, .bool x.bare, .int .i64 x.code, .slice AO x.no cO, .slice AD x.nd cD]] w (Took w pb sb (fauT p nr g n x)) := by
 have bd := rd_bd hg hE
 have ln := rd_len hg hE
 rw [← hx] at bd ln
 obtain ⟨l1, l2, l3, l4, l5, l6, l7, l8, l9⟩ := ln
 obtain ⟨m1, m2, m3⟩ := l9 h3
 have hd6 := bd.2.2.2.2.2.2
 obtain ⟨p1, p2, p3, p4, p5⟩ := hp
 have SA := hid hS
 have HF := hid hF
 have HX := hid (fun (w' : World) (hb : Below w.heap.size w w') => (show By w' X n g from Sl.below hX hb (Nat.le_refl _)))
 have HD := hid (fun (w' : World) (hb : Below w.heap.size w w') => (show By w' AD x.nd x.gd from Sl.below hD hb (Nat.le_refl _)))
 have b4 := num_bd hd6 4 4
 have b16 := num_bd hd6 16 2
 have b8 := num_bd hd6 8 4
 have b18 := num_bd hd6 18 2
 rw [show (256 : Int) ^ 4 = 4294967296 by decide] at b4 b8
 rw [show (256 : Int) ^ 2 = 65536 by decide] at b16 b18
 have hfI : (flP p (num x.gd 8 4) (num x.gd 18 2)).I := ⟨⟨by show _ ≤ num x.gd 8 4; omega, by show num x.gd 8 4 ≤ _; omega⟩, ⟨by show _ ≤ num x.gd 18 2; omega, by show num x.gd 18 2 ≤ _; omega⟩, ⟨by show _ ≤ p.a; omega, by show p.a ≤ _; omega⟩, ⟨by show _ ≤ p.p; omega, by show p.p ≤ _; omega⟩⟩
 have PK := hid (fun (w' : World) (hs : Hid (Is w' (some ⟨wb, 0, none⟩) 127 (whlW p))) => pick_any (some ⟨wb, 0, none⟩) 127 (whlW p) (flP p (num x.gd 8 4) (num x.gd 18 2)) hfI w' hs.out)
 have PB := hid (fun (k : Nat) (hk : k < 64) => (show (0 ≤ (p.s k).ad ∧ (p.s k).ad ≤ 4294967295) ∧ 0 ≤ (p.s k).po ∧ (p.s k).po ≤ 65535 from ⟨(p1 k hk).1, (p1 k hk).2.1⟩))
 have FS := hid (fun (k : Nat) (hk : k < 64) => fau_steps hg hE h1 h3 (PB.out k hk).1 (PB.out k hk).2)
 have AG := hid (tk_age hE h1)
 have N44 : Hid (44 ≤ n ∧ x.nd = n - 20 ∧ n ≤ 1500) := hid ⟨m1, m2, l2⟩
 have hn6 : n ≤ 1000000 := by omega
 have HG := hid hg
 have HC := hid hc
 have HB0 := hid (hd6 0)
 have HT : Hid (fauT p nr g n x = if fauB p x = true then dropT 8 nr else if fauS p x = -1 then dropT 9 nr else ⟨0, fauS p x, false, n, fauG g n (p.s (fauS p x).toNat), nr⟩) := hid rfl
 have HFB : Hid (fauB p x = (((x.gd 0 != 1 && x.gd 0 != 2) || num x.gd 4 4 != p.a) || num x.gd 16 2 != p.p)) := hid rfl
 have HBD : Hid (fauS p x = -1 ∨ ∃ k : Nat, k < 64 ∧ fauS p x = k) := hid (fau_bd p x)
 have HFS : Hid (fauS p x = whlW p (pkW (flP p (num x.gd 8 4) (num x.gd 18 2))).toNat) := hid rfl
 obtain ⟨bD, oD, rfl⟩ := hD.addr (by omega)
 have NUM := hid (fun (w' : World) (hb : Below w.heap.size w w') (a m k : Nat) (hm : m ≤ 4) (h : a + m ≤ x.nd) => (show Calls Tryz.prog 78 #[.slice (some ⟨bD, oD + a, none⟩) m k] w' fun e w2 => e = .returned (.int .i64 (num x.gd a m)) ∧ w' = w2 from by
  have := pnumber_any (some ⟨bD, oD + a, none⟩) m k (fun j => x.gd (a + j)) w' (Sl.cut (HD.out w' hb) m h) (fun j => hd6 _) hm
  rw [num_shift] at this
  exact this))
 have hsl : ∀ (W : World) (a b : Nat) (z u : Int) (_ : z = a) (_ : u = b) (_ : a < b) (_ : b ≤ 24), (Instr.slice 37 (.slice (some ⟨bD, oD, none⟩) x.nd cD) (some (.int .i64 z)) (some (.int .i64 u)) none).run Tryz.prog W = .ok (.slice (some ⟨bD, oD + a, none⟩) (b - a) (cD - a)) W := fun W a b z u hz hu h1 h2 => by
  subst hz hu
  have hne : ¬ cD = a := by omega
  rw [run_slice_lh W 37 _ x.nd cD elem_b .i64 .i64 _ _ (by omega) (by omega) (by omega), size_b W]
  simp [Result.andThen, sliced, Addr.add, hne]
 have s4 := fun W => hsl W 4 8 4 8 rfl rfl (by omega) (by omega)
 have s16 := fun W => hsl W 16 18 16 18 rfl rfl (by omega) (by omega)
 have s8 := fun W => hsl W 8 12 8 12 rfl rfl (by omega) (by omega)
 have s18 := fun W => hsl W 18 20 18 20 rfl rfl (by omega) (by omega)
 dsimp only [Nat.reduceSub, Nat.reduceAdd] at s4 s16 s8 s18
 have S0 : Hid (HS [] w w []) := hid HS.start
 clear m3 hsl hS hF hX hD hE h3 h1 hx hfI b4 b16 b8 b18 bd l1 l2 l3 l4 l5 l6 l7 l8 l9 m1 m2 p1 p2 p3 p4 p5 hc hg hd6
 go_enter Tryz.func49, Tryz.ntmps49
 go_upto_region 1 with (first | ((with_reducible refine wl_id ?_); refine wl_ow rfl (ow_boxC (l := [.int .i64 x.kind, .int .i64 x.life, .int .i64 x.piece, .int .i64 x.src, .int .i64 x.dst, .int .i64 x.fp, .int .i64 x.tp, .int .i64 x.flags, .int .i64 x.label, .bool x.bare, .int .i64 x.code, .slice AO x.no cO, .slice (some ⟨bD, oD, none⟩) x.nd cD]) rfl rfl (by simp) S0.out ?_); intro E w_ hZ _; have S1 := hid hZ; clear hZ) | ((with_reducible refine wl_id ?_); refine wl_ow rfl (ow_allocC rfl (zOc _) (by simp) S1.out ?_); intro U w_ hZ _; have S2 := hid hZ; clear hZ))
 have HB1 := HB0.out
 have v0 : IntKind.i64.wrap (x.gd 0) = x.gd 0 := IntWalk.i64_in _ (by omega)
 obtain ⟨y0, y1, y2, y3, y4, y5, y6, y7, y8, y9, y10, y11, y12⟩ := (S2.out.ce 1 rfl).c13
 have e0 := (HD.out _ S2.out.bl).at_ (j := 0) (by have := N44.out; omega)
 have i1 : (0 : Int) < (x.nd : Int) := by have := N44.out; omega
 rw [Nat.add_zero] at e0
 go_upto_region 2 with (fail)
 clear y0 y1 y2 y3 y4 y5 y6 y7 y8 y9 y10 y11 y12 e0 v0 HB1
 go_cut [45] from 16 to 44 (fun s wx => s = .bool (fauB p x) ∧ HS [] w wx [thC U [.int .i64 0, .int .i64 0, .bool false, .slice none 0 0], thC E [.int .i64 x.kind, .int .i64 x.life, .int .i64 x.piece, .int .i64 x.src, .int .i64 x.dst, .int .i64 x.fp, .int .i64 x.tp, .int .i64 x.flags, .int .i64 x.label, .bool x.bare, .int .i64 x.code, .slice AO x.no cO, .slice (some ⟨bD, oD, none⟩) x.nd cD]])
 case first =>
  refine wp_region_held_drew (S := fun (w' : World) => HS [] w w' [thC U [.int .i64 0, .int .i64 0, .bool false, .slice none 0 0], thC E [.int .i64 x.kind, .int .i64 x.life, .int .i64 x.piece, .int .i64 x.src, .int .i64 x.dst, .int .i64 x.fp, .int .i64 x.tp, .int .i64 x.flags, .int .i64 x.label, .bool x.bare, .int .i64 x.code, .slice AO x.no cO, .slice (some ⟨bD, oD, none⟩) x.nd cD]]) (by kernel_rfl) ?_ (fun hHeld => ?_)
  ·exact S2.out.drew
  cases b1 : (x.gd 0 != 1)
  ·
   refine tkq 0 hHeld ?_
   refine tkq 1 hHeld ?_
   refine tkq 2 hHeld ?_
   refine tuq 3 hHeld ?_
   refine tuq 4 hHeld ?_
   refine tkq 5 hHeld ?_
   refine tkq 6 hHeld ?_
   refine tkq 7 hHeld ?_
   refine tkq 8 hHeld ?_ (hy := by intro w hSw; (try dsimp only at hSw); obtain ⟨y0, y1, y2, y3, y4, y5, y6, y7, y8, y9, y10, y11, y12⟩ := (hSw.ce 1 rfl).c13; go_simp; (try with_reducible rfl))
   refine tkq 9 hHeld ?_
   refine tkq 11 hHeld ?_
   refine tkq 12 hHeld ?_
   refine tkq 13 hHeld ?_
   refine tkq 14 hHeld ?_
   refine tkq 15 hHeld ?_ (hy := by intro w hSw; (try dsimp only at hSw); have q1 := (SA.out.below hSw.bl).pl.c1; have q2 := (SA.out.below hSw.bl).pl.c2; have q3 := (SA.out.below hSw.bl).sl; go_simp; (try with_reducible rfl))
   refine only 10 rfl (by kernel_rfl) rfl (fun K hK => ?_)
   go_simp
   refine (NUM.out _ hHeld.bl 4 4 _ (by omega) (by have := N44.out; omega)).mono ?_
   rintro e w3 ⟨rfl, rfl⟩
   try go_wp2_with fail
   refine hK.out _ _ hHeld (fun h4 => ?_)
   clear hK
   try simp only [Act.put, List.setIfInBounds_toArray, List.set_cons_zero, List.set_cons_succ]
   cases b3 : (num x.gd 4 4 != p.a)
   ·clear hHeld; have hHeld := h4; clear h4
    refine tkq 16 hHeld ?_
    refine tkq 17 hHeld ?_
    refine tkq 18 hHeld ?_
    refine tkq 19 hHeld ?_
    refine tkq 20 hHeld ?_ (hy := by intro w hSw; (try dsimp only at hSw); obtain ⟨y0, y1, y2, y3, y4, y5, y6, y7, y8, y9, y10, y11, y12⟩ := (hSw.ce 1 rfl).c13; go_simp; (try with_reducible rfl))
    refine tkq 21 hHeld ?_
    refine tkq 23 hHeld ?_
    refine tkq 24 hHeld ?_
    refine tkq 25 hHeld ?_
    refine tkq 26 hHeld ?_
    refine tkq 27 hHeld ?_ (hy := by intro w hSw; (try dsimp only at hSw); have q1 := (SA.out.below hSw.bl).pl.c1; have q2 := (SA.out.below hSw.bl).pl.c2; have q3 := (SA.out.below hSw.bl).sl; go_simp; (try with_reducible rfl))
    refine only 22 rfl (by kernel_rfl) rfl (fun K hK => ?_)
    go_simp
    refine (NUM.out _ hHeld.bl 16 2 _ (by omega) (by have := N44.out; omega)).mono ?_
    rintro e w3 ⟨rfl, rfl⟩
    try go_wp2_with fail
    refine hK.out _ _ hHeld (fun hE => ?_)
    clear hK
    try simp only [Act.put, List.setIfInBounds_toArray, List.set_cons_zero, List.set_cons_succ]
    refine tkq 28 hE ?_
    refine tkq 29 hE ?_
    have S3 := hid hE
    clear hHeld hE
    refine wpAnyH_done (by kernel_rfl) ?_ _
    go_wp2_with fail
    go_meet
    exact ⟨by rw [HFB.out]; simp [b1, b3], S3.out⟩
   ·clear hHeld; have hHeld := h4; clear h4
    refine tkq 16 hHeld ?_
    refine tkq 17 hHeld ?_
    refine tkq 18 hHeld ?_
    refine tuq 19 hHeld ?_
    refine tuq 20 hHeld ?_
    refine tuq 21 hHeld ?_
    refine tuq 22 hHeld ?_
    refine tuq 23 hHeld ?_
    refine tuq 24 hHeld ?_
    refine tuq 25 hHeld ?_
    refine tuq 26 hHeld ?_
    refine tuq 27 hHeld ?_
    refine tuq 28 hHeld ?_
    refine tkq 29 hHeld ?_
    have hE := hHeld
    have S3 := hid hE
    clear hHeld hE
    refine wpAnyH_done (by kernel_rfl) ?_ _
    go_wp2_with fail
    go_meet
    exact ⟨by rw [HFB.out]; simp [b1, b3], S3.out⟩
  ·cases b2 : (x.gd 0 != 2)
   ·
    refine tkq 0 hHeld ?_
    refine tkq 1 hHeld ?_
    refine tkq 2 hHeld ?_
    refine tkq 3 hHeld ?_
    refine tkq 4 hHeld ?_
    refine tkq 5 hHeld ?_
    refine tkq 6 hHeld ?_
    refine tkq 7 hHeld ?_
    refine tkq 8 hHeld ?_ (hy := by intro w hSw; (try dsimp only at hSw); obtain ⟨y0, y1, y2, y3, y4, y5, y6, y7, y8, y9, y10, y11, y12⟩ := (hSw.ce 1 rfl).c13; go_simp; (try with_reducible rfl))
    refine tkq 9 hHeld ?_
    refine tkq 11 hHeld ?_
    refine tkq 12 hHeld ?_
    refine tkq 13 hHeld ?_
    refine tkq 14 hHeld ?_
    refine tkq 15 hHeld ?_ (hy := by intro w hSw; (try dsimp only at hSw); have q1 := (SA.out.below hSw.bl).pl.c1; have q2 := (SA.out.below hSw.bl).pl.c2; have q3 := (SA.out.below hSw.bl).sl; go_simp; (try with_reducible rfl))
    refine only 10 rfl (by kernel_rfl) rfl (fun K hK => ?_)
    go_simp
    refine (NUM.out _ hHeld.bl 4 4 _ (by omega) (by have := N44.out; omega)).mono ?_
    rintro e w3 ⟨rfl, rfl⟩
    try go_wp2_with fail
    refine hK.out _ _ hHeld (fun h4 => ?_)
    clear hK
    try simp only [Act.put, List.setIfInBounds_toArray, List.set_cons_zero, List.set_cons_succ]
    cases b3 : (num x.gd 4 4 != p.a)
    ·clear hHeld; have hHeld := h4; clear h4
     refine tkq 16 hHeld ?_
     refine tkq 17 hHeld ?_
     refine tkq 18 hHeld ?_
     refine tkq 19 hHeld ?_
     refine tkq 20 hHeld ?_ (hy := by intro w hSw; (try dsimp only at hSw); obtain ⟨y0, y1, y2, y3, y4, y5, y6, y7, y8, y9, y10, y11, y12⟩ := (hSw.ce 1 rfl).c13; go_simp; (try with_reducible rfl))
     refine tkq 21 hHeld ?_
     refine tkq 23 hHeld ?_
     refine tkq 24 hHeld ?_
     refine tkq 25 hHeld ?_
     refine tkq 26 hHeld ?_
     refine tkq 27 hHeld ?_ (hy := by intro w hSw; (try dsimp only at hSw); have q1 := (SA.out.below hSw.bl).pl.c1; have q2 := (SA.out.below hSw.bl).pl.c2; have q3 := (SA.out.below hSw.bl).sl; go_simp; (try with_reducible rfl))
     refine only 22 rfl (by kernel_rfl) rfl (fun K hK => ?_)
     go_simp
     refine (NUM.out _ hHeld.bl 16 2 _ (by omega) (by have := N44.out; omega)).mono ?_
     rintro e w3 ⟨rfl, rfl⟩
     try go_wp2_with fail
     refine hK.out _ _ hHeld (fun hE => ?_)
     clear hK
     try simp only [Act.put, List.setIfInBounds_toArray, List.set_cons_zero, List.set_cons_succ]
     refine tkq 28 hE ?_
     refine tkq 29 hE ?_
     have S3 := hid hE
     clear hHeld hE
     refine wpAnyH_done (by kernel_rfl) ?_ _
     go_wp2_with fail
     go_meet
     exact ⟨by rw [HFB.out]; simp [b1, b2, b3], S3.out⟩
    ·clear hHeld; have hHeld := h4; clear h4
     refine tkq 16 hHeld ?_
     refine tkq 17 hHeld ?_
     refine tkq 18 hHeld ?_
     refine tuq 19 hHeld ?_
     refine tuq 20 hHeld ?_
     refine tuq 21 hHeld ?_
     refine tuq 22 hHeld ?_
     refine tuq 23 hHeld ?_
     refine tuq 24 hHeld ?_
     refine tuq 25 hHeld ?_
     refine tuq 26 hHeld ?_
     refine tuq 27 hHeld ?_
     refine tuq 28 hHeld ?_
     refine tkq 29 hHeld ?_
     have hE := hHeld
     have S3 := hid hE
     clear hHeld hE
     refine wpAnyH_done (by kernel_rfl) ?_ _
     go_wp2_with fail
     go_meet
     exact ⟨by rw [HFB.out]; simp [b1, b2, b3], S3.out⟩
   ·
    refine tkq 0 hHeld ?_
    refine tkq 1 hHeld ?_
    refine tkq 2 hHeld ?_
    refine tkq 3 hHeld ?_
    refine tkq 4 hHeld ?_
    refine tkq 5 hHeld ?_
    refine tkq 6 hHeld ?_
    refine tuq 7 hHeld ?_
    refine tuq 8 hHeld ?_
    refine tuq 9 hHeld ?_
    refine tuq 10 hHeld ?_
    refine tuq 11 hHeld ?_
    refine tuq 12 hHeld ?_
    refine tuq 13 hHeld ?_
    refine tuq 14 hHeld ?_
    refine tuq 15 hHeld ?_
    refine tuq 16 hHeld ?_
    refine tkq 17 hHeld ?_
    refine tkq 18 hHeld ?_
    refine tuq 19 hHeld ?_
    refine tuq 20 hHeld ?_
    refine tuq 21 hHeld ?_
    refine tuq 22 hHeld ?_
    refine tuq 23 hHeld ?_
    refine tuq 24 hHeld ?_
    refine tuq 25 hHeld ?_
    refine tuq 26 hHeld ?_
    refine tuq 27 hHeld ?_
    refine tuq 28 hHeld ?_
    refine tkq 29 hHeld ?_
    have hE := hHeld
    have S3 := hid hE
    clear hHeld hE
    refine wpAnyH_done (by kernel_rfl) ?_ _
    go_wp2_with fail
    go_meet
    exact ⟨by rw [HFB.out]; simp [b1, b2], S3.out⟩
 case rest =>
  obtain ⟨rfl, hz⟩ := hcut
  have S3 := hid hz
  clear hz S2 S1 S0
  obtain ⟨bb, hbb⟩ : ∃ bb, bb = fauB p x := ⟨_, rfl⟩
  rw [← hbb] at HT ⊢
  clear hbb HFB
  cases bb
  ·go_upto_region 4 with (fail)
   refine wp_region_held_drew (S := fun (w' : World) => HS [] w w' [thC U [.int .i64 0, .int .i64 0, .bool false, .slice none 0 0], thC E [.int .i64 x.kind, .int .i64 x.life, .int .i64 x.piece, .int .i64 x.src, .int .i64 x.dst, .int .i64 x.fp, .int .i64 x.tp, .int .i64 x.flags, .int .i64 x.label, .bool x.bare, .int .i64 x.code, .slice AO x.no cO, .slice (some ⟨bD, oD, none⟩) x.nd cD]]) (by kernel_rfl) ?_ (fun hHeld => ?_)
   ·exact S3.out.drew
   refine tkq 0 hHeld ?_
   refine tkq 1 hHeld ?_
   refine tkq 2 hHeld ?_
   refine tkq 3 hHeld ?_ (hy := by intro w hSw; (try dsimp only at hSw); have q1 := (SA.out.below hSw.bl).pl.c1; have q2 := (SA.out.below hSw.bl).pl.c2; have q3 := (SA.out.below hSw.bl).sl; go_simp; (try with_reducible rfl))
   refine tkq 4 hHeld ?_
   refine tkq 5 hHeld ?_
   refine tkq 6 hHeld ?_ (hy := by intro w hSw; (try dsimp only at hSw); obtain ⟨y0, y1, y2, y3, y4, y5, y6, y7, y8, y9, y10, y11, y12⟩ := (hSw.ce 1 rfl).c13; go_simp; (try with_reducible rfl))
   refine tkq 7 hHeld ?_
   refine tkq 9 hHeld ?_
   refine tkq 10 hHeld ?_ (hy := by intro w hSw; (try dsimp only at hSw); obtain ⟨y0, y1, y2, y3, y4, y5, y6, y7, y8, y9, y10, y11, y12⟩ := (hSw.ce 1 rfl).c13; go_simp; (try with_reducible rfl))
   refine tkq 11 hHeld ?_
   refine only 8 rfl (by kernel_rfl) rfl (fun K hK => ?_)
   go_simp
   refine (NUM.out _ hHeld.bl 8 4 _ (by omega) (by have := N44.out; omega)).mono ?_
   rintro e w3 ⟨rfl, rfl⟩
   try go_wp2_with fail
   refine hK.out _ _ hHeld (fun h3 => ?_)
   clear hK
   try simp only [Act.put, List.setIfInBounds_toArray, List.set_cons_zero, List.set_cons_succ]
   clear hHeld; have hHeld := h3; clear h3
   refine only 12 rfl (by kernel_rfl) rfl (fun K hK => ?_)
   go_simp
   refine (NUM.out _ hHeld.bl 18 2 _ (by omega) (by have := N44.out; omega)).mono ?_
   rintro e w3 ⟨rfl, rfl⟩
   try go_wp2_with fail
   refine hK.out _ _ hHeld (fun h3 => ?_)
   clear hK
   try simp only [Act.put, List.setIfInBounds_toArray, List.set_cons_zero, List.set_cons_succ]
   clear hHeld; have hHeld := h3; clear h3
   refine only 13 rfl (by kernel_rfl) rfl (fun K hK => ?_)
   have q1 := (SA.out.below hHeld.bl).pl.c1
   have q2 := (SA.out.below hHeld.bl).pl.c2
   have hlt := (SA.out.below hHeld.bl).pl.1
   go_simp
   refine (flow_any p sb (num x.gd 8 4) (num x.gd 18 2) _ q1 q2 hlt).mono ?_
   rintro e w3 ⟨rfl, hb⟩
   try go_wp2_with fail
   refine hK.out _ _ (hHeld.below hb) (fun h3 => ?_)
   clear hK hb hHeld q1 q2 hlt
   try simp only [Act.put, List.setIfInBounds_toArray, List.set_cons_zero, List.set_cons_succ]
   refine only 14 rfl (by kernel_rfl) rfl (fun K hK => ?_)
   go_simp
   refine (PK.out _ (hid (SA.out.below h3.bl).wh.slice)).mono ?_
   rintro e w4 ⟨rfl, hb⟩
   rw [← HFS.out]
   try go_wp2_with fail
   refine hK.out _ _ (h3.below hb) (fun h4 => ?_)
   clear hK hb h3
   try simp only [Act.put, List.setIfInBounds_toArray, List.set_cons_zero, List.set_cons_succ]
   refine tkq 15 h4 ?_
   have S5 := hid h4
   clear h4 S3
   refine wpAnyH_done (by kernel_rfl) ?_ _
   obtain ⟨sl, hsl⟩ : ∃ sl, sl = fauS p x := ⟨_, rfl⟩
   rw [← hsl] at HT HBD ⊢
   clear hsl HFS
   rcases HBD.out with rfl | ⟨k, hk, rfl⟩
   ·have HR : Hid (fauT p nr g n x = dropT 9 nr) := hid (by rw [HT.out, if_neg (by simp), if_pos rfl])
    clear HT HBD
    go_wp2_with fail
    refine (drop_any 9 _).mono ?_
    rintro e w20 ⟨rfl, hb⟩
    have S20 := hid (S5.out.below hb)
    clear hb S5
    unfold ocV
    go_simp
    go_wp2_with (((with_reducible refine wl_id ?_); refine wl_ow rfl (ow_storeC (A := []) [.int .i64 9, .int .i64 (-1), .bool false, .slice none 0 0] rfl rfl (rfl) S20.out rfl iOc rfl ?_); intro w_ hZ; have S21 := hid hZ; clear hZ; (first | refine end_then ?_ | refine then_norm ?_); apply_assumption; refine wp_ret ?_; (repeat refine ret_then ?_); (show bodyPost _ _ _ _ _ _); exact bodyPost_ret (v := .agg ([.int .i64 9, .int .i64 (-1), .bool false, .slice none 0 0] : List Value).toArray) (results_C Tryz.results49 _ rfl (S21.out.ce 0 rfl) Tryz.underlying47 rfl iOc) rfl (by rw [HR.out]; exact ⟨none, 0, rfl, OB.nil, Nat.le_refl _, HF.out.below S21.out.bl, Ch.of_below S21.out.bl⟩)))
   ·have HR : Hid (fauT p nr g n x = ⟨0, (k : Int), false, n, wrF (wrF (reaF (ageF g) n (p.s k).ad) n (24 : Int).toNat (4 : Int).toNat (p.s k).ad) n (36 : Int).toNat (2 : Int).toNat (p.s k).po, nr⟩) := hid (by rw [HT.out, if_neg (by simp), if_neg (by omega)]; rfl)
    clear HT HBD
    have kne : ((k : Int) == -1) = false := by simp
    have i0 : (0 : Int) ≤ k := by omega
    have i1 : (k : Int) < 64 := by omega
    obtain ⟨a0, a1, a2, a3, a4⟩ := (SA.out.below S5.out.bl).pl.s5 k hk
    go_upto_region 8 with (first | ((with_reducible refine wl_id ?_); refine wl_ow rfl (ow_allocC rfl (zSlot _) (by simp) S5.out ?_); intro Z w_ hZ _; have S6 := hid hZ; clear hZ) | ((with_reducible refine wl_id ?_); refine wl_ow rfl (ow_storeC (A := []) [.int .i64 (p.s k).st, .int .i64 (p.s k).ad, .int .i64 (p.s k).po, .int .i64 (p.s k).we, .int .i64 (p.s k).si] rfl rfl (rfl) S6.out rfl iSlot rfl ?_); intro w_ hZ; have S7 := hid hZ; clear hZ))
    clear a0 a1 a2 a3 a4 S5
    go_upto_region 9 with (((with_reducible refine wl_id ?_); refine wl_ow rfl (ow_boxC (l := [.slice X n c, .int .i64 0]) rfl rfl (by simp) S7.out ?_); intro Q w_ hZ _; have S8 := hid hZ; clear hZ))
    go_wp2_with fail
    refine (way_age (S8.out.ce 0 rfl) (HX.out _ S8.out.bl) HG.out hn6 HC.out AG.out).mono ?_
    rintro e w9 ⟨rfl, hw⟩
    obtain ⟨X1, c1, hz, hc1⟩ := HS.way (A := []) S8.out hw rfl
    have S9 := hid hz
    have HC1 := hid hc1
    clear hz hc1 hw S8 S7
    go_simp
    have z1 := (S9.out.ce 2 rfl).2.1 1 _ rfl
    go_wp2_with fail
    refine (way_rea (S9.out.ce 1 rfl) (Ow.sl1 (S9.out.nth 0 rfl)) (FS.out k hk).1.2.2 (FS.out k hk).1.1 (FS.out k hk).1.2.1 HC1.out (p.s k).ad (PB.out k hk).1).mono ?_
    rintro e w10 ⟨rfl, hw⟩
    obtain ⟨X2, c2, hz, hc2⟩ := HS.way (A := [thW w.heap.size 5 1 (.slice X1 n c1) n (fun j => .int .u8 (ageF g j))]) S9.out hw rfl
    have S10 := hid hz
    have HC2 := hid hc2
    clear hz hc2 hw S9 z1
    go_simp
    have z1 := (S10.out.ce 3 rfl).2.1 1 _ rfl
    go_wp2_with fail
    refine (way_write (S10.out.ce 2 rfl) (Ow.sl1 (S10.out.nth 0 rfl)) (FS.out k hk).2.1.1 hn6 HC2.out 24 4 (p.s k).ad ⟨by omega, by omega⟩ (FS.out k hk).2.1.2).mono ?_
    rintro e w11 ⟨rfl, hw⟩
    obtain ⟨X3, c3, hz, hc3⟩ := HS.way (A := [thW w.heap.size 5 1 (.slice X2 n c2) n (fun j => .int .u8 (reaF (ageF g) n (p.s k).ad j)), thW w.heap.size 5 1 (.slice X1 n c1) n (fun j => .int .u8 (ageF g j))]) S10.out hw rfl
    have S11 := hid hz
    have HC3 := hid hc3
    clear hz hc3 hw S10 z1
    go_simp
    have z2 := (S11.out.ce 4 rfl).2.1 2 _ rfl
    go_wp2_with fail
    refine (way_write (S11.out.ce 3 rfl) (Ow.sl1 (S11.out.nth 0 rfl)) (FS.out k hk).2.2.1 hn6 HC3.out 36 2 (p.s k).po ⟨by omega, by omega⟩ (FS.out k hk).2.2.2).mono ?_
    rintro e w12 ⟨rfl, hw⟩
    obtain ⟨X4, c4, hz, hc4⟩ := HS.way (A := [thW w.heap.size 5 1 (.slice X3 n c3) n (fun j => .int .u8 (wrF (reaF (ageF g) n (p.s k).ad) n (24 : Int).toNat (4 : Int).toNat (p.s k).ad j)), thW w.heap.size 5 1 (.slice X2 n c2) n (fun j => .int .u8 (reaF (ageF g) n (p.s k).ad j)), thW w.heap.size 5 1 (.slice X1 n c1) n (fun j => .int .u8 (ageF g j))]) S11.out hw rfl
    have S12 := hid hz
    have HC4 := hid hc4
    clear hz hc4 hw S11 z2
    go_simp
    go_wp2_with fail
    refine (wend_any (S12.out.ce 4 rfl) (k : Int) false).mono ?_
    rintro e w20 ⟨rfl, hb⟩
    have S20 := hid (S12.out.below hb)
    clear hb S12
    unfold ocV
    go_simp
    go_wp2_with (((with_reducible refine wl_id ?_); refine wl_ow rfl (ow_storeC (A := [thW w.heap.size 5 1 (.slice X4 n c4) n (fun j => .int .u8 (wrF (wrF (reaF (ageF g) n (p.s k).ad) n (24 : Int).toNat (4 : Int).toNat (p.s k).ad) n (36 : Int).toNat (2 : Int).toNat (p.s k).po j)), thW w.heap.size 5 1 (.slice X3 n c3) n (fun j => .int .u8 (wrF (reaF (ageF g) n (p.s k).ad) n (24 : Int).toNat (4 : Int).toNat (p.s k).ad j)), thW w.heap.size 5 1 (.slice X2 n c2) n (fun j => .int .u8 (reaF (ageF g) n (p.s k).ad j)), thW w.heap.size 5 1 (.slice X1 n c1) n (fun j => .int .u8 (ageF g j)), thC Q [.slice X4 n c4, .int .i64 0], thC Z [.int .i64 (p.s k).st, .int .i64 (p.s k).ad, .int .i64 (p.s k).po, .int .i64 (p.s k).we, .int .i64 (p.s k).si]]) [.int .i64 0, .int .i64 (k : Int), .bool false, .slice X4 n c4] rfl rfl (rfl) S20.out rfl iOc rfl ?_); intro w_ hZ; have S21 := hid hZ; clear hZ; (first | refine end_then ?_ | refine then_norm ?_); apply_assumption; refine wp_ret ?_; (repeat refine ret_then ?_); (show bodyPost _ _ _ _ _ _); exact bodyPost_ret (v := .agg ([.int .i64 0, .int .i64 (k : Int), .bool false, .slice X4 n c4] : List Value).toArray) (results_C Tryz.results49 _ rfl (S21.out.ce 6 rfl) Tryz.underlying47 rfl iOc) rfl (by rw [HR.out]; exact ⟨X4, c4, rfl, S21.out.nth 0 rfl, HC4.out, HF.out.below S21.out.bl, Ch.of_below S21.out.bl⟩)))
  ·have HR : Hid (fauT p nr g n x = dropT 8 nr) := hid (by rw [HT.out, if_pos rfl])
   clear HT HBD
   go_wp2_with fail
   refine (drop_any 8 _).mono ?_
   rintro e w20 ⟨rfl, hb⟩
   have S20 := hid (S3.out.below hb)
   clear hb S3
   unfold ocV
   go_simp
   go_wp2_with (((with_reducible refine wl_id ?_); refine wl_ow rfl (ow_storeC (A := []) [.int .i64 8, .int .i64 (-1), .bool false, .slice none 0 0] rfl rfl (rfl) S20.out rfl iOc rfl ?_); intro w_ hZ; have S21 := hid hZ; clear hZ; (first | refine end_then ?_ | refine then_norm ?_); apply_assumption; refine wp_ret ?_; (repeat refine ret_then ?_); (show bodyPost _ _ _ _ _ _); exact bodyPost_ret (v := .agg ([.int .i64 8, .int .i64 (-1), .bool false, .slice none 0 0] : List Value).toArray) (results_C Tryz.results49 _ rfl (S21.out.ce 0 rfl) Tryz.underlying47 rfl iOc) rfl (by rw [HR.out]; exact ⟨none, 0, rfl, OB.nil, Nat.le_refl _, HF.out.below S21.out.bl, Ch.of_below S21.out.bl⟩)))
end Go.Proofs.YteapnfdpkjbfhaaGreat
