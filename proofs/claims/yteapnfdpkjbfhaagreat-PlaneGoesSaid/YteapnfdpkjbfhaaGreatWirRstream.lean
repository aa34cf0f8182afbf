/- The reference's Parse of a stream. -/
import Derived.Test.YteapnfdpkjbfhaaGreatGa
import Derived.Test.YteapnfdpkjbfhaaGreatWirRgram
import Derived.BigQuiet
import Derived.Deep.RegionHeld3
import Derived.Deep.Cut
namespace Go.Proofs.YteapnfdpkjbfhaaGreat
set_option linter.unusedVariables false
set_option linter.unusedSimpArgs false
open Go.RowKit Go.ChangeShapes Go.WideShapes Go.ChangeAt
set_option maxRecDepth 100000 in
set_option maxHeartbeats 8000000 in
theorem rparse_stream (A : Option Addr) (n c : Nat) (g : Nat → Int) (w : World) (h : By w A n g) (hg : IsB g) (hc : n ≤ c) (hb : n ≤ 1000000) (hne : headE g n = 0) (n24 : 24 ≤ n) (b3 : (g 0 == 3) = false) (b2 : (g 0 == 2) = false) (K1 : Hid (g 0 = 1)) :
 Calls Tryz.prog 16 #[.slice A n c] w (Parsed w g n) := by
 have hz : ∀ w : World, (zeroValue 39).run Tryz.prog w = .ok (.agg #[.int .i64 0, .int .i64 0, .int .i64 0, .int .i64 0, .int .i64 0, .int .i64 0, .int .i64 0, .int .i64 0, .int .i64 0, .bool false, .int .i64 0, .slice none 0 0, .slice none 0 0]) w := fun w => by kernel_rfl
 obtain ⟨h16, hk, hp, h15, h13, hx⟩ := head_04 (.inl hne)
 have i1 : ¬ (n : Int) < 16 := by omega
 have gb := hg 0
 obtain ⟨gb0, gb1⟩ := gb
 have HN := hid (fun (w' : World) (h' : By w' A n g) => re_i64 (rnum_any A n c g w' h' hg 2 2 (by omega) (by omega) hb) hp)
 have hs : (norm (tot g 16) == 65535) = true := by rw [hne] at hx; split at hx; (cases hx); rename_i h; simpa using h
 have HRT := hid (fun (w' : World) (h' : By w' A n g) c' => re_bool (rright_any A 16 c' g w' (h'.less (k := 16) (by omega)) hg (by omega)) hs)
 clear hx hs
 have hA := hid (h.below ((Below.refl w.heap.size w).alloc (Nat.le_refl _) (.cells #[.int .i64 0, .int .i64 0, .int .i64 0, .int .i64 0, .int .i64 0, .int .i64 0, .int .i64 0, .int .i64 0, .int .i64 0, .bool false, .int .i64 0, .slice none 0 0, .slice none 0 0] 39)) (Nat.le_refl _))
 have H00 := hid h
 obtain ⟨b, off, rfl, hblt, hcell⟩ := hA.out (by omega)
 have c0 := hcell 0 (by omega)
 have c13 := hcell 13 (by omega)
 rw [Nat.add_zero] at c0
 have i2 : (0 : Int) < n := by omega
 have i3 : (13 : Int) < n := by omega
 have i4 : (16 : Int) ≤ c := by omega
 have i5 : ¬ (1500 : Int) < n := by omega
 have hk3 := kind_3 hk
 have k1 : ¬ g 0 < 1 := by omega
 have k2 : ¬ 3 < g 0 := by omega
 have e13 : (g 13 != 0) = false := by simpa using h13
 have HK3 := hid hk3
 have HG := hid hg
 clear hcell h hp hk hk3 HK3 h13 hg
 have hB_ : parseE g n = bodyE g n := by unfold parseE; rw [if_pos hne]
 clear hne
 have k3 : ¬ g 0 = 3 := by simpa using b3
 have b24 : decide ((n : Int) < 24) = false := by simp; omega
 have kk2 : ¬ g 0 = 2 := by simpa using b2
 go_enter Tryz.func16, Tryz.ntmps16
 go_wp2_with fail
 refine (HN.out _ hA.out).mono ?_
 rintro x w' ⟨rfl, rfl⟩
 go_wp2_with fail
 refine (HRT.out _ hA.out _).mono ?_
 rintro x w' ⟨rfl, rfl⟩
 go_upto_region 11 with (fail)
 have CR2 := hid (Ce.made (w := w) (l := [.int .i64 0, .int .i64 0, .int .i64 0, .int .i64 0, .int .i64 0, .int .i64 0, .int .i64 0, .int .i64 0, .int .i64 0, .bool false, .int .i64 0, .slice none 0 0, .slice none 0 0]) (T := 39) rfl)
 have B2 := hid ((Below.refl w.heap.size w).alloc (Nat.le_refl _) (.cells #[.int .i64 0, .int .i64 0, .int .i64 0, .int .i64 0, .int .i64 0, .int .i64 0, .int .i64 0, .int .i64 0, .int .i64 0, .bool false, .int .i64 0, .slice none 0 0, .slice none 0 0] 39))
 have h2 := hA
 have lt2 := CR2.out.1
 simp only [List.toArray] at CR2
 clear c0 c13 HN HRT hA
 generalize w.alloc (.cells #[.int .i64 0, .int .i64 0, .int .i64 0, .int .i64 0, .int .i64 0, .int .i64 0, .int .i64 0, .int .i64 0, .int .i64 0, .bool false, .int .i64 0, .slice none 0 0, .slice none 0 0] 39) = w1 at *
 have hbw : b < w.heap.size := Sl.lt H00.out (by omega)
 have NUM := hid (fun (w' : World) (hw : By w' (some ⟨b, off, none⟩) n g) (a : Nat) (ha : a + 4 ≤ n) => rnum_any _ n c g w' hw HG.out a 4 (by omega) ha hb)
 have gb1 := HG.out 1
 have gb12 := HG.out 12
 obtain ⟨gb1a, gb1b⟩ := gb1
 obtain ⟨gb12a, gb12b⟩ := gb12
 have j1 : (12 : Int) < n := by omega
 have j2 : (1 : Int) < n := by omega
 have j3 : 0 < n := by omega
 have j4 : 1 < n := by omega
 have j5 : 12 < n := by omega
 have v0 : IntKind.i64.wrap (g 0) = g 0 := IntWalk.i64_in _ (by omega)
 have v1 : IntKind.i64.wrap (g 1) = g 1 := IntWalk.i64_in _ (by omega)
 have v2 : IntKind.i64.wrap (g 12) = g 12 := IntWalk.i64_in _ (by omega)
 go_cut [4] from 63 (fun p wx => ∃ L : Nat, p = .pointer (some ⟨L, 0, none⟩) ∧ w.heap.size < L ∧ Ce wx L [.int .i64 (g 0), .int .i64 (g 1), .int .i64 (g 12), .int .i64 (num g 4 4), .int .i64 (num g 8 4), .int .i64 0, .int .i64 0, .int .i64 0, .int .i64 0, .bool false, .int .i64 0, .slice none 0 0, .slice none 0 0] ∧ By wx (some ⟨b, off, none⟩) n g ∧ Ce wx w.heap.size [.int .i64 0, .int .i64 0, .int .i64 0, .int .i64 0, .int .i64 0, .int .i64 0, .int .i64 0, .int .i64 0, .int .i64 0, .bool false, .int .i64 0, .slice none 0 0, .slice none 0 0] ∧ Below w.heap.size w wx)
 case first =>
  refine wp_region_held_drew (S := fun w' => By w' (some ⟨b, off, none⟩) n g ∧ Ce w' w.heap.size [.int .i64 0, .int .i64 0, .int .i64 0, .int .i64 0, .int .i64 0, .int .i64 0, .int .i64 0, .int .i64 0, .int .i64 0, .bool false, .int .i64 0, .slice none 0 0, .slice none 0 0] ∧ Below w.heap.size w w') (by kernel_rfl) ?_ (fun hHeld => ?_)
  ·exact ⟨h2.out.drew, CR2.out, below_drewN B2.out 1⟩
  refine tkq 0 (by assumption) ?_
  refine tkq 1 (by assumption) ?_
  refine tkq 2 (by assumption) ?_ (hy := by intro w hSw; (try dsimp only at hSw); obtain ⟨hA, hC, hB⟩ := hSw; have z0 := hA.at_ (j := 0) (by omega); have z1 := hA.at_ (j := 1) (by omega); have z12 := hA.at_ (j := 12) (by omega); rw [Nat.add_zero] at z0; go_simp; (try with_reducible rfl))
  refine tkq 3 (by assumption) ?_
  refine tkq 4 (by assumption) ?_
  refine tkq 5 (by assumption) ?_
  refine tkq 6 (by assumption) ?_ (hy := by intro w hSw; (try dsimp only at hSw); obtain ⟨hA, hC, hB⟩ := hSw; have z0 := hA.at_ (j := 0) (by omega); have z1 := hA.at_ (j := 1) (by omega); have z12 := hA.at_ (j := 12) (by omega); rw [Nat.add_zero] at z0; go_simp; (try with_reducible rfl))
  refine tkq 7 (by assumption) ?_
  refine tkq 8 (by assumption) ?_
  refine tkq 9 (by assumption) ?_
  refine tkq 10 (by assumption) ?_ (hy := by intro w hSw; (try dsimp only at hSw); obtain ⟨hA, hC, hB⟩ := hSw; have z0 := hA.at_ (j := 0) (by omega); have z1 := hA.at_ (j := 1) (by omega); have z12 := hA.at_ (j := 12) (by omega); rw [Nat.add_zero] at z0; go_simp; (try with_reducible rfl))
  refine tkq 11 (by assumption) ?_
  refine tkq 12 (by assumption) ?_
  refine tkq 14 (by assumption) ?_
  refine twoUp 13 17 rfl rfl (by kernel_rfl) rfl rfl (fun K hK => ?_) (fun K hK => ?_)
  ·go_simp
   refine (NUM.out _ hHeld.1 4 (by omega)).mono ?_
   rintro e' w' ⟨rfl, rfl⟩
   try go_wp2_with fail
   refine hK.out _ _ hHeld (fun _ => ?_)
   clear hK
   try simp only [Act.put, List.setIfInBounds_toArray, List.set_cons_zero, List.set_cons_succ]
   refine twoUp 15 17 rfl rfl (by kernel_rfl) rfl rfl (fun K hK => ?_) (fun K hK => ?_)
   ·go_simp
    refine (NUM.out _ hHeld.1 8 (by omega)).mono ?_
    rintro e' w' ⟨rfl, rfl⟩
    try go_wp2_with fail
    refine hK.out _ _ hHeld (fun _ => ?_)
    clear hK
    try simp only [Act.put, List.setIfInBounds_toArray, List.set_cons_zero, List.set_cons_succ]
    refine tkq 16 (by assumption) ?_
    refine only 17 rfl (by kernel_rfl) rfl (fun K hK => ?_)
    go_simp
    refine hK.out _ _ ⟨hHeld.1.alloc _, hHeld.2.1.alloc _, hHeld.2.2.alloc hHeld.2.2.size _⟩ (fun hHeld2 => ?_)
    clear hK
    try simp only [Act.put, List.setIfInBounds_toArray, List.set_cons_zero, List.set_cons_succ]
    refine only 18 rfl (by kernel_rfl) rfl (fun K hK => ?_)
    go_simp
    refine hK.out _ _ ⟨hHeld.1.alloc _, hHeld.2.1.alloc _, hHeld.2.2.alloc hHeld.2.2.size _⟩ (fun _ => ?_)
    clear hK
    try simp only [Act.put, List.setIfInBounds_toArray, List.set_cons_zero, List.set_cons_succ]
    refine wpAnyH_done (by kernel_rfl) ?_ _
    go_wp2_with fail
    go_meet
    exact ⟨_, rfl, lt2, (Ce.made (w := w1) (l := [.int .i64 (g 0), .int .i64 (g 1), .int .i64 (g 12), .int .i64 (num g 4 4), .int .i64 (num g 8 4), .int .i64 0, .int .i64 0, .int .i64 0, .int .i64 0, .bool false, .int .i64 0, .slice none 0 0, .slice none 0 0]) rfl).drew_, (h2.out.alloc _).drew, (CR2.out.alloc _).drew_, (B2.out.alloc B2.out.size _).drew⟩
   ·go_simp
    refine hK.out _ _ ⟨hHeld.1.alloc _, hHeld.2.1.alloc _, hHeld.2.2.alloc hHeld.2.2.size _⟩ (fun hHeld2 => ?_)
    clear hK
    try simp only [Act.put, List.setIfInBounds_toArray, List.set_cons_zero, List.set_cons_succ]
    refine only 15 rfl (by kernel_rfl) rfl (fun K hK => ?_)
    go_simp
    refine (NUM.out _ hHeld2.1 8 (by omega)).mono ?_
    rintro e' w' ⟨rfl, rfl⟩
    try go_wp2_with fail
    refine hK.out _ _ hHeld2 (fun _ => ?_)
    clear hK
    try simp only [Act.put, List.setIfInBounds_toArray, List.set_cons_zero, List.set_cons_succ]
    refine tkq 16 (by assumption) ?_
    refine only 18 rfl (by kernel_rfl) rfl (fun K hK => ?_)
    go_simp
    refine hK.out _ _ ⟨hHeld.1.alloc _, hHeld.2.1.alloc _, hHeld.2.2.alloc hHeld.2.2.size _⟩ (fun _ => ?_)
    clear hK
    try simp only [Act.put, List.setIfInBounds_toArray, List.set_cons_zero, List.set_cons_succ]
    refine wpAnyH_done (by kernel_rfl) ?_ _
    go_wp2_with fail
    go_meet
    exact ⟨_, rfl, lt2, (Ce.made (w := w1) (l := [.int .i64 (g 0), .int .i64 (g 1), .int .i64 (g 12), .int .i64 (num g 4 4), .int .i64 (num g 8 4), .int .i64 0, .int .i64 0, .int .i64 0, .int .i64 0, .bool false, .int .i64 0, .slice none 0 0, .slice none 0 0]) rfl).drew_, (h2.out.alloc _).drew, (CR2.out.alloc _).drew_, (B2.out.alloc B2.out.size _).drew⟩
  ·go_simp
   refine hK.out _ _ ⟨hHeld.1.alloc _, hHeld.2.1.alloc _, hHeld.2.2.alloc hHeld.2.2.size _⟩ (fun hHeld2 => ?_)
   clear hK
   try simp only [Act.put, List.setIfInBounds_toArray, List.set_cons_zero, List.set_cons_succ]
   refine only 13 rfl (by kernel_rfl) rfl (fun K hK => ?_)
   go_simp
   refine (NUM.out _ hHeld2.1 4 (by omega)).mono ?_
   rintro e' w' ⟨rfl, rfl⟩
   try go_wp2_with fail
   refine hK.out _ _ hHeld2 (fun _ => ?_)
   clear hK
   try simp only [Act.put, List.setIfInBounds_toArray, List.set_cons_zero, List.set_cons_succ]
   refine only 15 rfl (by kernel_rfl) rfl (fun K hK => ?_)
   go_simp
   refine (NUM.out _ hHeld2.1 8 (by omega)).mono ?_
   rintro e' w' ⟨rfl, rfl⟩
   try go_wp2_with fail
   refine hK.out _ _ hHeld2 (fun _ => ?_)
   clear hK
   try simp only [Act.put, List.setIfInBounds_toArray, List.set_cons_zero, List.set_cons_succ]
   refine tkq 16 (by assumption) ?_
   refine only 18 rfl (by kernel_rfl) rfl (fun K hK => ?_)
   go_simp
   refine hK.out _ _ ⟨hHeld.1.alloc _, hHeld.2.1.alloc _, hHeld.2.2.alloc hHeld.2.2.size _⟩ (fun _ => ?_)
   clear hK
   try simp only [Act.put, List.setIfInBounds_toArray, List.set_cons_zero, List.set_cons_succ]
   refine wpAnyH_done (by kernel_rfl) ?_ _
   go_wp2_with fail
   go_meet
   exact ⟨_, rfl, lt2, (Ce.made (w := w1) (l := [.int .i64 (g 0), .int .i64 (g 1), .int .i64 (g 12), .int .i64 (num g 4 4), .int .i64 (num g 8 4), .int .i64 0, .int .i64 0, .int .i64 0, .int .i64 0, .bool false, .int .i64 0, .slice none 0 0, .slice none 0 0]) rfl).drew_, (h2.out.alloc _).drew, (CR2.out.alloc _).drew_, (B2.out.alloc B2.out.size _).drew⟩
 case rest =>
  obtain ⟨L, rfl, hL, hCL, hA, hCR, hB⟩ := hcut
  replace hCL := hid hCL
  replace hCR := hid hCR
  replace hA := hid hA
  replace hB := hid hB
  have HLR : L ≠ w.heap.size := Nat.ne_of_gt hL
  have HRL : w.heap.size ≠ L := Nat.ne_of_lt hL
  have hBlt : b ≠ L := by omega
  have hBR : b ≠ w.heap.size := by omega
  clear CR2 B2 h2 lt2 H00
  have gb21 := HG.out 21
  have gb20 := HG.out 20
  obtain ⟨gb20a, gb20b⟩ := gb20
  obtain ⟨q, hq⟩ : ∃ q : Nat, g 21 = (q : Int) := ⟨(g 21).toNat, by omega⟩
  rw [hq] at gb21
  obtain ⟨gb21a, gb21b⟩ := gb21
  have HQ : Hid ((g 21).toNat = q) := hid (by omega)
  have HQ2 := hid hq
  clear hq
  have i21 : (21 : Int) < n := by omega
  have i20 : (20 : Int) < n := by omega
  have v20 : IntKind.i64.wrap (g 20) = g 20 := IntWalk.i64_in _ (by omega)
  have v21 : IntKind.i64.wrap (q : Int) = (q : Int) := IntWalk.i64_in _ (by omega)
  have v24 : IntKind.i64.wrap (24 + (q : Int)) = 24 + (q : Int) := IntWalk.i64_in _ (by omega)
  have vn : IntKind.i64.wrap ((n : Int) - 24) = (n : Int) - 24 := IntWalk.i64_in _ (by omega)
  have NUM2 := hid (fun (w' : World) (hw : By w' (some ⟨b, off, none⟩) n g) (a : Nat) (ha : a + 2 ≤ n) => rnum_any _ n c g w' hw HG.out a 2 (by omega) ha hb)
  have y0 := hCL.out.2.1 0 _ rfl
  have y1 := hCL.out.2.1 1 _ rfl
  have y2 := hCL.out.2.1 2 _ rfl
  have y3 := hCL.out.2.1 3 _ rfl
  have y4 := hCL.out.2.1 4 _ rfl
  have y5 := hCL.out.2.1 5 _ rfl
  have y6 := hCL.out.2.1 6 _ rfl
  have y7 := hCL.out.2.1 7 _ rfl
  have y8 := hCL.out.2.1 8 _ rfl
  have y9 := hCL.out.2.1 9 _ rfl
  have y10 := hCL.out.2.1 10 _ rfl
  have y11 := hCL.out.2.1 11 _ rfl
  have y12 := hCL.out.2.1 12 _ rfl
  have yf := hCL.out.2.2
  have yl := hCL.out.1
  go_wp2_with fail
  refine (NUM2.out _ hA.out 16 (by omega)).mono ?_
  rintro x w' ⟨rfl, rfl⟩
  go_wp2_with fail
  refine (NUM2.out _ hA.out 18 (by omega)).mono ?_
  rintro x w' ⟨rfl, rfl⟩
  have C2 := hid (((hCL.out).set 5 (.int .i64 (num g 16 2)) (by simp)).set 6 (.int .i64 (num g 18 2)) (by simp))
  have R2 := hid (hCR.out.grown (gs 6 (.int .i64 (num g 18 2)) (gs 5 (.int .i64 (num g 16 2)) (World.grownBy.refl wc (some L)))) (fun e => HLR (by injection e)))
  have A2 := hid (grow_by hA.out (gs 6 (.int .i64 (num g 18 2)) (gs 5 (.int .i64 (num g 16 2)) (World.grownBy.refl wc (some L)))) hBlt)
  have D2 := hid (((hB.out).setCell (p := ⟨L, 5, none⟩) (Nat.le_of_lt hL) (.int .i64 (num g 16 2))).setCell (p := ⟨L, 6, none⟩) (Nat.le_of_lt hL) (.int .i64 (num g 18 2)))
  have c21b := A2.out.at_ (j := 21) (by omega)
  rw [HQ2.out] at c21b
  have c20b := A2.out.at_ (j := 20) (by omega)
  have yl2 := C2.out.1
  cases b20 : decide ((15 : Int) < g 20)
  ·cases b40 : decide ((40 : Int) < (q : Int))
   ·cases bn : decide ((n : Int) - 24 < (q : Int))
    ·have hPE : parseE g n = 0 := by rw [hB_]; unfold bodyE; rw [if_neg k3, if_neg (by omega), if_neg]; rintro ⟨_, e⟩; rw [HQ2.out] at e; simp at b20 b40 bn; omega
     have HP1 : Hid (parseR g n = { kind := g 0, life := g 1, piece := g 12, src := num g 4 4, dst := num g 8 4, fp := num g 16 2, tp := num g 18 2, flags := g 20, no := (g 21).toNat, go := fun j => g (24 + j), nd := n - 24 - (g 21).toNat, gd := fun j => g (24 + (g 21).toNat + j) }) := hid (by unfold parseR; rw [hPE, if_pos rfl]; unfold parseP; rw [if_neg k3, if_neg kk2])
     rw [HQ.out] at HP1
     have HE := hid hPE
     have hqn : 24 + q ≤ n := by simp at bn; omega
     clear hPE hB_ b24 k3
     obtain ⟨A8, r1, r2⟩ := cut_mid_b (some ⟨b, off, none⟩) n c 24 (24 + q) (by omega) hqn hc 24 (24 + (q : Int)) rfl (by omega)
     rw [show 24 + q - 24 = q from by omega] at r1 r2
     obtain ⟨A10', s1, s2⟩ := cut_from_b (some ⟨b, off, none⟩) n c (24 + q) hqn hc (24 + (q : Int)) (by omega)
     rw [show n - (24 + q) = n - 24 - q from by omega] at s1 s2
     replace r2 := hid r2
     replace s2 := hid s2
     go_upto_region 24 with (fail)
     clear c21b c20b
     clear y0 y1 y2 y3 y4 y5 y6 y7 y8 y9 y10 y11 y12 yf yl hCL hCR hA hB
     generalize ((wc.setCell ⟨L, 5, none⟩ (.int .i64 (num g 16 2))).setCell ⟨L, 6, none⟩ (.int .i64 (num g 18 2))) = wq at *
     have C2q := C2.out.drew_
     refine wp_region_held_drew (S := fun w' => By w' (some ⟨b, off, none⟩) n g ∧ Ce w' w.heap.size [.int .i64 0, .int .i64 0, .int .i64 0, .int .i64 0, .int .i64 0, .int .i64 0, .int .i64 0, .int .i64 0, .int .i64 0, .bool false, .int .i64 0, .slice none 0 0, .slice none 0 0] ∧ Below w.heap.size w w') (by kernel_rfl) ?_ (fun hHeld => ?_)
     ·exact ⟨A2.out.drew, R2.out, below_drewN D2.out 1⟩
     clear A2 R2 D2 C2
     refine tkq 0 (by assumption) ?_
     refine tkq 1 (by assumption) ?_
     refine tkq 2 (by assumption) ?_ (hy := by intro w hSw; (try dsimp only at hSw); obtain ⟨hA, hC, hB⟩ := hSw; have z20 := hA.at_ (j := 20) (by omega); go_simp; (try with_reducible rfl))
     refine tkq 3 (by assumption) ?_
     refine tkq 5 (by assumption) ?_
     refine tkq 6 (by assumption) ?_
     refine tkq 7 (by assumption) ?_
     refine tkq 8 (by assumption) ?_
     refine tkq 11 (by assumption) ?_
     refine tkq 12 (by assumption) ?_
     refine tkq 13 (by assumption) ?_
     refine tkq 14 (by assumption) ?_
     refine tkq 16 (by assumption) ?_
     refine twoUp 4 10 rfl rfl (by kernel_rfl) rfl rfl (fun K hK => ?_) (fun K hK => ?_)
     ·go_simp
      have h4 : By ((wq.alloc (.cells #[] 5)).drew) (some ⟨b, off, none⟩) n g ∧ Ce ((wq.alloc (.cells #[] 5)).drew) w.heap.size [.int .i64 0, .int .i64 0, .int .i64 0, .int .i64 0, .int .i64 0, .int .i64 0, .int .i64 0, .int .i64 0, .int .i64 0, .bool false, .int .i64 0, .slice none 0 0, .slice none 0 0] ∧ Below w.heap.size w ((wq.alloc (.cells #[] 5)).drew) := ⟨hHeld.1.alloc _, hHeld.2.1.alloc _, hHeld.2.2.alloc hHeld.2.2.size _⟩
      have C4_ : Ce ((wq.alloc (.cells #[] 5)).drew) L [.int .i64 (g 0), .int .i64 (g 1), .int .i64 (g 12), .int .i64 (num g 4 4), .int .i64 (num g 8 4), .int .i64 (num g 16 2), .int .i64 (num g 18 2), .int .i64 0, .int .i64 0, .bool false, .int .i64 0, .slice none 0 0, .slice none 0 0] := C2q.alloc (.cells #[] 5)
      have e4 : ∀ f, Ow ((wq.alloc (.cells #[] 5)).drew) wq.heap.size 5 1 (.slice (some ⟨wq.heap.size, 0, none⟩) 0 0) 0 f := fun f => Ow.new' (w := wq.drew) rfl
      have l4 : L < wq.heap.size := C2q.1
      have s4 : wq.heap.size < ((wq.alloc (.cells #[] 5)).drew).heap.size := by simp
      refine hK.out _ _ h4 (fun _ => ?_)
      clear hK
      try simp only [Act.put, List.setIfInBounds_toArray, List.set_cons_zero, List.set_cons_succ]
      generalize ((wq.alloc (.cells #[] 5)).drew) = w4 at *
      generalize wq.heap.size = E4 at *
      refine twoUp 9 10 rfl rfl (by kernel_rfl) rfl rfl (fun K hK => ?_) (fun K hK => ?_)
      ·refine wpo_b1 rfl (.tmp 145) (.tmp 149) rfl E4 rfl e4 (by omega) _ (q) _ (fun j => g (24 + j)) rfl (r2.out _ g h4.1) (by omega) ?_
       intro A9 c9 w9 o9 g9 q9
       have h9 : By w9 (some ⟨b, off, none⟩) n g ∧ Ce w9 w.heap.size [.int .i64 0, .int .i64 0, .int .i64 0, .int .i64 0, .int .i64 0, .int .i64 0, .int .i64 0, .int .i64 0, .int .i64 0, .bool false, .int .i64 0, .slice none 0 0, .slice none 0 0] ∧ Below w.heap.size w w9 := ⟨grow_by h4.1 g9 (by omega), h4.2.1.grown g9 (fun e => by injection e with e; omega), h4.2.2.trans (below_of_grown g9 (by omega) h4.2.2.size)⟩
       have C9_ := C4_.grown g9 (fun e => by injection e with e; omega)
       have s9 := g9.size
       refine hK.out _ _ h9 (fun _ => ?_)
       clear hK
       try simp only [Act.put, List.setIfInBounds_toArray, List.set_cons_zero, List.set_cons_succ]
       refine only 10 rfl (by kernel_rfl) rfl (fun K hK => ?_)
       have qb := ow_lt o9
       go_simp
       have h10 : By ((w9.alloc (.cells #[] 5))) (some ⟨b, off, none⟩) n g ∧ Ce ((w9.alloc (.cells #[] 5))) w.heap.size [.int .i64 0, .int .i64 0, .int .i64 0, .int .i64 0, .int .i64 0, .int .i64 0, .int .i64 0, .int .i64 0, .int .i64 0, .bool false, .int .i64 0, .slice none 0 0, .slice none 0 0] ∧ Below w.heap.size w ((w9.alloc (.cells #[] 5))) := ⟨h9.1.alloc _, h9.2.1.alloc _, h9.2.2.alloc h9.2.2.size _⟩
       have C10_ : Ce ((w9.alloc (.cells #[] 5))) L [.int .i64 (g 0), .int .i64 (g 1), .int .i64 (g 12), .int .i64 (num g 4 4), .int .i64 (num g 8 4), .int .i64 (num g 16 2), .int .i64 (num g 18 2), .int .i64 0, .int .i64 0, .bool false, .int .i64 0, .slice none 0 0, .slice none 0 0] := C9_.alloc (.cells #[] 5)
       have o9 := Ow.alloc o9 (.cells #[] 5)
       have e10 : ∀ f, Ow ((w9.alloc (.cells #[] 5))) w9.heap.size 5 1 (.slice (some ⟨w9.heap.size, 0, none⟩) 0 0) 0 f := fun f => Ow.new' (w := w9) rfl
       have l10 : L < w9.heap.size := C9_.1
       have s10 : w9.heap.size < ((w9.alloc (.cells #[] 5))).heap.size := by simp
       refine hK.out _ _ h10 (fun _ => ?_)
       clear hK
       try simp only [Act.put, List.setIfInBounds_toArray, List.set_cons_zero, List.set_cons_succ]
       generalize ((w9.alloc (.cells #[] 5))) = w10 at *
       generalize w9.heap.size = E10 at *
       refine only 15 rfl (by kernel_rfl) rfl (fun K hK => ?_)
       refine wpo_b1 rfl (.tmp 151) (.tmp 155) rfl E10 rfl e10 (by omega) _ (n - 24 - q) _ (fun j => g (24 + q + j)) rfl (s2.out _ g h10.1) (by omega) ?_
       intro A15 c15 w15 o15 g15 q15
       have h15 : By w15 (some ⟨b, off, none⟩) n g ∧ Ce w15 w.heap.size [.int .i64 0, .int .i64 0, .int .i64 0, .int .i64 0, .int .i64 0, .int .i64 0, .int .i64 0, .int .i64 0, .int .i64 0, .bool false, .int .i64 0, .slice none 0 0, .slice none 0 0] ∧ Below w.heap.size w w15 := ⟨grow_by h10.1 g15 (by omega), h10.2.1.grown g15 (fun e => by injection e with e; omega), h10.2.2.trans (below_of_grown g15 (by omega) h10.2.2.size)⟩
       have C15_ := C10_.grown g15 (fun e => by injection e with e; omega)
       have s15 := g15.size
       have o9 := ow_grown o9 g15 (qb E10 (by omega))
       refine hK.out _ _ h15 (fun _ => ?_)
       clear hK
       try simp only [Act.put, List.setIfInBounds_toArray, List.set_cons_zero, List.set_cons_succ]
       have CC := hid C15_
       have y0 := CC.out.2.1 0 _ rfl
       have y1 := CC.out.2.1 1 _ rfl
       have y2 := CC.out.2.1 2 _ rfl
       have y3 := CC.out.2.1 3 _ rfl
       have y4 := CC.out.2.1 4 _ rfl
       have y5 := CC.out.2.1 5 _ rfl
       have y6 := CC.out.2.1 6 _ rfl
       have y7 := CC.out.2.1 7 _ rfl
       have y8 := CC.out.2.1 8 _ rfl
       have y9 := CC.out.2.1 9 _ rfl
       have y10 := CC.out.2.1 10 _ rfl
       have y11 := CC.out.2.1 11 _ rfl
       have y12 := CC.out.2.1 12 _ rfl
       have yf := CC.out.2.2
       have yl := CC.out.1
       have HH := hid h15
       refine only 17 rfl (by kernel_rfl) rfl (fun K hK => ?_)
       go_simp
       refine hK.out _ _ ⟨grow_by HH.out.1 (gs 7 (.int .i64 (g 20)) (World.grownBy.refl w15 (some L))) hBlt, HH.out.2.1.grown (gs 7 (.int .i64 (g 20)) (World.grownBy.refl w15 (some L))) (fun e => HLR (by injection e)), (HH.out.2.2).setCell (p := ⟨L, 7, none⟩) (Nat.le_of_lt hL) (.int .i64 (g 20))⟩ (fun hN0 => ?_)
       clear hK
       try simp only [Act.put, List.setIfInBounds_toArray, List.set_cons_zero, List.set_cons_succ]
       refine tkq 18 hN0 ?_
       clear hN0
       refine only 19 rfl (by kernel_rfl) rfl (fun K hK => ?_)
       go_simp
       refine hK.out _ _ ⟨grow_by HH.out.1 (gs 11 (.slice A9 q c9) (gs 7 (.int .i64 (g 20)) (World.grownBy.refl w15 (some L)))) hBlt, HH.out.2.1.grown (gs 11 (.slice A9 q c9) (gs 7 (.int .i64 (g 20)) (World.grownBy.refl w15 (some L)))) (fun e => HLR (by injection e)), ((HH.out.2.2).setCell (p := ⟨L, 7, none⟩) (Nat.le_of_lt hL) (.int .i64 (g 20))).setCell (p := ⟨L, 11, none⟩) (Nat.le_of_lt hL) (.slice A9 q c9)⟩ (fun hN1 => ?_)
       clear hK
       try simp only [Act.put, List.setIfInBounds_toArray, List.set_cons_zero, List.set_cons_succ]
       refine tkq 20 hN1 ?_
       clear hN1
       refine only 21 rfl (by kernel_rfl) rfl (fun K hK => ?_)
       go_simp
       refine hK.out _ _ ⟨grow_by HH.out.1 (gs 12 (.slice A15 (n - 24 - q) c15) (gs 11 (.slice A9 q c9) (gs 7 (.int .i64 (g 20)) (World.grownBy.refl w15 (some L))))) hBlt, HH.out.2.1.grown (gs 12 (.slice A15 (n - 24 - q) c15) (gs 11 (.slice A9 q c9) (gs 7 (.int .i64 (g 20)) (World.grownBy.refl w15 (some L))))) (fun e => HLR (by injection e)), (((HH.out.2.2).setCell (p := ⟨L, 7, none⟩) (Nat.le_of_lt hL) (.int .i64 (g 20))).setCell (p := ⟨L, 11, none⟩) (Nat.le_of_lt hL) (.slice A9 q c9)).setCell (p := ⟨L, 12, none⟩) (Nat.le_of_lt hL) (.slice A15 (n - 24 - q) c15)⟩ (fun hN2 => ?_)
       clear hK
       try simp only [Act.put, List.setIfInBounds_toArray, List.set_cons_zero, List.set_cons_succ]
       refine wpAnyH_done (by kernel_rfl) ?_ _
       have C77 := hid ((((CC.out).set 7 (.int .i64 (g 20)) (by simp)).set 11 (.slice A9 q c9) (by simp)).set 12 (.slice A15 (n - 24 - q) c15) (by simp))
       have R77 := hid (HH.out.2.1.grown (gs 12 (.slice A15 (n - 24 - q) c15) (gs 11 (.slice A9 q c9) (gs 7 (.int .i64 (g 20)) (World.grownBy.refl w15 (some L))))) (fun e => HLR (by injection e)))
       have D77 := hid ((((HH.out.2.2).setCell (p := ⟨L, 7, none⟩) (Nat.le_of_lt hL) (.int .i64 (g 20))).setCell (p := ⟨L, 11, none⟩) (Nat.le_of_lt hL) (.slice A9 q c9)).setCell (p := ⟨L, 12, none⟩) (Nat.le_of_lt hL) (.slice A15 (n - 24 - q) c15))
       have OO0 := hid (OB.grown o9 (gs 12 (.slice A15 (n - 24 - q) c15) (gs 11 (.slice A9 q c9) (gs 7 (.int .i64 (g 20)) (World.grownBy.refl w15 (some L))))) (OB.ne o9 l4))
       have OO1 := hid (OB.grown o15 (gs 12 (.slice A15 (n - 24 - q) c15) (gs 11 (.slice A9 q c9) (gs 7 (.int .i64 (g 20)) (World.grownBy.refl w15 (some L))))) (OB.ne o15 l10))
       clear hN2
       clear y0 y1 y2 y3 y4 y5 y6 y7 y8 y9 y10 y11 y12 yf yl
       generalize (((w15.setCell ⟨L, 7, none⟩ (.int .i64 (g 20))).setCell ⟨L, 11, none⟩ (.slice A9 q c9)).setCell ⟨L, 12, none⟩ (.slice A15 (n - 24 - q) c15)) = w8 at *
       have y0 := C77.out.2.1 0 _ rfl
       have y1 := C77.out.2.1 1 _ rfl
       have y2 := C77.out.2.1 2 _ rfl
       have y3 := C77.out.2.1 3 _ rfl
       have y4 := C77.out.2.1 4 _ rfl
       have y5 := C77.out.2.1 5 _ rfl
       have y6 := C77.out.2.1 6 _ rfl
       have y7 := C77.out.2.1 7 _ rfl
       have y8 := C77.out.2.1 8 _ rfl
       have y9 := C77.out.2.1 9 _ rfl
       have y10 := C77.out.2.1 10 _ rfl
       have y11 := C77.out.2.1 11 _ rfl
       have y12 := C77.out.2.1 12 _ rfl
       have yf := C77.out.2.2
       have yl := C77.out.1
       have z0 := R77.out.2.1 0 _ rfl
       have z1 := R77.out.2.1 1 _ rfl
       have z2 := R77.out.2.1 2 _ rfl
       have z3 := R77.out.2.1 3 _ rfl
       have z4 := R77.out.2.1 4 _ rfl
       have z5 := R77.out.2.1 5 _ rfl
       have z6 := R77.out.2.1 6 _ rfl
       have z7 := R77.out.2.1 7 _ rfl
       have z8 := R77.out.2.1 8 _ rfl
       have z9 := R77.out.2.1 9 _ rfl
       have z10 := R77.out.2.1 10 _ rfl
       have z11 := R77.out.2.1 11 _ rfl
       have z12 := R77.out.2.1 12 _ rfl
       have zf := R77.out.2.2
       have zl := R77.out.1
       go_wp2_with fail
       have CE := (R77.out).s13 (.int .i64 (g 0)) (.int .i64 (g 1)) (.int .i64 (g 12)) (.int .i64 (num g 4 4)) (.int .i64 (num g 8 4)) (.int .i64 (num g 16 2)) (.int .i64 (num g 18 2)) (.int .i64 (g 20)) (.int .i64 0) (.bool false) (.int .i64 0) (.slice A9 q c9) (.slice A15 (n - 24 - q) c15)
       have BE := below_s13 (b := w.heap.size) (D77.out) (Nat.le_refl _) (.int .i64 (g 0)) (.int .i64 (g 1)) (.int .i64 (g 12)) (.int .i64 (num g 4 4)) (.int .i64 (num g 8 4)) (.int .i64 (num g 16 2)) (.int .i64 (num g 18 2)) (.int .i64 (g 20)) (.int .i64 0) (.bool false) (.int .i64 0) (.slice A9 q c9) (.slice A15 (n - 24 - q) c15)
       have OE0 := OB.grown (OO0.out) (grown_s13 _ w.heap.size (.int .i64 (g 0)) (.int .i64 (g 1)) (.int .i64 (g 12)) (.int .i64 (num g 4 4)) (.int .i64 (num g 8 4)) (.int .i64 (num g 16 2)) (.int .i64 (num g 18 2)) (.int .i64 (g 20)) (.int .i64 0) (.bool false) (.int .i64 0) (.slice A9 q c9) (.slice A15 (n - 24 - q) c15)) (OB.ne (OO0.out) (by omega))
       have OE1 := OB.grown (OO1.out) (grown_s13 _ w.heap.size (.int .i64 (g 0)) (.int .i64 (g 1)) (.int .i64 (g 12)) (.int .i64 (num g 4 4)) (.int .i64 (num g 8 4)) (.int .i64 (num g 16 2)) (.int .i64 (num g 18 2)) (.int .i64 (g 20)) (.int .i64 0) (.bool false) (.int .i64 0) (.slice A9 q c9) (.slice A15 (n - 24 - q) c15)) (OB.ne (OO1.out) (by omega))
       unfold S13 at CE BE OE0 OE1
       replace CE := hid CE
       replace BE := hid BE
       replace OE0 := hid OE0
       replace OE1 := hid OE1
       refine at_world (fun w' => Ce w' w.heap.size [.int .i64 (g 0), .int .i64 (g 1), .int .i64 (g 12), .int .i64 (num g 4 4), .int .i64 (num g 8 4), .int .i64 (num g 16 2), .int .i64 (num g 18 2), .int .i64 (g 20), .int .i64 0, .bool false, .int .i64 0, .slice A9 q c9, .slice A15 (n - 24 - q) c15] ∧ Below w.heap.size w w' ∧ OB w' E4 (.slice A9 q c9) q (fun j => g (24 + j)) ∧ OB w' E10 (.slice A15 (n - 24 - q) c15) (n - 24 - q) (fun j => g (24 + q + j))) ⟨CE.out, BE.out, OE0.out, OE1.out⟩ (fun wf hwf => ?_)
       obtain ⟨hc2, hbf, ho0, ho1⟩ := hwf
       have x0 := hc2.2.1 0 _ rfl
       have x1 := hc2.2.1 1 _ rfl
       have x2 := hc2.2.1 2 _ rfl
       have x3 := hc2.2.1 3 _ rfl
       have x4 := hc2.2.1 4 _ rfl
       have x5 := hc2.2.1 5 _ rfl
       have x6 := hc2.2.1 6 _ rfl
       have x7 := hc2.2.1 7 _ rfl
       have x8 := hc2.2.1 8 _ rfl
       have x9 := hc2.2.1 9 _ rfl
       have x10 := hc2.2.1 10 _ rfl
       have x11 := hc2.2.1 11 _ rfl
       have x12 := hc2.2.1 12 _ rfl
       refine bodyPost_ret (v := .tuple #[.agg #[.int .i64 (g 0), .int .i64 (g 1), .int .i64 (g 12), .int .i64 (num g 4 4), .int .i64 (num g 8 4), .int .i64 (num g 16 2), .int .i64 (num g 18 2), .int .i64 (g 20), .int .i64 0, .bool false, .int .i64 0, .slice A9 q c9, .slice A15 (n - 24 - q) c15], .int .i64 0]) (by simp [results, Tryz.results16, go_sem, x0, x1, x2, x3, x4, x5, x6, x7, x8, x9, x10, x11, x12]) rfl ?_
       exact ⟨(.slice A9 q c9), (.slice A15 (n - 24 - q) c15), by rw [HP1.out, HE.out]; rfl, by rw [HP1.out]; exact OB.base ho0 (by omega), by rw [HP1.out]; exact OB.base ho1 (by omega), hbf⟩
      ·go_simp
       have h10 : By ((w4.alloc (.cells #[] 5))) (some ⟨b, off, none⟩) n g ∧ Ce ((w4.alloc (.cells #[] 5))) w.heap.size [.int .i64 0, .int .i64 0, .int .i64 0, .int .i64 0, .int .i64 0, .int .i64 0, .int .i64 0, .int .i64 0, .int .i64 0, .bool false, .int .i64 0, .slice none 0 0, .slice none 0 0] ∧ Below w.heap.size w ((w4.alloc (.cells #[] 5))) := ⟨h4.1.alloc _, h4.2.1.alloc _, h4.2.2.alloc h4.2.2.size _⟩
       have C10_ : Ce ((w4.alloc (.cells #[] 5))) L [.int .i64 (g 0), .int .i64 (g 1), .int .i64 (g 12), .int .i64 (num g 4 4), .int .i64 (num g 8 4), .int .i64 (num g 16 2), .int .i64 (num g 18 2), .int .i64 0, .int .i64 0, .bool false, .int .i64 0, .slice none 0 0, .slice none 0 0] := C4_.alloc (.cells #[] 5)
       have e4 := fun f => Ow.alloc (e4 f) (.cells #[] 5)
       have e10 : ∀ f, Ow ((w4.alloc (.cells #[] 5))) w4.heap.size 5 1 (.slice (some ⟨w4.heap.size, 0, none⟩) 0 0) 0 f := fun f => Ow.new' (w := w4) rfl
       have l10 : L < w4.heap.size := C4_.1
       have s10 : w4.heap.size < ((w4.alloc (.cells #[] 5))).heap.size := by simp
       refine hK.out _ _ h10 (fun _ => ?_)
       clear hK
       try simp only [Act.put, List.setIfInBounds_toArray, List.set_cons_zero, List.set_cons_succ]
       generalize ((w4.alloc (.cells #[] 5))) = w10 at *
       generalize w4.heap.size = E10 at *
       refine only 9 rfl (by kernel_rfl) rfl (fun K hK => ?_)
       refine wpo_b1 rfl (.tmp 145) (.tmp 149) rfl E4 rfl e4 (by omega) _ (q) _ (fun j => g (24 + j)) rfl (r2.out _ g h10.1) (by omega) ?_
       intro A9 c9 w9 o9 g9 q9
       have h9 : By w9 (some ⟨b, off, none⟩) n g ∧ Ce w9 w.heap.size [.int .i64 0, .int .i64 0, .int .i64 0, .int .i64 0, .int .i64 0, .int .i64 0, .int .i64 0, .int .i64 0, .int .i64 0, .bool false, .int .i64 0, .slice none 0 0, .slice none 0 0] ∧ Below w.heap.size w w9 := ⟨grow_by h10.1 g9 (by omega), h10.2.1.grown g9 (fun e => by injection e with e; omega), h10.2.2.trans (below_of_grown g9 (by omega) h10.2.2.size)⟩
       have C9_ := C10_.grown g9 (fun e => by injection e with e; omega)
       have s9 := g9.size
       have e10 := fun f => ow_grown (e10 f) g9 (fun e => by simp only [Value.ownBlock, Option.some.injEq] at e; omega)
       refine hK.out _ _ h9 (fun _ => ?_)
       clear hK
       try simp only [Act.put, List.setIfInBounds_toArray, List.set_cons_zero, List.set_cons_succ]
       refine only 15 rfl (by kernel_rfl) rfl (fun K hK => ?_)
       refine wpo_b1 rfl (.tmp 151) (.tmp 155) rfl E10 rfl e10 (by omega) _ (n - 24 - q) _ (fun j => g (24 + q + j)) rfl (s2.out _ g h9.1) (by omega) ?_
       intro A15 c15 w15 o15 g15 q15
       have h15 : By w15 (some ⟨b, off, none⟩) n g ∧ Ce w15 w.heap.size [.int .i64 0, .int .i64 0, .int .i64 0, .int .i64 0, .int .i64 0, .int .i64 0, .int .i64 0, .int .i64 0, .int .i64 0, .bool false, .int .i64 0, .slice none 0 0, .slice none 0 0] ∧ Below w.heap.size w w15 := ⟨grow_by h9.1 g15 (by omega), h9.2.1.grown g15 (fun e => by injection e with e; omega), h9.2.2.trans (below_of_grown g15 (by omega) h9.2.2.size)⟩
       have C15_ := C9_.grown g15 (fun e => by injection e with e; omega)
       have s15 := g15.size
       have o9 := ow_grown o9 g15 (q9 E10 (by omega) (by omega))
       refine hK.out _ _ h15 (fun _ => ?_)
       clear hK
       try simp only [Act.put, List.setIfInBounds_toArray, List.set_cons_zero, List.set_cons_succ]
       have CC := hid C15_
       have y0 := CC.out.2.1 0 _ rfl
       have y1 := CC.out.2.1 1 _ rfl
       have y2 := CC.out.2.1 2 _ rfl
       have y3 := CC.out.2.1 3 _ rfl
       have y4 := CC.out.2.1 4 _ rfl
       have y5 := CC.out.2.1 5 _ rfl
       have y6 := CC.out.2.1 6 _ rfl
       have y7 := CC.out.2.1 7 _ rfl
       have y8 := CC.out.2.1 8 _ rfl
       have y9 := CC.out.2.1 9 _ rfl
       have y10 := CC.out.2.1 10 _ rfl
       have y11 := CC.out.2.1 11 _ rfl
       have y12 := CC.out.2.1 12 _ rfl
       have yf := CC.out.2.2
       have yl := CC.out.1
       have HH := hid h15
       refine only 17 rfl (by kernel_rfl) rfl (fun K hK => ?_)
       go_simp
       refine hK.out _ _ ⟨grow_by HH.out.1 (gs 7 (.int .i64 (g 20)) (World.grownBy.refl w15 (some L))) hBlt, HH.out.2.1.grown (gs 7 (.int .i64 (g 20)) (World.grownBy.refl w15 (some L))) (fun e => HLR (by injection e)), (HH.out.2.2).setCell (p := ⟨L, 7, none⟩) (Nat.le_of_lt hL) (.int .i64 (g 20))⟩ (fun hN0 => ?_)
       clear hK
       try simp only [Act.put, List.setIfInBounds_toArray, List.set_cons_zero, List.set_cons_succ]
       refine tkq 18 hN0 ?_
       clear hN0
       refine only 19 rfl (by kernel_rfl) rfl (fun K hK => ?_)
       go_simp
       refine hK.out _ _ ⟨grow_by HH.out.1 (gs 11 (.slice A9 q c9) (gs 7 (.int .i64 (g 20)) (World.grownBy.refl w15 (some L)))) hBlt, HH.out.2.1.grown (gs 11 (.slice A9 q c9) (gs 7 (.int .i64 (g 20)) (World.grownBy.refl w15 (some L)))) (fun e => HLR (by injection e)), ((HH.out.2.2).setCell (p := ⟨L, 7, none⟩) (Nat.le_of_lt hL) (.int .i64 (g 20))).setCell (p := ⟨L, 11, none⟩) (Nat.le_of_lt hL) (.slice A9 q c9)⟩ (fun hN1 => ?_)
       clear hK
       try simp only [Act.put, List.setIfInBounds_toArray, List.set_cons_zero, List.set_cons_succ]
       refine tkq 20 hN1 ?_
       clear hN1
       refine only 21 rfl (by kernel_rfl) rfl (fun K hK => ?_)
       go_simp
       refine hK.out _ _ ⟨grow_by HH.out.1 (gs 12 (.slice A15 (n - 24 - q) c15) (gs 11 (.slice A9 q c9) (gs 7 (.int .i64 (g 20)) (World.grownBy.refl w15 (some L))))) hBlt, HH.out.2.1.grown (gs 12 (.slice A15 (n - 24 - q) c15) (gs 11 (.slice A9 q c9) (gs 7 (.int .i64 (g 20)) (World.grownBy.refl w15 (some L))))) (fun e => HLR (by injection e)), (((HH.out.2.2).setCell (p := ⟨L, 7, none⟩) (Nat.le_of_lt hL) (.int .i64 (g 20))).setCell (p := ⟨L, 11, none⟩) (Nat.le_of_lt hL) (.slice A9 q c9)).setCell (p := ⟨L, 12, none⟩) (Nat.le_of_lt hL) (.slice A15 (n - 24 - q) c15)⟩ (fun hN2 => ?_)
       clear hK
       try simp only [Act.put, List.setIfInBounds_toArray, List.set_cons_zero, List.set_cons_succ]
       refine wpAnyH_done (by kernel_rfl) ?_ _
       have C77 := hid ((((CC.out).set 7 (.int .i64 (g 20)) (by simp)).set 11 (.slice A9 q c9) (by simp)).set 12 (.slice A15 (n - 24 - q) c15) (by simp))
       have R77 := hid (HH.out.2.1.grown (gs 12 (.slice A15 (n - 24 - q) c15) (gs 11 (.slice A9 q c9) (gs 7 (.int .i64 (g 20)) (World.grownBy.refl w15 (some L))))) (fun e => HLR (by injection e)))
       have D77 := hid ((((HH.out.2.2).setCell (p := ⟨L, 7, none⟩) (Nat.le_of_lt hL) (.int .i64 (g 20))).setCell (p := ⟨L, 11, none⟩) (Nat.le_of_lt hL) (.slice A9 q c9)).setCell (p := ⟨L, 12, none⟩) (Nat.le_of_lt hL) (.slice A15 (n - 24 - q) c15))
       have OO0 := hid (OB.grown o9 (gs 12 (.slice A15 (n - 24 - q) c15) (gs 11 (.slice A9 q c9) (gs 7 (.int .i64 (g 20)) (World.grownBy.refl w15 (some L))))) (OB.ne o9 l4))
       have OO1 := hid (OB.grown o15 (gs 12 (.slice A15 (n - 24 - q) c15) (gs 11 (.slice A9 q c9) (gs 7 (.int .i64 (g 20)) (World.grownBy.refl w15 (some L))))) (OB.ne o15 l10))
       clear hN2
       clear y0 y1 y2 y3 y4 y5 y6 y7 y8 y9 y10 y11 y12 yf yl
       generalize (((w15.setCell ⟨L, 7, none⟩ (.int .i64 (g 20))).setCell ⟨L, 11, none⟩ (.slice A9 q c9)).setCell ⟨L, 12, none⟩ (.slice A15 (n - 24 - q) c15)) = w8 at *
       have y0 := C77.out.2.1 0 _ rfl
       have y1 := C77.out.2.1 1 _ rfl
       have y2 := C77.out.2.1 2 _ rfl
       have y3 := C77.out.2.1 3 _ rfl
       have y4 := C77.out.2.1 4 _ rfl
       have y5 := C77.out.2.1 5 _ rfl
       have y6 := C77.out.2.1 6 _ rfl
       have y7 := C77.out.2.1 7 _ rfl
       have y8 := C77.out.2.1 8 _ rfl
       have y9 := C77.out.2.1 9 _ rfl
       have y10 := C77.out.2.1 10 _ rfl
       have y11 := C77.out.2.1 11 _ rfl
       have y12 := C77.out.2.1 12 _ rfl
       have yf := C77.out.2.2
       have yl := C77.out.1
       have z0 := R77.out.2.1 0 _ rfl
       have z1 := R77.out.2.1 1 _ rfl
       have z2 := R77.out.2.1 2 _ rfl
       have z3 := R77.out.2.1 3 _ rfl
       have z4 := R77.out.2.1 4 _ rfl
       have z5 := R77.out.2.1 5 _ rfl
       have z6 := R77.out.2.1 6 _ rfl
       have z7 := R77.out.2.1 7 _ rfl
       have z8 := R77.out.2.1 8 _ rfl
       have z9 := R77.out.2.1 9 _ rfl
       have z10 := R77.out.2.1 10 _ rfl
       have z11 := R77.out.2.1 11 _ rfl
       have z12 := R77.out.2.1 12 _ rfl
       have zf := R77.out.2.2
       have zl := R77.out.1
       go_wp2_with fail
       have CE := (R77.out).s13 (.int .i64 (g 0)) (.int .i64 (g 1)) (.int .i64 (g 12)) (.int .i64 (num g 4 4)) (.int .i64 (num g 8 4)) (.int .i64 (num g 16 2)) (.int .i64 (num g 18 2)) (.int .i64 (g 20)) (.int .i64 0) (.bool false) (.int .i64 0) (.slice A9 q c9) (.slice A15 (n - 24 - q) c15)
       have BE := below_s13 (b := w.heap.size) (D77.out) (Nat.le_refl _) (.int .i64 (g 0)) (.int .i64 (g 1)) (.int .i64 (g 12)) (.int .i64 (num g 4 4)) (.int .i64 (num g 8 4)) (.int .i64 (num g 16 2)) (.int .i64 (num g 18 2)) (.int .i64 (g 20)) (.int .i64 0) (.bool false) (.int .i64 0) (.slice A9 q c9) (.slice A15 (n - 24 - q) c15)
       have OE0 := OB.grown (OO0.out) (grown_s13 _ w.heap.size (.int .i64 (g 0)) (.int .i64 (g 1)) (.int .i64 (g 12)) (.int .i64 (num g 4 4)) (.int .i64 (num g 8 4)) (.int .i64 (num g 16 2)) (.int .i64 (num g 18 2)) (.int .i64 (g 20)) (.int .i64 0) (.bool false) (.int .i64 0) (.slice A9 q c9) (.slice A15 (n - 24 - q) c15)) (OB.ne (OO0.out) (by omega))
       have OE1 := OB.grown (OO1.out) (grown_s13 _ w.heap.size (.int .i64 (g 0)) (.int .i64 (g 1)) (.int .i64 (g 12)) (.int .i64 (num g 4 4)) (.int .i64 (num g 8 4)) (.int .i64 (num g 16 2)) (.int .i64 (num g 18 2)) (.int .i64 (g 20)) (.int .i64 0) (.bool false) (.int .i64 0) (.slice A9 q c9) (.slice A15 (n - 24 - q) c15)) (OB.ne (OO1.out) (by omega))
       unfold S13 at CE BE OE0 OE1
       replace CE := hid CE
       replace BE := hid BE
       replace OE0 := hid OE0
       replace OE1 := hid OE1
       refine at_world (fun w' => Ce w' w.heap.size [.int .i64 (g 0), .int .i64 (g 1), .int .i64 (g 12), .int .i64 (num g 4 4), .int .i64 (num g 8 4), .int .i64 (num g 16 2), .int .i64 (num g 18 2), .int .i64 (g 20), .int .i64 0, .bool false, .int .i64 0, .slice A9 q c9, .slice A15 (n - 24 - q) c15] ∧ Below w.heap.size w w' ∧ OB w' E4 (.slice A9 q c9) q (fun j => g (24 + j)) ∧ OB w' E10 (.slice A15 (n - 24 - q) c15) (n - 24 - q) (fun j => g (24 + q + j))) ⟨CE.out, BE.out, OE0.out, OE1.out⟩ (fun wf hwf => ?_)
       obtain ⟨hc2, hbf, ho0, ho1⟩ := hwf
       have x0 := hc2.2.1 0 _ rfl
       have x1 := hc2.2.1 1 _ rfl
       have x2 := hc2.2.1 2 _ rfl
       have x3 := hc2.2.1 3 _ rfl
       have x4 := hc2.2.1 4 _ rfl
       have x5 := hc2.2.1 5 _ rfl
       have x6 := hc2.2.1 6 _ rfl
       have x7 := hc2.2.1 7 _ rfl
       have x8 := hc2.2.1 8 _ rfl
       have x9 := hc2.2.1 9 _ rfl
       have x10 := hc2.2.1 10 _ rfl
       have x11 := hc2.2.1 11 _ rfl
       have x12 := hc2.2.1 12 _ rfl
       refine bodyPost_ret (v := .tuple #[.agg #[.int .i64 (g 0), .int .i64 (g 1), .int .i64 (g 12), .int .i64 (num g 4 4), .int .i64 (num g 8 4), .int .i64 (num g 16 2), .int .i64 (num g 18 2), .int .i64 (g 20), .int .i64 0, .bool false, .int .i64 0, .slice A9 q c9, .slice A15 (n - 24 - q) c15], .int .i64 0]) (by simp [results, Tryz.results16, go_sem, x0, x1, x2, x3, x4, x5, x6, x7, x8, x9, x10, x11, x12]) rfl ?_
       exact ⟨(.slice A9 q c9), (.slice A15 (n - 24 - q) c15), by rw [HP1.out, HE.out]; rfl, by rw [HP1.out]; exact OB.base ho0 (by omega), by rw [HP1.out]; exact OB.base ho1 (by omega), hbf⟩
     ·go_simp
      have h10 : By ((wq.alloc (.cells #[] 5)).drew) (some ⟨b, off, none⟩) n g ∧ Ce ((wq.alloc (.cells #[] 5)).drew) w.heap.size [.int .i64 0, .int .i64 0, .int .i64 0, .int .i64 0, .int .i64 0, .int .i64 0, .int .i64 0, .int .i64 0, .int .i64 0, .bool false, .int .i64 0, .slice none 0 0, .slice none 0 0] ∧ Below w.heap.size w ((wq.alloc (.cells #[] 5)).drew) := ⟨hHeld.1.alloc _, hHeld.2.1.alloc _, hHeld.2.2.alloc hHeld.2.2.size _⟩
      have C10_ : Ce ((wq.alloc (.cells #[] 5)).drew) L [.int .i64 (g 0), .int .i64 (g 1), .int .i64 (g 12), .int .i64 (num g 4 4), .int .i64 (num g 8 4), .int .i64 (num g 16 2), .int .i64 (num g 18 2), .int .i64 0, .int .i64 0, .bool false, .int .i64 0, .slice none 0 0, .slice none 0 0] := C2q.alloc (.cells #[] 5)
      have e10 : ∀ f, Ow ((wq.alloc (.cells #[] 5)).drew) wq.heap.size 5 1 (.slice (some ⟨wq.heap.size, 0, none⟩) 0 0) 0 f := fun f => Ow.new' (w := wq.drew) rfl
      have l10 : L < wq.heap.size := C2q.1
      have s10 : wq.heap.size < ((wq.alloc (.cells #[] 5)).drew).heap.size := by simp
      refine hK.out _ _ h10 (fun _ => ?_)
      clear hK
      try simp only [Act.put, List.setIfInBounds_toArray, List.set_cons_zero, List.set_cons_succ]
      generalize ((wq.alloc (.cells #[] 5)).drew) = w10 at *
      generalize wq.heap.size = E10 at *
      refine only 4 rfl (by kernel_rfl) rfl (fun K hK => ?_)
      go_simp
      have h4 : By ((w10.alloc (.cells #[] 5))) (some ⟨b, off, none⟩) n g ∧ Ce ((w10.alloc (.cells #[] 5))) w.heap.size [.int .i64 0, .int .i64 0, .int .i64 0, .int .i64 0, .int .i64 0, .int .i64 0, .int .i64 0, .int .i64 0, .int .i64 0, .bool false, .int .i64 0, .slice none 0 0, .slice none 0 0] ∧ Below w.heap.size w ((w10.alloc (.cells #[] 5))) := ⟨h10.1.alloc _, h10.2.1.alloc _, h10.2.2.alloc h10.2.2.size _⟩
      have C4_ : Ce ((w10.alloc (.cells #[] 5))) L [.int .i64 (g 0), .int .i64 (g 1), .int .i64 (g 12), .int .i64 (num g 4 4), .int .i64 (num g 8 4), .int .i64 (num g 16 2), .int .i64 (num g 18 2), .int .i64 0, .int .i64 0, .bool false, .int .i64 0, .slice none 0 0, .slice none 0 0] := C10_.alloc (.cells #[] 5)
      have e10 := fun f => Ow.alloc (e10 f) (.cells #[] 5)
      have e4 : ∀ f, Ow ((w10.alloc (.cells #[] 5))) w10.heap.size 5 1 (.slice (some ⟨w10.heap.size, 0, none⟩) 0 0) 0 f := fun f => Ow.new' (w := w10) rfl
      have l4 : L < w10.heap.size := C10_.1
      have s4 : w10.heap.size < ((w10.alloc (.cells #[] 5))).heap.size := by simp
      refine hK.out _ _ h4 (fun _ => ?_)
      clear hK
      try simp only [Act.put, List.setIfInBounds_toArray, List.set_cons_zero, List.set_cons_succ]
      generalize ((w10.alloc (.cells #[] 5))) = w4 at *
      generalize w10.heap.size = E4 at *
      refine only 9 rfl (by kernel_rfl) rfl (fun K hK => ?_)
      refine wpo_b1 rfl (.tmp 145) (.tmp 149) rfl E4 rfl e4 (by omega) _ (q) _ (fun j => g (24 + j)) rfl (r2.out _ g h4.1) (by omega) ?_
      intro A9 c9 w9 o9 g9 q9
      have h9 : By w9 (some ⟨b, off, none⟩) n g ∧ Ce w9 w.heap.size [.int .i64 0, .int .i64 0, .int .i64 0, .int .i64 0, .int .i64 0, .int .i64 0, .int .i64 0, .int .i64 0, .int .i64 0, .bool false, .int .i64 0, .slice none 0 0, .slice none 0 0] ∧ Below w.heap.size w w9 := ⟨grow_by h4.1 g9 (by omega), h4.2.1.grown g9 (fun e => by injection e with e; omega), h4.2.2.trans (below_of_grown g9 (by omega) h4.2.2.size)⟩
      have C9_ := C4_.grown g9 (fun e => by injection e with e; omega)
      have s9 := g9.size
      have e10 := fun f => ow_grown (e10 f) g9 (fun e => by simp only [Value.ownBlock, Option.some.injEq] at e; omega)
      refine hK.out _ _ h9 (fun _ => ?_)
      clear hK
      try simp only [Act.put, List.setIfInBounds_toArray, List.set_cons_zero, List.set_cons_succ]
      refine only 15 rfl (by kernel_rfl) rfl (fun K hK => ?_)
      refine wpo_b1 rfl (.tmp 151) (.tmp 155) rfl E10 rfl e10 (by omega) _ (n - 24 - q) _ (fun j => g (24 + q + j)) rfl (s2.out _ g h9.1) (by omega) ?_
      intro A15 c15 w15 o15 g15 q15
      have h15 : By w15 (some ⟨b, off, none⟩) n g ∧ Ce w15 w.heap.size [.int .i64 0, .int .i64 0, .int .i64 0, .int .i64 0, .int .i64 0, .int .i64 0, .int .i64 0, .int .i64 0, .int .i64 0, .bool false, .int .i64 0, .slice none 0 0, .slice none 0 0] ∧ Below w.heap.size w w15 := ⟨grow_by h9.1 g15 (by omega), h9.2.1.grown g15 (fun e => by injection e with e; omega), h9.2.2.trans (below_of_grown g15 (by omega) h9.2.2.size)⟩
      have C15_ := C9_.grown g15 (fun e => by injection e with e; omega)
      have s15 := g15.size
      have o9 := ow_grown o9 g15 (q9 E10 (by omega) (by omega))
      refine hK.out _ _ h15 (fun _ => ?_)
      clear hK
      try simp only [Act.put, List.setIfInBounds_toArray, List.set_cons_zero, List.set_cons_succ]
      have CC := hid C15_
      have y0 := CC.out.2.1 0 _ rfl
      have y1 := CC.out.2.1 1 _ rfl
      have y2 := CC.out.2.1 2 _ rfl
      have y3 := CC.out.2.1 3 _ rfl
      have y4 := CC.out.2.1 4 _ rfl
      have y5 := CC.out.2.1 5 _ rfl
      have y6 := CC.out.2.1 6 _ rfl
      have y7 := CC.out.2.1 7 _ rfl
      have y8 := CC.out.2.1 8 _ rfl
      have y9 := CC.out.2.1 9 _ rfl
      have y10 := CC.out.2.1 10 _ rfl
      have y11 := CC.out.2.1 11 _ rfl
      have y12 := CC.out.2.1 12 _ rfl
      have yf := CC.out.2.2
      have yl := CC.out.1
      have HH := hid h15
      refine only 17 rfl (by kernel_rfl) rfl (fun K hK => ?_)
      go_simp
      refine hK.out _ _ ⟨grow_by HH.out.1 (gs 7 (.int .i64 (g 20)) (World.grownBy.refl w15 (some L))) hBlt, HH.out.2.1.grown (gs 7 (.int .i64 (g 20)) (World.grownBy.refl w15 (some L))) (fun e => HLR (by injection e)), (HH.out.2.2).setCell (p := ⟨L, 7, none⟩) (Nat.le_of_lt hL) (.int .i64 (g 20))⟩ (fun hN0 => ?_)
      clear hK
      try simp only [Act.put, List.setIfInBounds_toArray, List.set_cons_zero, List.set_cons_succ]
      refine tkq 18 hN0 ?_
      clear hN0
      refine only 19 rfl (by kernel_rfl) rfl (fun K hK => ?_)
      go_simp
      refine hK.out _ _ ⟨grow_by HH.out.1 (gs 11 (.slice A9 q c9) (gs 7 (.int .i64 (g 20)) (World.grownBy.refl w15 (some L)))) hBlt, HH.out.2.1.grown (gs 11 (.slice A9 q c9) (gs 7 (.int .i64 (g 20)) (World.grownBy.refl w15 (some L)))) (fun e => HLR (by injection e)), ((HH.out.2.2).setCell (p := ⟨L, 7, none⟩) (Nat.le_of_lt hL) (.int .i64 (g 20))).setCell (p := ⟨L, 11, none⟩) (Nat.le_of_lt hL) (.slice A9 q c9)⟩ (fun hN1 => ?_)
      clear hK
      try simp only [Act.put, List.setIfInBounds_toArray, List.set_cons_zero, List.set_cons_succ]
      refine tkq 20 hN1 ?_
      clear hN1
      refine only 21 rfl (by kernel_rfl) rfl (fun K hK => ?_)
      go_simp
      refine hK.out _ _ ⟨grow_by HH.out.1 (gs 12 (.slice A15 (n - 24 - q) c15) (gs 11 (.slice A9 q c9) (gs 7 (.int .i64 (g 20)) (World.grownBy.refl w15 (some L))))) hBlt, HH.out.2.1.grown (gs 12 (.slice A15 (n - 24 - q) c15) (gs 11 (.slice A9 q c9) (gs 7 (.int .i64 (g 20)) (World.grownBy.refl w15 (some L))))) (fun e => HLR (by injection e)), (((HH.out.2.2).setCell (p := ⟨L, 7, none⟩) (Nat.le_of_lt hL) (.int .i64 (g 20))).setCell (p := ⟨L, 11, none⟩) (Nat.le_of_lt hL) (.slice A9 q c9)).setCell (p := ⟨L, 12, none⟩) (Nat.le_of_lt hL) (.slice A15 (n - 24 - q) c15)⟩ (fun hN2 => ?_)
      clear hK
      try simp only [Act.put, List.setIfInBounds_toArray, List.set_cons_zero, List.set_cons_succ]
      refine wpAnyH_done (by kernel_rfl) ?_ _
      have C77 := hid ((((CC.out).set 7 (.int .i64 (g 20)) (by simp)).set 11 (.slice A9 q c9) (by simp)).set 12 (.slice A15 (n - 24 - q) c15) (by simp))
      have R77 := hid (HH.out.2.1.grown (gs 12 (.slice A15 (n - 24 - q) c15) (gs 11 (.slice A9 q c9) (gs 7 (.int .i64 (g 20)) (World.grownBy.refl w15 (some L))))) (fun e => HLR (by injection e)))
      have D77 := hid ((((HH.out.2.2).setCell (p := ⟨L, 7, none⟩) (Nat.le_of_lt hL) (.int .i64 (g 20))).setCell (p := ⟨L, 11, none⟩) (Nat.le_of_lt hL) (.slice A9 q c9)).setCell (p := ⟨L, 12, none⟩) (Nat.le_of_lt hL) (.slice A15 (n - 24 - q) c15))
      have OO0 := hid (OB.grown o9 (gs 12 (.slice A15 (n - 24 - q) c15) (gs 11 (.slice A9 q c9) (gs 7 (.int .i64 (g 20)) (World.grownBy.refl w15 (some L))))) (OB.ne o9 l4))
      have OO1 := hid (OB.grown o15 (gs 12 (.slice A15 (n - 24 - q) c15) (gs 11 (.slice A9 q c9) (gs 7 (.int .i64 (g 20)) (World.grownBy.refl w15 (some L))))) (OB.ne o15 l10))
      clear hN2
      clear y0 y1 y2 y3 y4 y5 y6 y7 y8 y9 y10 y11 y12 yf yl
      generalize (((w15.setCell ⟨L, 7, none⟩ (.int .i64 (g 20))).setCell ⟨L, 11, none⟩ (.slice A9 q c9)).setCell ⟨L, 12, none⟩ (.slice A15 (n - 24 - q) c15)) = w8 at *
      have y0 := C77.out.2.1 0 _ rfl
      have y1 := C77.out.2.1 1 _ rfl
      have y2 := C77.out.2.1 2 _ rfl
      have y3 := C77.out.2.1 3 _ rfl
      have y4 := C77.out.2.1 4 _ rfl
      have y5 := C77.out.2.1 5 _ rfl
      have y6 := C77.out.2.1 6 _ rfl
      have y7 := C77.out.2.1 7 _ rfl
      have y8 := C77.out.2.1 8 _ rfl
      have y9 := C77.out.2.1 9 _ rfl
      have y10 := C77.out.2.1 10 _ rfl
      have y11 := C77.out.2.1 11 _ rfl
      have y12 := C77.out.2.1 12 _ rfl
      have yf := C77.out.2.2
      have yl := C77.out.1
      have z0 := R77.out.2.1 0 _ rfl
      have z1 := R77.out.2.1 1 _ rfl
      have z2 := R77.out.2.1 2 _ rfl
      have z3 := R77.out.2.1 3 _ rfl
      have z4 := R77.out.2.1 4 _ rfl
      have z5 := R77.out.2.1 5 _ rfl
      have z6 := R77.out.2.1 6 _ rfl
      have z7 := R77.out.2.1 7 _ rfl
      have z8 := R77.out.2.1 8 _ rfl
      have z9 := R77.out.2.1 9 _ rfl
      have z10 := R77.out.2.1 10 _ rfl
      have z11 := R77.out.2.1 11 _ rfl
      have z12 := R77.out.2.1 12 _ rfl
      have zf := R77.out.2.2
      have zl := R77.out.1
      go_wp2_with fail
      have CE := (R77.out).s13 (.int .i64 (g 0)) (.int .i64 (g 1)) (.int .i64 (g 12)) (.int .i64 (num g 4 4)) (.int .i64 (num g 8 4)) (.int .i64 (num g 16 2)) (.int .i64 (num g 18 2)) (.int .i64 (g 20)) (.int .i64 0) (.bool false) (.int .i64 0) (.slice A9 q c9) (.slice A15 (n - 24 - q) c15)
      have BE := below_s13 (b := w.heap.size) (D77.out) (Nat.le_refl _) (.int .i64 (g 0)) (.int .i64 (g 1)) (.int .i64 (g 12)) (.int .i64 (num g 4 4)) (.int .i64 (num g 8 4)) (.int .i64 (num g 16 2)) (.int .i64 (num g 18 2)) (.int .i64 (g 20)) (.int .i64 0) (.bool false) (.int .i64 0) (.slice A9 q c9) (.slice A15 (n - 24 - q) c15)
      have OE0 := OB.grown (OO0.out) (grown_s13 _ w.heap.size (.int .i64 (g 0)) (.int .i64 (g 1)) (.int .i64 (g 12)) (.int .i64 (num g 4 4)) (.int .i64 (num g 8 4)) (.int .i64 (num g 16 2)) (.int .i64 (num g 18 2)) (.int .i64 (g 20)) (.int .i64 0) (.bool false) (.int .i64 0) (.slice A9 q c9) (.slice A15 (n - 24 - q) c15)) (OB.ne (OO0.out) (by omega))
      have OE1 := OB.grown (OO1.out) (grown_s13 _ w.heap.size (.int .i64 (g 0)) (.int .i64 (g 1)) (.int .i64 (g 12)) (.int .i64 (num g 4 4)) (.int .i64 (num g 8 4)) (.int .i64 (num g 16 2)) (.int .i64 (num g 18 2)) (.int .i64 (g 20)) (.int .i64 0) (.bool false) (.int .i64 0) (.slice A9 q c9) (.slice A15 (n - 24 - q) c15)) (OB.ne (OO1.out) (by omega))
      unfold S13 at CE BE OE0 OE1
      replace CE := hid CE
      replace BE := hid BE
      replace OE0 := hid OE0
      replace OE1 := hid OE1
      refine at_world (fun w' => Ce w' w.heap.size [.int .i64 (g 0), .int .i64 (g 1), .int .i64 (g 12), .int .i64 (num g 4 4), .int .i64 (num g 8 4), .int .i64 (num g 16 2), .int .i64 (num g 18 2), .int .i64 (g 20), .int .i64 0, .bool false, .int .i64 0, .slice A9 q c9, .slice A15 (n - 24 - q) c15] ∧ Below w.heap.size w w' ∧ OB w' E4 (.slice A9 q c9) q (fun j => g (24 + j)) ∧ OB w' E10 (.slice A15 (n - 24 - q) c15) (n - 24 - q) (fun j => g (24 + q + j))) ⟨CE.out, BE.out, OE0.out, OE1.out⟩ (fun wf hwf => ?_)
      obtain ⟨hc2, hbf, ho0, ho1⟩ := hwf
      have x0 := hc2.2.1 0 _ rfl
      have x1 := hc2.2.1 1 _ rfl
      have x2 := hc2.2.1 2 _ rfl
      have x3 := hc2.2.1 3 _ rfl
      have x4 := hc2.2.1 4 _ rfl
      have x5 := hc2.2.1 5 _ rfl
      have x6 := hc2.2.1 6 _ rfl
      have x7 := hc2.2.1 7 _ rfl
      have x8 := hc2.2.1 8 _ rfl
      have x9 := hc2.2.1 9 _ rfl
      have x10 := hc2.2.1 10 _ rfl
      have x11 := hc2.2.1 11 _ rfl
      have x12 := hc2.2.1 12 _ rfl
      refine bodyPost_ret (v := .tuple #[.agg #[.int .i64 (g 0), .int .i64 (g 1), .int .i64 (g 12), .int .i64 (num g 4 4), .int .i64 (num g 8 4), .int .i64 (num g 16 2), .int .i64 (num g 18 2), .int .i64 (g 20), .int .i64 0, .bool false, .int .i64 0, .slice A9 q c9, .slice A15 (n - 24 - q) c15], .int .i64 0]) (by simp [results, Tryz.results16, go_sem, x0, x1, x2, x3, x4, x5, x6, x7, x8, x9, x10, x11, x12]) rfl ?_
      exact ⟨(.slice A9 q c9), (.slice A15 (n - 24 - q) c15), by rw [HP1.out, HE.out]; rfl, by rw [HP1.out]; exact OB.base ho0 (by omega), by rw [HP1.out]; exact OB.base ho1 (by omega), hbf⟩
    ·have hE : parseE g n = 5 := by rw [hB_]; unfold bodyE; rw [if_neg k3, if_neg (by omega), if_pos]; refine ⟨K1.out, ?_⟩; rw [HQ2.out]; simp at bn; omega
     have HR : Hid (parseR g n = {}) := hid (by unfold parseR; rw [hE, if_neg (by decide)])
     have HE := hid hE
     clear hE
     clear hB_ b24 k3
     have z0 := R2.out.2.1 0 _ rfl
     have z1 := R2.out.2.1 1 _ rfl
     have z2 := R2.out.2.1 2 _ rfl
     have z3 := R2.out.2.1 3 _ rfl
     have z4 := R2.out.2.1 4 _ rfl
     have z5 := R2.out.2.1 5 _ rfl
     have z6 := R2.out.2.1 6 _ rfl
     have z7 := R2.out.2.1 7 _ rfl
     have z8 := R2.out.2.1 8 _ rfl
     have z9 := R2.out.2.1 9 _ rfl
     have z10 := R2.out.2.1 10 _ rfl
     have z11 := R2.out.2.1 11 _ rfl
     have z12 := R2.out.2.1 12 _ rfl
     have zf := R2.out.2.2
     have zl := R2.out.1
     go_wp2_with fail
     have CE := Ce.s13 R2.out (.int .i64 0) (.int .i64 0) (.int .i64 0) (.int .i64 0) (.int .i64 0) (.int .i64 0) (.int .i64 0) (.int .i64 0) (.int .i64 0) (.bool false) (.int .i64 0) (.slice none 0 0) (.slice none 0 0)
     have BE := below_s13 (b := w.heap.size) D2.out (Nat.le_refl _) (.int .i64 0) (.int .i64 0) (.int .i64 0) (.int .i64 0) (.int .i64 0) (.int .i64 0) (.int .i64 0) (.int .i64 0) (.int .i64 0) (.bool false) (.int .i64 0) (.slice none 0 0) (.slice none 0 0)
     unfold S13 at CE BE
     replace CE := hid CE
     replace BE := hid BE
     refine at_world (fun w' => Ce w' w.heap.size [.int .i64 0, .int .i64 0, .int .i64 0, .int .i64 0, .int .i64 0, .int .i64 0, .int .i64 0, .int .i64 0, .int .i64 0, .bool false, .int .i64 0, .slice none 0 0, .slice none 0 0] ∧ Below w.heap.size w w') ⟨CE.out, BE.out⟩ (fun wf hwf => ?_)
     obtain ⟨hc2, hbf⟩ := hwf
     have x0 := hc2.2.1 0 _ rfl
     have x1 := hc2.2.1 1 _ rfl
     have x2 := hc2.2.1 2 _ rfl
     have x3 := hc2.2.1 3 _ rfl
     have x4 := hc2.2.1 4 _ rfl
     have x5 := hc2.2.1 5 _ rfl
     have x6 := hc2.2.1 6 _ rfl
     have x7 := hc2.2.1 7 _ rfl
     have x8 := hc2.2.1 8 _ rfl
     have x9 := hc2.2.1 9 _ rfl
     have x10 := hc2.2.1 10 _ rfl
     have x11 := hc2.2.1 11 _ rfl
     have x12 := hc2.2.1 12 _ rfl
     refine bodyPost_ret (v := .tuple #[pkV {} (.slice none 0 0) (.slice none 0 0), .int .i64 5]) (by simp [results, Tryz.results16, go_sem, pkV, pkL, x0, x1, x2, x3, x4, x5, x6, x7, x8, x9, x10, x11, x12]) rfl ?_
     exact ⟨.slice none 0 0, .slice none 0 0, by rw [HR.out, HE.out], by rw [HR.out]; exact OB.nil, by rw [HR.out]; exact OB.nil, hbf⟩
   ·have hE : parseE g n = 5 := by rw [hB_]; unfold bodyE; rw [if_neg k3, if_neg (by omega), if_pos]; refine ⟨K1.out, ?_⟩; rw [HQ2.out]; simp at b40; omega
    have HR : Hid (parseR g n = {}) := hid (by unfold parseR; rw [hE, if_neg (by decide)])
    have HE := hid hE
    clear hE
    clear hB_ b24 k3
    have z0 := R2.out.2.1 0 _ rfl
    have z1 := R2.out.2.1 1 _ rfl
    have z2 := R2.out.2.1 2 _ rfl
    have z3 := R2.out.2.1 3 _ rfl
    have z4 := R2.out.2.1 4 _ rfl
    have z5 := R2.out.2.1 5 _ rfl
    have z6 := R2.out.2.1 6 _ rfl
    have z7 := R2.out.2.1 7 _ rfl
    have z8 := R2.out.2.1 8 _ rfl
    have z9 := R2.out.2.1 9 _ rfl
    have z10 := R2.out.2.1 10 _ rfl
    have z11 := R2.out.2.1 11 _ rfl
    have z12 := R2.out.2.1 12 _ rfl
    have zf := R2.out.2.2
    have zl := R2.out.1
    go_wp2_with fail
    have CE := Ce.s13 R2.out (.int .i64 0) (.int .i64 0) (.int .i64 0) (.int .i64 0) (.int .i64 0) (.int .i64 0) (.int .i64 0) (.int .i64 0) (.int .i64 0) (.bool false) (.int .i64 0) (.slice none 0 0) (.slice none 0 0)
    have BE := below_s13 (b := w.heap.size) D2.out (Nat.le_refl _) (.int .i64 0) (.int .i64 0) (.int .i64 0) (.int .i64 0) (.int .i64 0) (.int .i64 0) (.int .i64 0) (.int .i64 0) (.int .i64 0) (.bool false) (.int .i64 0) (.slice none 0 0) (.slice none 0 0)
    unfold S13 at CE BE
    replace CE := hid CE
    replace BE := hid BE
    refine at_world (fun w' => Ce w' w.heap.size [.int .i64 0, .int .i64 0, .int .i64 0, .int .i64 0, .int .i64 0, .int .i64 0, .int .i64 0, .int .i64 0, .int .i64 0, .bool false, .int .i64 0, .slice none 0 0, .slice none 0 0] ∧ Below w.heap.size w w') ⟨CE.out, BE.out⟩ (fun wf hwf => ?_)
    obtain ⟨hc2, hbf⟩ := hwf
    have x0 := hc2.2.1 0 _ rfl
    have x1 := hc2.2.1 1 _ rfl
    have x2 := hc2.2.1 2 _ rfl
    have x3 := hc2.2.1 3 _ rfl
    have x4 := hc2.2.1 4 _ rfl
    have x5 := hc2.2.1 5 _ rfl
    have x6 := hc2.2.1 6 _ rfl
    have x7 := hc2.2.1 7 _ rfl
    have x8 := hc2.2.1 8 _ rfl
    have x9 := hc2.2.1 9 _ rfl
    have x10 := hc2.2.1 10 _ rfl
    have x11 := hc2.2.1 11 _ rfl
    have x12 := hc2.2.1 12 _ rfl
    refine bodyPost_ret (v := .tuple #[pkV {} (.slice none 0 0) (.slice none 0 0), .int .i64 5]) (by simp [results, Tryz.results16, go_sem, pkV, pkL, x0, x1, x2, x3, x4, x5, x6, x7, x8, x9, x10, x11, x12]) rfl ?_
    exact ⟨.slice none 0 0, .slice none 0 0, by rw [HR.out, HE.out], by rw [HR.out]; exact OB.nil, by rw [HR.out]; exact OB.nil, hbf⟩
  ·have hE : parseE g n = 5 := by rw [hB_]; unfold bodyE; rw [if_neg k3, if_neg (by omega), if_pos]; refine ⟨K1.out, ?_⟩; rw [HQ2.out]; simp at b20; omega
   have HR : Hid (parseR g n = {}) := hid (by unfold parseR; rw [hE, if_neg (by decide)])
   have HE := hid hE
   clear hE
   clear hB_ b24 k3
   have z0 := R2.out.2.1 0 _ rfl
   have z1 := R2.out.2.1 1 _ rfl
   have z2 := R2.out.2.1 2 _ rfl
   have z3 := R2.out.2.1 3 _ rfl
   have z4 := R2.out.2.1 4 _ rfl
   have z5 := R2.out.2.1 5 _ rfl
   have z6 := R2.out.2.1 6 _ rfl
   have z7 := R2.out.2.1 7 _ rfl
   have z8 := R2.out.2.1 8 _ rfl
   have z9 := R2.out.2.1 9 _ rfl
   have z10 := R2.out.2.1 10 _ rfl
   have z11 := R2.out.2.1 11 _ rfl
   have z12 := R2.out.2.1 12 _ rfl
   have zf := R2.out.2.2
   have zl := R2.out.1
   go_wp2_with fail
   have CE := Ce.s13 R2.out (.int .i64 0) (.int .i64 0) (.int .i64 0) (.int .i64 0) (.int .i64 0) (.int .i64 0) (.int .i64 0) (.int .i64 0) (.int .i64 0) (.bool false) (.int .i64 0) (.slice none 0 0) (.slice none 0 0)
   have BE := below_s13 (b := w.heap.size) D2.out (Nat.le_refl _) (.int .i64 0) (.int .i64 0) (.int .i64 0) (.int .i64 0) (.int .i64 0) (.int .i64 0) (.int .i64 0) (.int .i64 0) (.int .i64 0) (.bool false) (.int .i64 0) (.slice none 0 0) (.slice none 0 0)
   unfold S13 at CE BE
   replace CE := hid CE
   replace BE := hid BE
   refine at_world (fun w' => Ce w' w.heap.size [.int .i64 0, .int .i64 0, .int .i64 0, .int .i64 0, .int .i64 0, .int .i64 0, .int .i64 0, .int .i64 0, .int .i64 0, .bool false, .int .i64 0, .slice none 0 0, .slice none 0 0] ∧ Below w.heap.size w w') ⟨CE.out, BE.out⟩ (fun wf hwf => ?_)
   obtain ⟨hc2, hbf⟩ := hwf
   have x0 := hc2.2.1 0 _ rfl
   have x1 := hc2.2.1 1 _ rfl
   have x2 := hc2.2.1 2 _ rfl
   have x3 := hc2.2.1 3 _ rfl
   have x4 := hc2.2.1 4 _ rfl
   have x5 := hc2.2.1 5 _ rfl
   have x6 := hc2.2.1 6 _ rfl
   have x7 := hc2.2.1 7 _ rfl
   have x8 := hc2.2.1 8 _ rfl
   have x9 := hc2.2.1 9 _ rfl
   have x10 := hc2.2.1 10 _ rfl
   have x11 := hc2.2.1 11 _ rfl
   have x12 := hc2.2.1 12 _ rfl
   refine bodyPost_ret (v := .tuple #[pkV {} (.slice none 0 0) (.slice none 0 0), .int .i64 5]) (by simp [results, Tryz.results16, go_sem, pkV, pkL, x0, x1, x2, x3, x4, x5, x6, x7, x8, x9, x10, x11, x12]) rfl ?_
   exact ⟨.slice none 0 0, .slice none 0 0, by rw [HR.out, HE.out], by rw [HR.out]; exact OB.nil, by rw [HR.out]; exact OB.nil, hbf⟩
end Go.Proofs.YteapnfdpkjbfhaaGreat
