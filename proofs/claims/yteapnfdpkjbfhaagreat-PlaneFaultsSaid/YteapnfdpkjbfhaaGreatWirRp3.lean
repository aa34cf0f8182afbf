/- The reference's Parse, on. -/
import Derived.Test.YteapnfdpkjbfhaaGreatGa
import Derived.Test.YteapnfdpkjbfhaaGreatWirRgram
import Derived.BigQuiet
import Derived.Deep.RegionHeld3
import Derived.Deep.Cut
namespace Go.Proofs.YteapnfdpkjbfhaaGreat
set_option linter.unusedVariables false
set_option linter.unusedSimpArgs false
open Go.RowKit Go.ChangeShapes Go.WideShapes Go.ChangeAt
theorem wpo_b0 {w : World} {o : Oper} {a : Act} {K : Act → World → Prop} {Q : Exit → Act → World → Prop} (hgd : o.guard = none) (s x : Operand) (ho : o.op = .call { callee := .builtin .append, args := #[s, x], argTypes := #[37, 37] })
 (base : Nat) (v : Value) (hs : a.eval s = v) (hown : ∀ f, Ow w base 5 1 v 0 f)
 (A : Option Addr) (m c : Nat) (f2 : Nat → Int) (hx : a.eval x = .slice A m c) (hr : By w A m f2) (hsz : m ≤ 140737488355328) (hbase : base ≤ w.heap.size)
 (h : ∀ A' c' w', OB w' base (.slice A' m c') m f2 → Below base w w' → K (a.put o.dst (.slice A' m c')) w') : Oper.wp Tryz.prog o a w K Q := by
 have := step_app_b0 (ops := #[]) (a := a) (K := K) (Q := Q) (E := True) hgd s x ho base v hs hown A m c f2 hx hr hsz hbase (fun A' c' w' h1 _ _ h4 _ _ => h A' c' w' h1 h4)
 rw [if_pos (by simp [Region.wanted, hgd])] at this
 exact this
set_option maxRecDepth 100000 in
set_option maxHeartbeats 8000000 in
theorem rparse3 (A : Option Addr) (n c : Nat) (g : Nat → Int) (w : World) (h : By w A n g) (hg : IsB g) (hc : n ≤ c) (hb : n ≤ 1000000) (H3 : Hid (g 0 = 3)) (HP0 : Hid (parseE g n = 0)) (hne : headE g n = 0 ∨ headE g n = 4) :
 Calls Tryz.prog 16 #[.slice A n c] w (Parsed w g n) := by
 have hz : ∀ w : World, (zeroValue 39).run Tryz.prog w = .ok (.agg #[.int .i64 0, .int .i64 0, .int .i64 0, .int .i64 0, .int .i64 0, .int .i64 0, .int .i64 0, .int .i64 0, .int .i64 0, .bool false, .int .i64 0, .slice none 0 0, .slice none 0 0]) w := fun w => by kernel_rfl
 obtain ⟨h16, hk, hp, h15, h13, hx⟩ := head_04 hne
 have i1 : ¬ (n : Int) < 16 := by omega
 have gb := hg 0
 obtain ⟨gb0, gb1⟩ := gb
 have HN := hid (fun (w' : World) (h' : By w' A n g) => re_i64 (rnum_any A n c g w' h' hg 2 2 (by omega) (by omega) hb) hp)
 obtain ⟨s, hs⟩ : ∃ s, s = (norm (tot g 16) == 65535) := ⟨_, rfl⟩
 have HRT := hid (fun (w' : World) (h' : By w' A n g) c' => re_bool (rright_any A 16 c' g w' (h'.less (k := 16) (by omega)) hg (by omega)) hs.symm)
 rw [← hs] at hx
 have hA := hid (h.below ((Below.refl w.heap.size w).alloc (Nat.le_refl _) (.cells #[.int .i64 0, .int .i64 0, .int .i64 0, .int .i64 0, .int .i64 0, .int .i64 0, .int .i64 0, .int .i64 0, .int .i64 0, .bool false, .int .i64 0, .slice none 0 0, .slice none 0 0] 39)) (Nat.le_refl _))
 have H00 := hid h
 obtain ⟨b, off, rfl, hblt, hcell⟩ := hA.out (by omega)
 have c0 := hcell 0 (by omega)
 have c13 := hcell 13 (by omega)
 rw [Nat.add_zero] at c0
 have i2 : (0 : Int) < n := by omega
 have i3 : (13 : Int) < n := by omega
 have i4 : (16 : Int) ≤ c := by omega
 have i5 : ¬ (1500 : Int) < n := by omega
 have hk3 := kind_3 hk
 have k1 : ¬ g 0 < 1 := by omega
 have k2 : ¬ 3 < g 0 := by omega
 have e13 : (g 13 != 0) = false := by simpa using h13
 have HK3 := hid hk3
 have HG := hid hg
 clear hcell h hp hs hk hk3 h13 hg
 cases s
 ·rw [if_pos rfl] at hx
  have hE : parseE g n = 4 := parseE_head 4 hx (by decide)
  exact absurd (HP0.out.symm.trans hE) (by decide)
 ·rw [if_neg (by decide)] at hx
  have hB_ : parseE g n = bodyE g n := by unfold parseE; rw [if_pos hx]
  have hx0_ := hx
  replace hx0_ := hid hx0_
  clear hx hne
  cases b24 : decide ((n : Int) < 24)
  ·have n24 : 24 ≤ n := by simp at b24; omega
   cases b3 : (g 0 == 3)
   ·exact absurd H3.out (by simpa using b3)
   ·cases b44 : decide ((n : Int) < 44)
    ·have n44 : 44 ≤ n := by simp at b44; omega
     go_enter Tryz.func16, Tryz.ntmps16
     go_wp2_with fail
     refine (HN.out _ hA.out).mono ?_
     rintro x w' ⟨rfl, rfl⟩
     go_wp2_with fail
     refine (HRT.out _ hA.out _).mono ?_
     rintro x w' ⟨rfl, rfl⟩
     go_upto_region 11 with (fail)
     have CR2 := hid (Ce.made (w := w) (l := [.int .i64 0, .int .i64 0, .int .i64 0, .int .i64 0, .int .i64 0, .int .i64 0, .int .i64 0, .int .i64 0, .int .i64 0, .bool false, .int .i64 0, .slice none 0 0, .slice none 0 0]) (T := 39) rfl)
     have B2 := hid ((Below.refl w.heap.size w).alloc (Nat.le_refl _) (.cells #[.int .i64 0, .int .i64 0, .int .i64 0, .int .i64 0, .int .i64 0, .int .i64 0, .int .i64 0, .int .i64 0, .int .i64 0, .bool false, .int .i64 0, .slice none 0 0, .slice none 0 0] 39))
     have h2 := hA
     have lt2 := CR2.out.1
     simp only [List.toArray] at CR2
     clear c0 c13 HN HRT hA
     generalize w.alloc (.cells #[.int .i64 0, .int .i64 0, .int .i64 0, .int .i64 0, .int .i64 0, .int .i64 0, .int .i64 0, .int .i64 0, .int .i64 0, .bool false, .int .i64 0, .slice none 0 0, .slice none 0 0] 39) = w1 at *
     have hbw : b < w.heap.size := Sl.lt H00.out (by omega)
     have NUM := hid (fun (w' : World) (hw : By w' (some ⟨b, off, none⟩) n g) (a : Nat) (ha : a + 4 ≤ n) => rnum_any _ n c g w' hw HG.out a 4 (by omega) ha hb)
     have gb1 := HG.out 1
     have gb12 := HG.out 12
     obtain ⟨gb1a, gb1b⟩ := gb1
     obtain ⟨gb12a, gb12b⟩ := gb12
     have j1 : (12 : Int) < n := by omega
     have j2 : (1 : Int) < n := by omega
     have j3 : 0 < n := by omega
     have j4 : 1 < n := by omega
     have j5 : 12 < n := by omega
     have v0 : IntKind.i64.wrap (g 0) = g 0 := IntWalk.i64_in _ (by omega)
     have v1 : IntKind.i64.wrap (g 1) = g 1 := IntWalk.i64_in _ (by omega)
     have v2 : IntKind.i64.wrap (g 12) = g 12 := IntWalk.i64_in _ (by omega)
     go_cut [4] from 63 (fun p wx => ∃ L : Nat, p = .pointer (some ⟨L, 0, none⟩) ∧ w.heap.size < L ∧ Ce wx L [.int .i64 (g 0), .int .i64 (g 1), .int .i64 (g 12), .int .i64 (num g 4 4), .int .i64 (num g 8 4), .int .i64 0, .int .i64 0, .int .i64 0, .int .i64 0, .bool false, .int .i64 0, .slice none 0 0, .slice none 0 0] ∧ By wx (some ⟨b, off, none⟩) n g ∧ Ce wx w.heap.size [.int .i64 0, .int .i64 0, .int .i64 0, .int .i64 0, .int .i64 0, .int .i64 0, .int .i64 0, .int .i64 0, .int .i64 0, .bool false, .int .i64 0, .slice none 0 0, .slice none 0 0] ∧ Below w.heap.size w wx)
     case first =>
      refine wp_region_held_drew (S := fun w' => By w' (some ⟨b, off, none⟩) n g ∧ Ce w' w.heap.size [.int .i64 0, .int .i64 0, .int .i64 0, .int .i64 0, .int .i64 0, .int .i64 0, .int .i64 0, .int .i64 0, .int .i64 0, .bool false, .int .i64 0, .slice none 0 0, .slice none 0 0] ∧ Below w.heap.size w w') (by kernel_rfl) ?_ (fun hHeld => ?_)
      ·exact ⟨h2.out.drew, CR2.out, below_drewN B2.out 1⟩
      refine tkq 0 (by assumption) ?_
      refine tkq 1 (by assumption) ?_
      refine tkq 2 (by assumption) ?_ (hy := by intro w hSw; (try dsimp only at hSw); obtain ⟨hA, hC, hB⟩ := hSw; have z0 := hA.at_ (j := 0) (by omega); have z1 := hA.at_ (j := 1) (by omega); have z12 := hA.at_ (j := 12) (by omega); rw [Nat.add_zero] at z0; go_simp; (try with_reducible rfl))
      refine tkq 3 (by assumption) ?_
      refine tkq 4 (by assumption) ?_
      refine tkq 5 (by assumption) ?_
      refine tkq 6 (by assumption) ?_ (hy := by intro w hSw; (try dsimp only at hSw); obtain ⟨hA, hC, hB⟩ := hSw; have z0 := hA.at_ (j := 0) (by omega); have z1 := hA.at_ (j := 1) (by omega); have z12 := hA.at_ (j := 12) (by omega); rw [Nat.add_zero] at z0; go_simp; (try with_reducible rfl))
      refine tkq 7 (by assumption) ?_
      refine tkq 8 (by assumption) ?_
      refine tkq 9 (by assumption) ?_
      refine tkq 10 (by assumption) ?_ (hy := by intro w hSw; (try dsimp only at hSw); obtain ⟨hA, hC, hB⟩ := hSw; have z0 := hA.at_ (j := 0) (by omega); have z1 := hA.at_ (j := 1) (by omega); have z12 := hA.at_ (j := 12) (by omega); rw [Nat.add_zero] at z0; go_simp; (try with_reducible rfl))
      refine tkq 11 (by assumption) ?_
      refine tkq 12 (by assumption) ?_
      refine tkq 14 (by assumption) ?_
      refine twoUp 13 17 rfl rfl (by kernel_rfl) rfl rfl (fun K hK => ?_) (fun K hK => ?_)
      ·go_simp
       refine (NUM.out _ hHeld.1 4 (by omega)).mono ?_
       rintro e' w' ⟨rfl, rfl⟩
       try go_wp2_with fail
       refine hK.out _ _ hHeld (fun _ => ?_)
       clear hK
       try simp only [Act.put, List.setIfInBounds_toArray, List.set_cons_zero, List.set_cons_succ]
       refine twoUp 15 17 rfl rfl (by kernel_rfl) rfl rfl (fun K hK => ?_) (fun K hK => ?_)
       ·go_simp
        refine (NUM.out _ hHeld.1 8 (by omega)).mono ?_
        rintro e' w' ⟨rfl, rfl⟩
        try go_wp2_with fail
        refine hK.out _ _ hHeld (fun _ => ?_)
        clear hK
        try simp only [Act.put, List.setIfInBounds_toArray, List.set_cons_zero, List.set_cons_succ]
        refine tkq 16 (by assumption) ?_
        refine only 17 rfl (by kernel_rfl) rfl (fun K hK => ?_)
        go_simp
        refine hK.out _ _ ⟨hHeld.1.alloc _, hHeld.2.1.alloc _, hHeld.2.2.alloc hHeld.2.2.size _⟩ (fun hHeld2 => ?_)
        clear hK
        try simp only [Act.put, List.setIfInBounds_toArray, List.set_cons_zero, List.set_cons_succ]
        refine only 18 rfl (by kernel_rfl) rfl (fun K hK => ?_)
        go_simp
        refine hK.out _ _ ⟨hHeld.1.alloc _, hHeld.2.1.alloc _, hHeld.2.2.alloc hHeld.2.2.size _⟩ (fun _ => ?_)
        clear hK
        try simp only [Act.put, List.setIfInBounds_toArray, List.set_cons_zero, List.set_cons_succ]
        refine wpAnyH_done (by kernel_rfl) ?_ _
        go_wp2_with fail
        go_meet
        exact ⟨_, rfl, lt2, (Ce.made (w := w1) (l := [.int .i64 (g 0), .int .i64 (g 1), .int .i64 (g 12), .int .i64 (num g 4 4), .int .i64 (num g 8 4), .int .i64 0, .int .i64 0, .int .i64 0, .int .i64 0, .bool false, .int .i64 0, .slice none 0 0, .slice none 0 0]) rfl).drew_, (h2.out.alloc _).drew, (CR2.out.alloc _).drew_, (B2.out.alloc B2.out.size _).drew⟩
       ·go_simp
        refine hK.out _ _ ⟨hHeld.1.alloc _, hHeld.2.1.alloc _, hHeld.2.2.alloc hHeld.2.2.size _⟩ (fun hHeld2 => ?_)
        clear hK
        try simp only [Act.put, List.setIfInBounds_toArray, List.set_cons_zero, List.set_cons_succ]
        refine only 15 rfl (by kernel_rfl) rfl (fun K hK => ?_)
        go_simp
        refine (NUM.out _ hHeld2.1 8 (by omega)).mono ?_
        rintro e' w' ⟨rfl, rfl⟩
        try go_wp2_with fail
        refine hK.out _ _ hHeld2 (fun _ => ?_)
        clear hK
        try simp only [Act.put, List.setIfInBounds_toArray, List.set_cons_zero, List.set_cons_succ]
        refine tkq 16 (by assumption) ?_
        refine only 18 rfl (by kernel_rfl) rfl (fun K hK => ?_)
        go_simp
        refine hK.out _ _ ⟨hHeld.1.alloc _, hHeld.2.1.alloc _, hHeld.2.2.alloc hHeld.2.2.size _⟩ (fun _ => ?_)
        clear hK
        try simp only [Act.put, List.setIfInBounds_toArray, List.set_cons_zero, List.set_cons_succ]
        refine wpAnyH_done (by kernel_rfl) ?_ _
        go_wp2_with fail
        go_meet
        exact ⟨_, rfl, lt2, (Ce.made (w := w1) (l := [.int .i64 (g 0), .int .i64 (g 1), .int .i64 (g 12), .int .i64 (num g 4 4), .int .i64 (num g 8 4), .int .i64 0, .int .i64 0, .int .i64 0, .int .i64 0, .bool false, .int .i64 0, .slice none 0 0, .slice none 0 0]) rfl).drew_, (h2.out.alloc _).drew, (CR2.out.alloc _).drew_, (B2.out.alloc B2.out.size _).drew⟩
      ·go_simp
       refine hK.out _ _ ⟨hHeld.1.alloc _, hHeld.2.1.alloc _, hHeld.2.2.alloc hHeld.2.2.size _⟩ (fun hHeld2 => ?_)
       clear hK
       try simp only [Act.put, List.setIfInBounds_toArray, List.set_cons_zero, List.set_cons_succ]
       refine only 13 rfl (by kernel_rfl) rfl (fun K hK => ?_)
       go_simp
       refine (NUM.out _ hHeld2.1 4 (by omega)).mono ?_
       rintro e' w' ⟨rfl, rfl⟩
       try go_wp2_with fail
       refine hK.out _ _ hHeld2 (fun _ => ?_)
       clear hK
       try simp only [Act.put, List.setIfInBounds_toArray, List.set_cons_zero, List.set_cons_succ]
       refine only 15 rfl (by kernel_rfl) rfl (fun K hK => ?_)
       go_simp
       refine (NUM.out _ hHeld2.1 8 (by omega)).mono ?_
       rintro e' w' ⟨rfl, rfl⟩
       try go_wp2_with fail
       refine hK.out _ _ hHeld2 (fun _ => ?_)
       clear hK
       try simp only [Act.put, List.setIfInBounds_toArray, List.set_cons_zero, List.set_cons_succ]
       refine tkq 16 (by assumption) ?_
       refine only 18 rfl (by kernel_rfl) rfl (fun K hK => ?_)
       go_simp
       refine hK.out _ _ ⟨hHeld.1.alloc _, hHeld.2.1.alloc _, hHeld.2.2.alloc hHeld.2.2.size _⟩ (fun _ => ?_)
       clear hK
       try simp only [Act.put, List.setIfInBounds_toArray, List.set_cons_zero, List.set_cons_succ]
       refine wpAnyH_done (by kernel_rfl) ?_ _
       go_wp2_with fail
       go_meet
       exact ⟨_, rfl, lt2, (Ce.made (w := w1) (l := [.int .i64 (g 0), .int .i64 (g 1), .int .i64 (g 12), .int .i64 (num g 4 4), .int .i64 (num g 8 4), .int .i64 0, .int .i64 0, .int .i64 0, .int .i64 0, .bool false, .int .i64 0, .slice none 0 0, .slice none 0 0]) rfl).drew_, (h2.out.alloc _).drew, (CR2.out.alloc _).drew_, (B2.out.alloc B2.out.size _).drew⟩
     case rest =>
      obtain ⟨L, rfl, hL, hCL, hA, hCR, hB⟩ := hcut
      replace hCL := hid hCL
      replace hCR := hid hCR
      replace hA := hid hA
      replace hB := hid hB
      have HLR : L ≠ w.heap.size := Nat.ne_of_gt hL
      have HRL : w.heap.size ≠ L := Nat.ne_of_lt hL
      have hBlt : b ≠ L := by omega
      have hBR : b ≠ w.heap.size := by omega
      clear CR2 B2 h2 lt2 H00
      have HB := hid hB_
      clear hB_
      have c17 := hA.out.at_ (j := 17) (by omega)
      have i17 : (17 : Int) < n := by omega
      have y0 := hCL.out.2.1 0 _ rfl
      have y1 := hCL.out.2.1 1 _ rfl
      have y2 := hCL.out.2.1 2 _ rfl
      have y3 := hCL.out.2.1 3 _ rfl
      have y4 := hCL.out.2.1 4 _ rfl
      have y5 := hCL.out.2.1 5 _ rfl
      have y6 := hCL.out.2.1 6 _ rfl
      have y7 := hCL.out.2.1 7 _ rfl
      have y8 := hCL.out.2.1 8 _ rfl
      have y9 := hCL.out.2.1 9 _ rfl
      have y10 := hCL.out.2.1 10 _ rfl
      have y11 := hCL.out.2.1 11 _ rfl
      have y12 := hCL.out.2.1 12 _ rfl
      have yf := hCL.out.2.2
      have yl := hCL.out.1
      have z0 := hCR.out.2.1 0 _ rfl
      have z1 := hCR.out.2.1 1 _ rfl
      have z2 := hCR.out.2.1 2 _ rfl
      have z3 := hCR.out.2.1 3 _ rfl
      have z4 := hCR.out.2.1 4 _ rfl
      have z5 := hCR.out.2.1 5 _ rfl
      have z6 := hCR.out.2.1 6 _ rfl
      have z7 := hCR.out.2.1 7 _ rfl
      have z8 := hCR.out.2.1 8 _ rfl
      have z9 := hCR.out.2.1 9 _ rfl
      have z10 := hCR.out.2.1 10 _ rfl
      have z11 := hCR.out.2.1 11 _ rfl
      have z12 := hCR.out.2.1 12 _ rfl
      have zf := hCR.out.2.2
      have zl := hCR.out.1
      cases b17 : (g 17 != 0)
      ·have hPE : parseE g n = 0 := by rw [HB.out]; unfold bodyE; rw [if_pos (by simpa using b3), if_neg (by omega), if_neg (by simpa using b17)]
       have HP3 : Hid (parseR g n = { kind := g 0, life := g 1, piece := g 12, src := num g 4 4, dst := num g 8 4, code := g 16, nd := n - 20, gd := fun j => g (20 + j) }) := hid (by unfold parseR; rw [hPE, if_pos rfl]; unfold parseP; rw [if_pos (by simpa using b3)])
       have HE := hid hPE
       clear hPE
       have gb16 := HG.out 16
       obtain ⟨gb16a, gb16b⟩ := gb16
       have i16 : (16 : Int) < n := by omega
       have v16 : IntKind.i64.wrap (g 16) = g 16 := IntWalk.i64_in _ (by omega)
       obtain ⟨A9, r1, r2⟩ := cut_from_b (some ⟨b, off, none⟩) n c 20 (by omega) hc 20 rfl
       replace r2 := hid r2
       go_upto_region 15 with (fail)
       clear c17 z0 z1 z2 z3 z4 z5 z6 z7 z8 z9 z10 z11 z12 zf zl
       refine wp_region_held_drew (S := fun w' => By w' (some ⟨b, off, none⟩) n g ∧ Ce w' w.heap.size [.int .i64 0, .int .i64 0, .int .i64 0, .int .i64 0, .int .i64 0, .int .i64 0, .int .i64 0, .int .i64 0, .int .i64 0, .bool false, .int .i64 0, .slice none 0 0, .slice none 0 0] ∧ Below w.heap.size w w') (by kernel_rfl) ?_ (fun hHeld => ?_)
       ·exact ⟨hA.out.drew, hCR.out, below_drewN hB.out 1⟩
       refine tkq 0 (by assumption) ?_
       refine tkq 1 (by assumption) ?_
       refine tkq 2 (by assumption) ?_ (hy := by intro w hSw; (try dsimp only at hSw); obtain ⟨hA, hC, hB⟩ := hSw; have z16 := hA.at_ (j := 16) (by omega); go_simp; (try with_reducible rfl))
       refine tkq 3 (by assumption) ?_
       refine tkq 5 (by assumption) ?_
       refine tkq 6 (by assumption) ?_
       refine tkq 8 (by assumption) ?_
       refine only 4 rfl (by kernel_rfl) rfl (fun K hK => ?_)
       go_simp
       have hH4 : By (wc.drew.alloc (.cells #[] 5)) (some ⟨b, off, none⟩) n g ∧ Ce (wc.drew.alloc (.cells #[] 5)) w.heap.size [.int .i64 0, .int .i64 0, .int .i64 0, .int .i64 0, .int .i64 0, .int .i64 0, .int .i64 0, .int .i64 0, .int .i64 0, .bool false, .int .i64 0, .slice none 0 0, .slice none 0 0] ∧ Below w.heap.size w (wc.drew.alloc (.cells #[] 5)) := ⟨hHeld.1.alloc _, hHeld.2.1.alloc _, hHeld.2.2.alloc hHeld.2.2.size _⟩
       refine hK.out _ _ hH4 (fun _ => ?_)
       clear hK
       try simp only [Act.put, List.setIfInBounds_toArray, List.set_cons_zero, List.set_cons_succ]
       refine only 7 rfl (by kernel_rfl) rfl (fun K hK => ?_)
       refine wpo_b0 rfl (.tmp 92) (.tmp 94) rfl wc.heap.size _ rfl (fun f => Ow.new' (w := wc.drew) (g := wc.heap.size) rfl) _ (n - 20) _ (fun j => g (20 + j)) rfl (r2.out _ g hH4.1) (by omega) (by simp) ?_
       intro A7 c7 w7 ho7 hb7
       have hS7 : wc.heap.size ≤ w7.heap.size := by have := hb7.size; simp at this; omega
       have hH7 : By w7 (some ⟨b, off, none⟩) n g ∧ Ce w7 w.heap.size [.int .i64 0, .int .i64 0, .int .i64 0, .int .i64 0, .int .i64 0, .int .i64 0, .int .i64 0, .int .i64 0, .int .i64 0, .bool false, .int .i64 0, .slice none 0 0, .slice none 0 0] ∧ Below w.heap.size w w7 := ⟨Sl.below hHeld.1 (Below.trans ((Below.refl wc.drew.heap.size wc.drew).alloc (Nat.le_refl _) (.cells #[] 5)) hb7) (Nat.le_refl _), hHeld.2.1.below (Below.trans ((Below.refl wc.drew.heap.size wc.drew).alloc (Nat.le_refl _) (.cells #[] 5)) hb7), hHeld.2.2.trans ((Below.trans ((Below.refl wc.drew.heap.size wc.drew).alloc (Nat.le_refl _) (.cells #[] 5)) hb7).mono hHeld.2.2.size)⟩
       refine hK.out _ _ hH7 (fun _ => ?_)
       clear hK
       try simp only [Act.put, List.setIfInBounds_toArray, List.set_cons_zero, List.set_cons_succ]
       have hLc := hCL.out.1
       have C6 := hid (hCL.out.drew_.below (Below.trans ((Below.refl wc.drew.heap.size wc.drew).alloc (Nat.le_refl _) (.cells #[] 5)) hb7))
       have OO := hid ho7
       clear ho7 hb7 hHeld hH4
       clear y0 y1 y2 y3 y4 y5 y6 y7 y8 y9 y10 y11 y12 yf yl
       have y0 := C6.out.2.1 0 _ rfl
       have y1 := C6.out.2.1 1 _ rfl
       have y2 := C6.out.2.1 2 _ rfl
       have y3 := C6.out.2.1 3 _ rfl
       have y4 := C6.out.2.1 4 _ rfl
       have y5 := C6.out.2.1 5 _ rfl
       have y6 := C6.out.2.1 6 _ rfl
       have y7 := C6.out.2.1 7 _ rfl
       have y8 := C6.out.2.1 8 _ rfl
       have y9 := C6.out.2.1 9 _ rfl
       have y10 := C6.out.2.1 10 _ rfl
       have y11 := C6.out.2.1 11 _ rfl
       have y12 := C6.out.2.1 12 _ rfl
       have yf := C6.out.2.2
       have yl := C6.out.1
       have HH6 := hid hH7
       clear hH7
       refine only 9 rfl (by kernel_rfl) rfl (fun K hK => ?_)
       go_simp
       refine hK.out _ _ ⟨grow_by HH6.out.1 (gs 10 (.int .i64 (g 16)) (World.grownBy.refl w7 (some L))) hBlt, HH6.out.2.1.grown (gs 10 (.int .i64 (g 16)) (World.grownBy.refl w7 (some L))) (fun e => HLR (by injection e)), (HH6.out.2.2).setCell (p := ⟨L, 10, none⟩) (Nat.le_of_lt hL) (.int .i64 (g 16))⟩ (fun hN0 => ?_)
       clear hK
       try simp only [Act.put, List.setIfInBounds_toArray, List.set_cons_zero, List.set_cons_succ]
       refine tkq 10 hN0 ?_
       clear hN0
       refine only 11 rfl (by kernel_rfl) rfl (fun K hK => ?_)
       go_simp
       refine hK.out _ _ ⟨grow_by HH6.out.1 (gs 12 (.slice A7 (n - 20) c7) (gs 10 (.int .i64 (g 16)) (World.grownBy.refl w7 (some L)))) hBlt, HH6.out.2.1.grown (gs 12 (.slice A7 (n - 20) c7) (gs 10 (.int .i64 (g 16)) (World.grownBy.refl w7 (some L)))) (fun e => HLR (by injection e)), ((HH6.out.2.2).setCell (p := ⟨L, 10, none⟩) (Nat.le_of_lt hL) (.int .i64 (g 16))).setCell (p := ⟨L, 12, none⟩) (Nat.le_of_lt hL) (.slice A7 (n - 20) c7)⟩ (fun hN1 => ?_)
       clear hK
       try simp only [Act.put, List.setIfInBounds_toArray, List.set_cons_zero, List.set_cons_succ]
       refine wpAnyH_done (by kernel_rfl) ?_ _
       have C7 := hid (((C6.out).set 10 (.int .i64 (g 16)) (by simp)).set 12 (.slice A7 (n - 20) c7) (by simp))
       have R7 := hid (HH6.out.2.1.grown (gs 12 (.slice A7 (n - 20) c7) (gs 10 (.int .i64 (g 16)) (World.grownBy.refl w7 (some L)))) (fun e => HLR (by injection e)))
       have D7 := hid (((HH6.out.2.2).setCell (p := ⟨L, 10, none⟩) (Nat.le_of_lt hL) (.int .i64 (g 16))).setCell (p := ⟨L, 12, none⟩) (Nat.le_of_lt hL) (.slice A7 (n - 20) c7))
       have OO7 := hid (OB.grown OO.out (gs 12 (.slice A7 (n - 20) c7) (gs 10 (.int .i64 (g 16)) (World.grownBy.refl w7 (some L)))) (OB.ne OO.out hLc))
       clear hN1
       clear y0 y1 y2 y3 y4 y5 y6 y7 y8 y9 y10 y11 y12 yf yl
       generalize ((w7.setCell ⟨L, 10, none⟩ (.int .i64 (g 16))).setCell ⟨L, 12, none⟩ (.slice A7 (n - 20) c7)) = w8 at *
       have y0 := C7.out.2.1 0 _ rfl
       have y1 := C7.out.2.1 1 _ rfl
       have y2 := C7.out.2.1 2 _ rfl
       have y3 := C7.out.2.1 3 _ rfl
       have y4 := C7.out.2.1 4 _ rfl
       have y5 := C7.out.2.1 5 _ rfl
       have y6 := C7.out.2.1 6 _ rfl
       have y7 := C7.out.2.1 7 _ rfl
       have y8 := C7.out.2.1 8 _ rfl
       have y9 := C7.out.2.1 9 _ rfl
       have y10 := C7.out.2.1 10 _ rfl
       have y11 := C7.out.2.1 11 _ rfl
       have y12 := C7.out.2.1 12 _ rfl
       have yf := C7.out.2.2
       have yl := C7.out.1
       have z0 := R7.out.2.1 0 _ rfl
       have z1 := R7.out.2.1 1 _ rfl
       have z2 := R7.out.2.1 2 _ rfl
       have z3 := R7.out.2.1 3 _ rfl
       have z4 := R7.out.2.1 4 _ rfl
       have z5 := R7.out.2.1 5 _ rfl
       have z6 := R7.out.2.1 6 _ rfl
       have z7 := R7.out.2.1 7 _ rfl
       have z8 := R7.out.2.1 8 _ rfl
       have z9 := R7.out.2.1 9 _ rfl
       have z10 := R7.out.2.1 10 _ rfl
       have z11 := R7.out.2.1 11 _ rfl
       have z12 := R7.out.2.1 12 _ rfl
       have zf := R7.out.2.2
       have zl := R7.out.1
       go_wp2_with fail
       have CE := (R7.out).s13 (.int .i64 (g 0)) (.int .i64 (g 1)) (.int .i64 (g 12)) (.int .i64 (num g 4 4)) (.int .i64 (num g 8 4)) (.int .i64 0) (.int .i64 0) (.int .i64 0) (.int .i64 0) (.bool false) (.int .i64 (g 16)) (.slice none 0 0) (.slice A7 (n - 20) c7)
       have BE := below_s13 (b := w.heap.size) (D7.out) (Nat.le_refl _) (.int .i64 (g 0)) (.int .i64 (g 1)) (.int .i64 (g 12)) (.int .i64 (num g 4 4)) (.int .i64 (num g 8 4)) (.int .i64 0) (.int .i64 0) (.int .i64 0) (.int .i64 0) (.bool false) (.int .i64 (g 16)) (.slice none 0 0) (.slice A7 (n - 20) c7)
       have OE0 := OB.grown (OO7.out) (grown_s13 _ w.heap.size (.int .i64 (g 0)) (.int .i64 (g 1)) (.int .i64 (g 12)) (.int .i64 (num g 4 4)) (.int .i64 (num g 8 4)) (.int .i64 0) (.int .i64 0) (.int .i64 0) (.int .i64 0) (.bool false) (.int .i64 (g 16)) (.slice none 0 0) (.slice A7 (n - 20) c7)) (OB.ne (OO7.out) (by omega))
       unfold S13 at CE BE OE0
       replace CE := hid CE
       replace BE := hid BE
       replace OE0 := hid OE0
       refine at_world (fun w' => Ce w' w.heap.size [.int .i64 (g 0), .int .i64 (g 1), .int .i64 (g 12), .int .i64 (num g 4 4), .int .i64 (num g 8 4), .int .i64 0, .int .i64 0, .int .i64 0, .int .i64 0, .bool false, .int .i64 (g 16), .slice none 0 0, .slice A7 (n - 20) c7] ∧ Below w.heap.size w w' ∧ OB w' wc.heap.size (.slice A7 (n - 20) c7) (n - 20) (fun j => g (20 + j))) ⟨CE.out, BE.out, OE0.out⟩ (fun wf hwf => ?_)
       obtain ⟨hc2, hbf, ho0⟩ := hwf
       have x0 := hc2.2.1 0 _ rfl
       have x1 := hc2.2.1 1 _ rfl
       have x2 := hc2.2.1 2 _ rfl
       have x3 := hc2.2.1 3 _ rfl
       have x4 := hc2.2.1 4 _ rfl
       have x5 := hc2.2.1 5 _ rfl
       have x6 := hc2.2.1 6 _ rfl
       have x7 := hc2.2.1 7 _ rfl
       have x8 := hc2.2.1 8 _ rfl
       have x9 := hc2.2.1 9 _ rfl
       have x10 := hc2.2.1 10 _ rfl
       have x11 := hc2.2.1 11 _ rfl
       have x12 := hc2.2.1 12 _ rfl
       refine bodyPost_ret (v := .tuple #[.agg #[.int .i64 (g 0), .int .i64 (g 1), .int .i64 (g 12), .int .i64 (num g 4 4), .int .i64 (num g 8 4), .int .i64 0, .int .i64 0, .int .i64 0, .int .i64 0, .bool false, .int .i64 (g 16), .slice none 0 0, .slice A7 (n - 20) c7], .int .i64 0]) (by simp [results, Tryz.results16, go_sem, x0, x1, x2, x3, x4, x5, x6, x7, x8, x9, x10, x11, x12]) rfl ?_
       exact ⟨.slice none 0 0, (.slice A7 (n - 20) c7), by rw [HP3.out, HE.out]; rfl, by rw [HP3.out]; exact OB.nil, by rw [HP3.out]; exact OB.base ho0 (by omega), hbf⟩
      ·have hE : parseE g n = 2 := by rw [HB.out]; unfold bodyE; rw [if_pos (by simpa using b3), if_neg (by omega), if_pos (by simpa using b17)]
       exact absurd (HP0.out.symm.trans hE) (by decide)
    ·have n44 : n < 44 := by simp at b44; omega
     have hE : parseE g n = 1 := by rw [hB_]; unfold bodyE; rw [if_pos (by simpa using b3), if_pos n44]
     exact absurd (HP0.out.symm.trans hE) (by decide)
  ·have n24 : n < 24 := by simp at b24; omega
   have hE : parseE g n = 1 := by rw [hB_]; unfold bodyE; by_cases h3 : g 0 = 3; (rw [if_pos h3, if_pos (by omega)]); (rw [if_neg h3, if_pos n24])
   exact absurd (HP0.out.symm.trans hE) (by decide)
end Go.Proofs.YteapnfdpkjbfhaaGreat
