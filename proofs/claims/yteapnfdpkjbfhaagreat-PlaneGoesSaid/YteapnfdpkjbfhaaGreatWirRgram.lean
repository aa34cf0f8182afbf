/- The reference's Parse of a gram. -/
import Derived.Test.YteapnfdpkjbfhaaGreatGa
import Derived.Test.YteapnfdpkjbfhaaGreatWirRparse
import Derived.BigQuiet
import Derived.Deep.RegionHeld3
import Derived.Deep.Cut
namespace Go.Proofs.YteapnfdpkjbfhaaGreat
set_option linter.unusedVariables false
set_option linter.unusedSimpArgs false
open Go.RowKit Go.ChangeShapes Go.WideShapes Go.ChangeAt
theorem head_04 {g : Nat → Int} {n : Nat} (h : headE g n = 0 ∨ headE g n = 4) : 16 ≤ n ∧ isK (g 0) = true ∧ num g 2 2 = n ∧ n ≤ 1500 ∧ g 13 = 0 ∧ headE g n = if (norm (tot g 16) == 65535) = false then 4 else 0 := by
 have hx : headE g n = headE g n := rfl
 unfold headE at h
 split at h
 ·rcases h with h | h <;> cases h
 ·split at h
  ·rcases h with h | h <;> cases h
  ·split at h
   ·rcases h with h | h <;> cases h
   ·rename_i h1 h2 h3
    refine ⟨by omega, by simpa using h2, ?_, ?_, ?_, ?_⟩
    ·have hp : pairF g n 2 = num g 2 2 := by unfold pairF; rw [if_neg (by simp at h3; omega)]
     rw [← hp]; simp at h3; exact h3.1.1
    ·simp at h3; omega
    ·simp at h3; exact h3.2
    ·unfold headE; rw [if_neg h1, if_neg h2, if_neg h3]
theorem ow_grown {w w' : World} {B n b size : Nat} {e : TypeId} {v : Value} {f : Nat → Value} (h : Ow w B e size v n f) (hg : w.grownBy w' (some b)) (hne : v.ownBlock ≠ some b) : Ow w' B e size v n f := by
 refine ⟨h.1, ?_⟩
 rcases h.2 with h0 | ⟨g', cap, cur, rfl, hB, hh, h1⟩
 ·exact .inl h0
 ·refine .inr ⟨g', cap, cur, rfl, hB, ?_, h1⟩
  have hlt : g' < w.heap.size := by
   rcases Nat.lt_or_ge g' w.heap.size with hlt | hge
   ·exact hlt
   ·rw [Array.getElem?_eq_none hge] at hh; cases hh
  rw [hg.block g' hlt hne]
  exact hh
theorem ow_lt {w : World} {B n size : Nat} {e : TypeId} {v : Value} {f : Nat → Value} (h : Ow w B e size v n f) (x : Nat) (hx : w.heap.size ≤ x) : v.ownBlock ≠ some x := by
 rcases h.2 with ⟨rfl, _⟩ | ⟨g', cap, cur, rfl, hB, hh, h1⟩
 ·intro e; cases e
 ·intro e
  simp only [Value.ownBlock, Option.some.injEq] at e
  rw [Array.getElem?_eq_none (by omega)] at hh
  cases hh
theorem wpo_b1 {w : World} {o : Oper} {a : Act} {K : Act → World → Prop} {Q : Exit → Act → World → Prop} (hgd : o.guard = none) (s x : Operand) (ho : o.op = .call { callee := .builtin .append, args := #[s, x], argTypes := #[37, 37] })
 (E : Nat) (hs : a.eval s = .slice (some ⟨E, 0, none⟩) 0 0) (hown : ∀ f, Ow w E 5 1 (.slice (some ⟨E, 0, none⟩) 0 0) 0 f) (hE : E < w.heap.size)
 (A : Option Addr) (m c : Nat) (f2 : Nat → Int) (hx : a.eval x = .slice A m c) (hr : By w A m f2) (hsz : m ≤ 140737488355328)
 (h : ∀ A' c' w', OB w' E (.slice A' m c') m f2 → w.grownBy w' (some E) → (∀ x, x ≠ E → x < w.heap.size → (Value.slice A' m c').ownBlock ≠ some x) → K (a.put o.dst (.slice A' m c')) w') : Oper.wp Tryz.prog o a w K Q := by
 have := step_app_b0 (ops := #[]) (a := a) (K := K) (Q := Q) (E := True) hgd s x ho E _ hs hown A m c f2 hx hr hsz (by omega) (fun A' c' w' h1 _ _ h4 h5 h6 => h A' c' w' h1 h5 (fun x h7 h8 h9 => by
  rcases h6 x h9 with h10 | h10
  ·exact h7 (by injection h10 with h10; exact h10.symm)
  ·omega))
 rw [if_pos (by simp [Region.wanted, hgd])] at this
 exact this
set_option maxRecDepth 100000 in
set_option maxHeartbeats 8000000 in
theorem rparse_gram (A : Option Addr) (n c : Nat) (g : Nat → Int) (w : World) (h : By w A n g) (hg : IsB g) (hc : n ≤ c) (hb : n ≤ 1000000) (hne : headE g n = 0) (n24 : 24 ≤ n) (b3 : (g 0 == 3) = false) (b2 : (g 0 == 2) = true) :
 Calls Tryz.prog 16 #[.slice A n c] w (Parsed w g n) := by
 have hz : ∀ w : World, (zeroValue 39).run Tryz.prog w = .ok (.agg #[.int .i64 0, .int .i64 0, .int .i64 0, .int .i64 0, .int .i64 0, .int .i64 0, .int .i64 0, .int .i64 0, .int .i64 0, .bool false, .int .i64 0, .slice none 0 0, .slice none 0 0]) w := fun w => by kernel_rfl
 obtain ⟨h16, hk, hp, h15, h13, hx⟩ := head_04 (.inl hne)
 have i1 : ¬ (n : Int) < 16 := by omega
 have gb := hg 0
 obtain ⟨gb0, gb1⟩ := gb
 have HN := hid (fun (w' : World) (h' : By w' A n g) => re_i64 (rnum_any A n c g w' h' hg 2 2 (by omega) (by omega) hb) hp)
 have hs : (norm (tot g 16) == 65535) = true := by rw [hne] at hx; split at hx; (cases hx); rename_i h; simpa using h
 have HRT := hid (fun (w' : World) (h' : By w' A n g) c' => re_bool (rright_any A 16 c' g w' (h'.less (k := 16) (by omega)) hg (by omega)) hs)
 clear hx hs
 have hA := hid (h.below ((Below.refl w.heap.size w).alloc (Nat.le_refl _) (.cells #[.int .i64 0, .int .i64 0, .int .i64 0, .int .i64 0, .int .i64 0, .int .i64 0, .int .i64 0, .int .i64 0, .int .i64 0, .bool false, .int .i64 0, .slice none 0 0, .slice none 0 0] 39)) (Nat.le_refl _))
 have H00 := hid h
 obtain ⟨b, off, rfl, hblt, hcell⟩ := hA.out (by omega)
 have c0 := hcell 0 (by omega)
 have c13 := hcell 13 (by omega)
 rw [Nat.add_zero] at c0
 have i2 : (0 : Int) < n := by omega
 have i3 : (13 : Int) < n := by omega
 have i4 : (16 : Int) ≤ c := by omega
 have i5 : ¬ (1500 : Int) < n := by omega
 have hk3 := kind_3 hk
 have k1 : ¬ g 0 < 1 := by omega
 have k2 : ¬ 3 < g 0 := by omega
 have e13 : (g 13 != 0) = false := by simpa using h13
 have HK3 := hid hk3
 have HG := hid hg
 clear hcell h hp hk hk3 HK3 h13 hg
 have hB_ : parseE g n = bodyE g n := by unfold parseE; rw [if_pos hne]
 clear hne
 have k3 : ¬ g 0 = 3 := by simpa using b3
 have b24 : decide ((n : Int) < 24) = false := by simp; omega
 have K2 : Hid (g 0 = 2) := hid (by simpa using b2)
 go_enter Tryz.func16, Tryz.ntmps16
 go_wp2_with fail
 refine (HN.out _ hA.out).mono ?_
 rintro x w' ⟨rfl, rfl⟩
 go_wp2_with fail
 refine (HRT.out _ hA.out _).mono ?_
 rintro x w' ⟨rfl, rfl⟩
 go_upto_region 11 with (fail)
 have CR2 := hid (Ce.made (w := w) (l := [.int .i64 0, .int .i64 0, .int .i64 0, .int .i64 0, .int .i64 0, .int .i64 0, .int .i64 0, .int .i64 0, .int .i64 0, .bool false, .int .i64 0, .slice none 0 0, .slice none 0 0]) (T := 39) rfl)
 have B2 := hid ((Below.refl w.heap.size w).alloc (Nat.le_refl _) (.cells #[.int .i64 0, .int .i64 0, .int .i64 0, .int .i64 0, .int .i64 0, .int .i64 0, .int .i64 0, .int .i64 0, .int .i64 0, .bool false, .int .i64 0, .slice none 0 0, .slice none 0 0] 39))
 have h2 := hA
 have lt2 := CR2.out.1
 simp only [List.toArray] at CR2
 clear c0 c13 HN HRT hA
 generalize w.alloc (.cells #[.int .i64 0, .int .i64 0, .int .i64 0, .int .i64 0, .int .i64 0, .int .i64 0, .int .i64 0, .int .i64 0, .int .i64 0, .bool false, .int .i64 0, .slice none 0 0, .slice none 0 0] 39) = w1 at *
 have hbw : b < w.heap.size := Sl.lt H00.out (by omega)
 have NUM := hid (fun (w' : World) (hw : By w' (some ⟨b, off, none⟩) n g) (a : Nat) (ha : a + 4 ≤ n) => rnum_any _ n c g w' hw HG.out a 4 (by omega) ha hb)
 have gb1 := HG.out 1
 have gb12 := HG.out 12
 obtain ⟨gb1a, gb1b⟩ := gb1
 obtain ⟨gb12a, gb12b⟩ := gb12
 have j1 : (12 : Int) < n := by omega
 have j2 : (1 : Int) < n := by omega
 have j3 : 0 < n := by omega
 have j4 : 1 < n := by omega
 have j5 : 12 < n := by omega
 have v0 : IntKind.i64.wrap (g 0) = g 0 := IntWalk.i64_in _ (by omega)
 have v1 : IntKind.i64.wrap (g 1) = g 1 := IntWalk.i64_in _ (by omega)
 have v2 : IntKind.i64.wrap (g 12) = g 12 := IntWalk.i64_in _ (by omega)
 go_cut [4] from 63 (fun p wx => ∃ L : Nat, p = .pointer (some ⟨L, 0, none⟩) ∧ w.heap.size < L ∧ Ce wx L [.int .i64 (g 0), .int .i64 (g 1), .int .i64 (g 12), .int .i64 (num g 4 4), .int .i64 (num g 8 4), .int .i64 0, .int .i64 0, .int .i64 0, .int .i64 0, .bool false, .int .i64 0, .slice none 0 0, .slice none 0 0] ∧ By wx (some ⟨b, off, none⟩) n g ∧ Ce wx w.heap.size [.int .i64 0, .int .i64 0, .int .i64 0, .int .i64 0, .int .i64 0, .int .i64 0, .int .i64 0, .int .i64 0, .int .i64 0, .bool false, .int .i64 0, .slice none 0 0, .slice none 0 0] ∧ Below w.heap.size w wx)
 case first =>
  refine wp_region_held_drew (S := fun w' => By w' (some ⟨b, off, none⟩) n g ∧ Ce w' w.heap.size [.int .i64 0, .int .i64 0, .int .i64 0, .int .i64 0, .int .i64 0, .int .i64 0, .int .i64 0, .int .i64 0, .int .i64 0, .bool false, .int .i64 0, .slice none 0 0, .slice none 0 0] ∧ Below w.heap.size w w') (by kernel_rfl) ?_ (fun hHeld => ?_)
  ·exact ⟨h2.out.drew, CR2.out, below_drewN B2.out 1⟩
  refine tkq 0 (by assumption) ?_
  refine tkq 1 (by assumption) ?_
  refine tkq 2 (by assumption) ?_ (hy := by intro w hSw; (try dsimp only at hSw); obtain ⟨hA, hC, hB⟩ := hSw; have z0 := hA.at_ (j := 0) (by omega); have z1 := hA.at_ (j := 1) (by omega); have z12 := hA.at_ (j := 12) (by omega); rw [Nat.add_zero] at z0; go_simp; (try with_reducible rfl))
  refine tkq 3 (by assumption) ?_
  refine tkq 4 (by assumption) ?_
  refine tkq 5 (by assumption) ?_
  refine tkq 6 (by assumption) ?_ (hy := by intro w hSw; (try dsimp only at hSw); obtain ⟨hA, hC, hB⟩ := hSw; have z0 := hA.at_ (j := 0) (by omega); have z1 := hA.at_ (j := 1) (by omega); have z12 := hA.at_ (j := 12) (by omega); rw [Nat.add_zero] at z0; go_simp; (try with_reducible rfl))
  refine tkq 7 (by assumption) ?_
  refine tkq 8 (by assumption) ?_
  refine tkq 9 (by assumption) ?_
  refine tkq 10 (by assumption) ?_ (hy := by intro w hSw; (try dsimp only at hSw); obtain ⟨hA, hC, hB⟩ := hSw; have z0 := hA.at_ (j := 0) (by omega); have z1 := hA.at_ (j := 1) (by omega); have z12 := hA.at_ (j := 12) (by omega); rw [Nat.add_zero] at z0; go_simp; (try with_reducible rfl))
  refine tkq 11 (by assumption) ?_
  refine tkq 12 (by assumption) ?_
  refine tkq 14 (by assumption) ?_
  refine twoUp 13 17 rfl rfl (by kernel_rfl) rfl rfl (fun K hK => ?_) (fun K hK => ?_)
  ·go_simp
   refine (NUM.out _ hHeld.1 4 (by omega)).mono ?_
   rintro e' w' ⟨rfl, rfl⟩
   try go_wp2_with fail
   refine hK.out _ _ hHeld (fun _ => ?_)
   clear hK
   try simp only [Act.put, List.setIfInBounds_toArray, List.set_cons_zero, List.set_cons_succ]
   refine twoUp 15 17 rfl rfl (by kernel_rfl) rfl rfl (fun K hK => ?_) (fun K hK => ?_)
   ·go_simp
    refine (NUM.out _ hHeld.1 8 (by omega)).mono ?_
    rintro e' w' ⟨rfl, rfl⟩
    try go_wp2_with fail
    refine hK.out _ _ hHeld (fun _ => ?_)
    clear hK
    try simp only [Act.put, List.setIfInBounds_toArray, List.set_cons_zero, List.set_cons_succ]
    refine tkq 16 (by assumption) ?_
    refine only 17 rfl (by kernel_rfl) rfl (fun K hK => ?_)
    go_simp
    refine hK.out _ _ ⟨hHeld.1.alloc _, hHeld.2.1.alloc _, hHeld.2.2.alloc hHeld.2.2.size _⟩ (fun hHeld2 => ?_)
    clear hK
    try simp only [Act.put, List.setIfInBounds_toArray, List.set_cons_zero, List.set_cons_succ]
    refine only 18 rfl (by kernel_rfl) rfl (fun K hK => ?_)
    go_simp
    refine hK.out _ _ ⟨hHeld.1.alloc _, hHeld.2.1.alloc _, hHeld.2.2.alloc hHeld.2.2.size _⟩ (fun _ => ?_)
    clear hK
    try simp only [Act.put, List.setIfInBounds_toArray, List.set_cons_zero, List.set_cons_succ]
    refine wpAnyH_done (by kernel_rfl) ?_ _
    go_wp2_with fail
    go_meet
    exact ⟨_, rfl, lt2, (Ce.made (w := w1) (l := [.int .i64 (g 0), .int .i64 (g 1), .int .i64 (g 12), .int .i64 (num g 4 4), .int .i64 (num g 8 4), .int .i64 0, .int .i64 0, .int .i64 0, .int .i64 0, .bool false, .int .i64 0, .slice none 0 0, .slice none 0 0]) rfl).drew_, (h2.out.alloc _).drew, (CR2.out.alloc _).drew_, (B2.out.alloc B2.out.size _).drew⟩
   ·go_simp
    refine hK.out _ _ ⟨hHeld.1.alloc _, hHeld.2.1.alloc _, hHeld.2.2.alloc hHeld.2.2.size _⟩ (fun hHeld2 => ?_)
    clear hK
    try simp only [Act.put, List.setIfInBounds_toArray, List.set_cons_zero, List.set_cons_succ]
    refine only 15 rfl (by kernel_rfl) rfl (fun K hK => ?_)
    go_simp
    refine (NUM.out _ hHeld2.1 8 (by omega)).mono ?_
    rintro e' w' ⟨rfl, rfl⟩
    try go_wp2_with fail
    refine hK.out _ _ hHeld2 (fun _ => ?_)
    clear hK
    try simp only [Act.put, List.setIfInBounds_toArray, List.set_cons_zero, List.set_cons_succ]
    refine tkq 16 (by assumption) ?_
    refine only 18 rfl (by kernel_rfl) rfl (fun K hK => ?_)
    go_simp
    refine hK.out _ _ ⟨hHeld.1.alloc _, hHeld.2.1.alloc _, hHeld.2.2.alloc hHeld.2.2.size _⟩ (fun _ => ?_)
    clear hK
    try simp only [Act.put, List.setIfInBounds_toArray, List.set_cons_zero, List.set_cons_succ]
    refine wpAnyH_done (by kernel_rfl) ?_ _
    go_wp2_with fail
    go_meet
    exact ⟨_, rfl, lt2, (Ce.made (w := w1) (l := [.int .i64 (g 0), .int .i64 (g 1), .int .i64 (g 12), .int .i64 (num g 4 4), .int .i64 (num g 8 4), .int .i64 0, .int .i64 0, .int .i64 0, .int .i64 0, .bool false, .int .i64 0, .slice none 0 0, .slice none 0 0]) rfl).drew_, (h2.out.alloc _).drew, (CR2.out.alloc _).drew_, (B2.out.alloc B2.out.size _).drew⟩
  ·go_simp
   refine hK.out _ _ ⟨hHeld.1.alloc _, hHeld.2.1.alloc _, hHeld.2.2.alloc hHeld.2.2.size _⟩ (fun hHeld2 => ?_)
   clear hK
   try simp only [Act.put, List.setIfInBounds_toArray, List.set_cons_zero, List.set_cons_succ]
   refine only 13 rfl (by kernel_rfl) rfl (fun K hK => ?_)
   go_simp
   refine (NUM.out _ hHeld2.1 4 (by omega)).mono ?_
   rintro e' w' ⟨rfl, rfl⟩
   try go_wp2_with fail
   refine hK.out _ _ hHeld2 (fun _ => ?_)
   clear hK
   try simp only [Act.put, List.setIfInBounds_toArray, List.set_cons_zero, List.set_cons_succ]
   refine only 15 rfl (by kernel_rfl) rfl (fun K hK => ?_)
   go_simp
   refine (NUM.out _ hHeld2.1 8 (by omega)).mono ?_
   rintro e' w' ⟨rfl, rfl⟩
   try go_wp2_with fail
   refine hK.out _ _ hHeld2 (fun _ => ?_)
   clear hK
   try simp only [Act.put, List.setIfInBounds_toArray, List.set_cons_zero, List.set_cons_succ]
   refine tkq 16 (by assumption) ?_
   refine only 18 rfl (by kernel_rfl) rfl (fun K hK => ?_)
   go_simp
   refine hK.out _ _ ⟨hHeld.1.alloc _, hHeld.2.1.alloc _, hHeld.2.2.alloc hHeld.2.2.size _⟩ (fun _ => ?_)
   clear hK
   try simp only [Act.put, List.setIfInBounds_toArray, List.set_cons_zero, List.set_cons_succ]
   refine wpAnyH_done (by kernel_rfl) ?_ _
   go_wp2_with fail
   go_meet
   exact ⟨_, rfl, lt2, (Ce.made (w := w1) (l := [.int .i64 (g 0), .int .i64 (g 1), .int .i64 (g 12), .int .i64 (num g 4 4), .int .i64 (num g 8 4), .int .i64 0, .int .i64 0, .int .i64 0, .int .i64 0, .bool false, .int .i64 0, .slice none 0 0, .slice none 0 0]) rfl).drew_, (h2.out.alloc _).drew, (CR2.out.alloc _).drew_, (B2.out.alloc B2.out.size _).drew⟩
 case rest =>
  obtain ⟨L, rfl, hL, hCL, hA, hCR, hB⟩ := hcut
  replace hCL := hid hCL
  replace hCR := hid hCR
  replace hA := hid hA
  replace hB := hid hB
  have HLR : L ≠ w.heap.size := Nat.ne_of_gt hL
  have HRL : w.heap.size ≠ L := Nat.ne_of_lt hL
  have hBlt : b ≠ L := by omega
  have hBR : b ≠ w.heap.size := by omega
  clear CR2 B2 h2 lt2 H00
  have hPE : parseE g n = 0 := by rw [hB_]; unfold bodyE; rw [if_neg k3, if_neg (by omega), if_neg (fun e => by have := e.1; have := K2.out; omega)]
  have HP2 : Hid (parseR g n = { kind := g 0, life := g 1, piece := g 12, src := num g 4 4, dst := num g 8 4, fp := num g 16 2, tp := num g 18 2, label := num g 20 2, bare := num g 22 2 == 0, nd := n - 24, gd := fun j => g (24 + j) }) := hid (by unfold parseR; rw [hPE, if_pos rfl]; unfold parseP; rw [if_neg k3, if_pos K2.out])
  have HE := hid hPE
  clear hPE hB_ b24 k3
  obtain ⟨A9, r1, r2⟩ := cut_from_b (some ⟨b, off, none⟩) n c 24 n24 hc 24 rfl
  replace r2 := hid r2
  have NUM2 := hid (fun (w' : World) (hw : By w' (some ⟨b, off, none⟩) n g) (a : Nat) (ha : a + 2 ≤ n) => rnum_any _ n c g w' hw HG.out a 2 (by omega) ha hb)
  have y0 := hCL.out.2.1 0 _ rfl
  have y1 := hCL.out.2.1 1 _ rfl
  have y2 := hCL.out.2.1 2 _ rfl
  have y3 := hCL.out.2.1 3 _ rfl
  have y4 := hCL.out.2.1 4 _ rfl
  have y5 := hCL.out.2.1 5 _ rfl
  have y6 := hCL.out.2.1 6 _ rfl
  have y7 := hCL.out.2.1 7 _ rfl
  have y8 := hCL.out.2.1 8 _ rfl
  have y9 := hCL.out.2.1 9 _ rfl
  have y10 := hCL.out.2.1 10 _ rfl
  have y11 := hCL.out.2.1 11 _ rfl
  have y12 := hCL.out.2.1 12 _ rfl
  have yf := hCL.out.2.2
  have yl := hCL.out.1
  go_wp2_with fail
  refine (NUM2.out _ hA.out 16 (by omega)).mono ?_
  rintro x w' ⟨rfl, rfl⟩
  go_wp2_with fail
  refine (NUM2.out _ hA.out 18 (by omega)).mono ?_
  rintro x w' ⟨rfl, rfl⟩
  have C2 := hid (((hCL.out).set 5 (.int .i64 (num g 16 2)) (by simp)).set 6 (.int .i64 (num g 18 2)) (by simp))
  have R2 := hid (hCR.out.grown (gs 6 (.int .i64 (num g 18 2)) (gs 5 (.int .i64 (num g 16 2)) (World.grownBy.refl wc (some L)))) (fun e => HLR (by injection e)))
  have A2 := hid (grow_by hA.out (gs 6 (.int .i64 (num g 18 2)) (gs 5 (.int .i64 (num g 16 2)) (World.grownBy.refl wc (some L)))) hBlt)
  have D2 := hid (((hB.out).setCell (p := ⟨L, 5, none⟩) (Nat.le_of_lt hL) (.int .i64 (num g 16 2))).setCell (p := ⟨L, 6, none⟩) (Nat.le_of_lt hL) (.int .i64 (num g 18 2)))
  go_upto_region 19 with (fail)
  clear y0 y1 y2 y3 y4 y5 y6 y7 y8 y9 y10 y11 y12 yf yl hCL hCR hA hB
  generalize ((wc.setCell ⟨L, 5, none⟩ (.int .i64 (num g 16 2))).setCell ⟨L, 6, none⟩ (.int .i64 (num g 18 2))) = wq at *
  have C2q := C2.out.drew_
  refine wp_region_held_drew (S := fun w' => By w' (some ⟨b, off, none⟩) n g ∧ Ce w' w.heap.size [.int .i64 0, .int .i64 0, .int .i64 0, .int .i64 0, .int .i64 0, .int .i64 0, .int .i64 0, .int .i64 0, .int .i64 0, .bool false, .int .i64 0, .slice none 0 0, .slice none 0 0] ∧ Below w.heap.size w w') (by kernel_rfl) ?_ (fun hHeld => ?_)
  ·exact ⟨A2.out.drew, R2.out, below_drewN D2.out 1⟩
  clear A2 R2 D2 C2
  refine tkq 0 (by assumption) ?_
  refine tkq 2 (by assumption) ?_
  refine tkq 6 (by assumption) ?_
  refine tkq 7 (by assumption) ?_
  refine twoUp 1 5 rfl rfl (by kernel_rfl) rfl rfl (fun K hK => ?_) (fun K hK => ?_)
  ·go_simp
   refine (NUM2.out _ hHeld.1 20 (by omega)).mono ?_
   rintro e' w' ⟨rfl, rfl⟩
   try go_wp2_with fail
   refine hK.out _ _ hHeld (fun _ => ?_)
   clear hK
   try simp only [Act.put, List.setIfInBounds_toArray, List.set_cons_zero, List.set_cons_succ]
   refine tkq 9 (by assumption) ?_
   refine twoUp 3 5 rfl rfl (by kernel_rfl) rfl rfl (fun K hK => ?_) (fun K hK => ?_)
   ·go_simp
    refine (NUM2.out _ hHeld.1 22 (by omega)).mono ?_
    rintro e' w' ⟨rfl, rfl⟩
    try go_wp2_with fail
    refine hK.out _ _ hHeld (fun _ => ?_)
    clear hK
    try simp only [Act.put, List.setIfInBounds_toArray, List.set_cons_zero, List.set_cons_succ]
    refine tkq 4 (by assumption) ?_
    refine only 5 rfl (by kernel_rfl) rfl (fun K hK => ?_)
    go_simp
    have h6 : By ((wq.alloc (.cells #[] 5)).drew) (some ⟨b, off, none⟩) n g ∧ Ce ((wq.alloc (.cells #[] 5)).drew) w.heap.size [.int .i64 0, .int .i64 0, .int .i64 0, .int .i64 0, .int .i64 0, .int .i64 0, .int .i64 0, .int .i64 0, .int .i64 0, .bool false, .int .i64 0, .slice none 0 0, .slice none 0 0] ∧ Below w.heap.size w ((wq.alloc (.cells #[] 5)).drew) := ⟨hHeld.1.alloc _, hHeld.2.1.alloc _, hHeld.2.2.alloc hHeld.2.2.size _⟩
    have C6_ : Ce ((wq.alloc (.cells #[] 5)).drew) L [.int .i64 (g 0), .int .i64 (g 1), .int .i64 (g 12), .int .i64 (num g 4 4), .int .i64 (num g 8 4), .int .i64 (num g 16 2), .int .i64 (num g 18 2), .int .i64 0, .int .i64 0, .bool false, .int .i64 0, .slice none 0 0, .slice none 0 0] := C2q.alloc (.cells #[] 5)
    have e6 : ∀ f, Ow ((wq.alloc (.cells #[] 5)).drew) wq.heap.size 5 1 (.slice (some ⟨wq.heap.size, 0, none⟩) 0 0) 0 f := fun f => Ow.new' (w := wq.drew) rfl
    have l6 : L < wq.heap.size := C2q.1
    have s6 : ((wq.alloc (.cells #[] 5)).drew).heap.size = wq.heap.size + 1 := by simp
    refine hK.out _ _ h6 (fun _ => ?_)
    clear hK
    try simp only [Act.put, List.setIfInBounds_toArray, List.set_cons_zero, List.set_cons_succ]
    generalize ((wq.alloc (.cells #[] 5)).drew) = w6 at *
    generalize wq.heap.size = E6 at *
    refine only 8 rfl (by kernel_rfl) rfl (fun K hK => ?_)
    refine wpo_b1 rfl (.tmp 113) (.tmp 115) rfl E6 rfl e6 (by omega) _ (n - 24) _ (fun j => g (24 + j)) rfl (r2.out _ g h6.1) (by omega) ?_
    intro A7 c7 w7 o7 g7 q7
    have h7 : By w7 (some ⟨b, off, none⟩) n g ∧ Ce w7 w.heap.size [.int .i64 0, .int .i64 0, .int .i64 0, .int .i64 0, .int .i64 0, .int .i64 0, .int .i64 0, .int .i64 0, .int .i64 0, .bool false, .int .i64 0, .slice none 0 0, .slice none 0 0] ∧ Below w.heap.size w w7 := ⟨grow_by h6.1 g7 (by omega), h6.2.1.grown g7 (fun e => by injection e with e; omega), h6.2.2.trans (below_of_grown g7 (by omega) h6.2.2.size)⟩
    have C7_ := C6_.grown g7 (fun e => by injection e with e; omega)
    have s7 := g7.size
    refine hK.out _ _ h7 (fun _ => ?_)
    clear hK
    try simp only [Act.put, List.setIfInBounds_toArray, List.set_cons_zero, List.set_cons_succ]
    have CC := hid C7_
    have y0 := CC.out.2.1 0 _ rfl
    have y1 := CC.out.2.1 1 _ rfl
    have y2 := CC.out.2.1 2 _ rfl
    have y3 := CC.out.2.1 3 _ rfl
    have y4 := CC.out.2.1 4 _ rfl
    have y5 := CC.out.2.1 5 _ rfl
    have y6 := CC.out.2.1 6 _ rfl
    have y7 := CC.out.2.1 7 _ rfl
    have y8 := CC.out.2.1 8 _ rfl
    have y9 := CC.out.2.1 9 _ rfl
    have y10 := CC.out.2.1 10 _ rfl
    have y11 := CC.out.2.1 11 _ rfl
    have y12 := CC.out.2.1 12 _ rfl
    have yf := CC.out.2.2
    have yl := CC.out.1
    have HH := hid h7
    refine only 10 rfl (by kernel_rfl) rfl (fun K hK => ?_)
    go_simp
    refine hK.out _ _ ⟨grow_by HH.out.1 (gs 8 (.int .i64 (num g 20 2)) (World.grownBy.refl w7 (some L))) hBlt, HH.out.2.1.grown (gs 8 (.int .i64 (num g 20 2)) (World.grownBy.refl w7 (some L))) (fun e => HLR (by injection e)), (HH.out.2.2).setCell (p := ⟨L, 8, none⟩) (Nat.le_of_lt hL) (.int .i64 (num g 20 2))⟩ (fun hN0 => ?_)
    clear hK
    try simp only [Act.put, List.setIfInBounds_toArray, List.set_cons_zero, List.set_cons_succ]
    refine tkq 11 hN0 ?_
    clear hN0
    refine only 12 rfl (by kernel_rfl) rfl (fun K hK => ?_)
    go_simp
    refine hK.out _ _ ⟨grow_by HH.out.1 (gs 9 (.bool (num g 22 2 == 0)) (gs 8 (.int .i64 (num g 20 2)) (World.grownBy.refl w7 (some L)))) hBlt, HH.out.2.1.grown (gs 9 (.bool (num g 22 2 == 0)) (gs 8 (.int .i64 (num g 20 2)) (World.grownBy.refl w7 (some L)))) (fun e => HLR (by injection e)), ((HH.out.2.2).setCell (p := ⟨L, 8, none⟩) (Nat.le_of_lt hL) (.int .i64 (num g 20 2))).setCell (p := ⟨L, 9, none⟩) (Nat.le_of_lt hL) (.bool (num g 22 2 == 0))⟩ (fun hN1 => ?_)
    clear hK
    try simp only [Act.put, List.setIfInBounds_toArray, List.set_cons_zero, List.set_cons_succ]
    refine tkq 13 hN1 ?_
    clear hN1
    refine only 14 rfl (by kernel_rfl) rfl (fun K hK => ?_)
    go_simp
    refine hK.out _ _ ⟨grow_by HH.out.1 (gs 12 (.slice A7 (n - 24) c7) (gs 9 (.bool (num g 22 2 == 0)) (gs 8 (.int .i64 (num g 20 2)) (World.grownBy.refl w7 (some L))))) hBlt, HH.out.2.1.grown (gs 12 (.slice A7 (n - 24) c7) (gs 9 (.bool (num g 22 2 == 0)) (gs 8 (.int .i64 (num g 20 2)) (World.grownBy.refl w7 (some L))))) (fun e => HLR (by injection e)), (((HH.out.2.2).setCell (p := ⟨L, 8, none⟩) (Nat.le_of_lt hL) (.int .i64 (num g 20 2))).setCell (p := ⟨L, 9, none⟩) (Nat.le_of_lt hL) (.bool (num g 22 2 == 0))).setCell (p := ⟨L, 12, none⟩) (Nat.le_of_lt hL) (.slice A7 (n - 24) c7)⟩ (fun hN2 => ?_)
    clear hK
    try simp only [Act.put, List.setIfInBounds_toArray, List.set_cons_zero, List.set_cons_succ]
    refine wpAnyH_done (by kernel_rfl) ?_ _
    have C77 := hid ((((CC.out).set 8 (.int .i64 (num g 20 2)) (by simp)).set 9 (.bool (num g 22 2 == 0)) (by simp)).set 12 (.slice A7 (n - 24) c7) (by simp))
    have R77 := hid (HH.out.2.1.grown (gs 12 (.slice A7 (n - 24) c7) (gs 9 (.bool (num g 22 2 == 0)) (gs 8 (.int .i64 (num g 20 2)) (World.grownBy.refl w7 (some L))))) (fun e => HLR (by injection e)))
    have D77 := hid ((((HH.out.2.2).setCell (p := ⟨L, 8, none⟩) (Nat.le_of_lt hL) (.int .i64 (num g 20 2))).setCell (p := ⟨L, 9, none⟩) (Nat.le_of_lt hL) (.bool (num g 22 2 == 0))).setCell (p := ⟨L, 12, none⟩) (Nat.le_of_lt hL) (.slice A7 (n - 24) c7))
    have OO0 := hid (OB.grown o7 (gs 12 (.slice A7 (n - 24) c7) (gs 9 (.bool (num g 22 2 == 0)) (gs 8 (.int .i64 (num g 20 2)) (World.grownBy.refl w7 (some L))))) (OB.ne o7 l6))
    clear hN2
    clear y0 y1 y2 y3 y4 y5 y6 y7 y8 y9 y10 y11 y12 yf yl
    generalize (((w7.setCell ⟨L, 8, none⟩ (.int .i64 (num g 20 2))).setCell ⟨L, 9, none⟩ (.bool (num g 22 2 == 0))).setCell ⟨L, 12, none⟩ (.slice A7 (n - 24) c7)) = w8 at *
    have y0 := C77.out.2.1 0 _ rfl
    have y1 := C77.out.2.1 1 _ rfl
    have y2 := C77.out.2.1 2 _ rfl
    have y3 := C77.out.2.1 3 _ rfl
    have y4 := C77.out.2.1 4 _ rfl
    have y5 := C77.out.2.1 5 _ rfl
    have y6 := C77.out.2.1 6 _ rfl
    have y7 := C77.out.2.1 7 _ rfl
    have y8 := C77.out.2.1 8 _ rfl
    have y9 := C77.out.2.1 9 _ rfl
    have y10 := C77.out.2.1 10 _ rfl
    have y11 := C77.out.2.1 11 _ rfl
    have y12 := C77.out.2.1 12 _ rfl
    have yf := C77.out.2.2
    have yl := C77.out.1
    have z0 := R77.out.2.1 0 _ rfl
    have z1 := R77.out.2.1 1 _ rfl
    have z2 := R77.out.2.1 2 _ rfl
    have z3 := R77.out.2.1 3 _ rfl
    have z4 := R77.out.2.1 4 _ rfl
    have z5 := R77.out.2.1 5 _ rfl
    have z6 := R77.out.2.1 6 _ rfl
    have z7 := R77.out.2.1 7 _ rfl
    have z8 := R77.out.2.1 8 _ rfl
    have z9 := R77.out.2.1 9 _ rfl
    have z10 := R77.out.2.1 10 _ rfl
    have z11 := R77.out.2.1 11 _ rfl
    have z12 := R77.out.2.1 12 _ rfl
    have zf := R77.out.2.2
    have zl := R77.out.1
    go_wp2_with fail
    have CE := (R77.out).s13 (.int .i64 (g 0)) (.int .i64 (g 1)) (.int .i64 (g 12)) (.int .i64 (num g 4 4)) (.int .i64 (num g 8 4)) (.int .i64 (num g 16 2)) (.int .i64 (num g 18 2)) (.int .i64 0) (.int .i64 (num g 20 2)) (.bool (num g 22 2 == 0)) (.int .i64 0) (.slice none 0 0) (.slice A7 (n - 24) c7)
    have BE := below_s13 (b := w.heap.size) (D77.out) (Nat.le_refl _) (.int .i64 (g 0)) (.int .i64 (g 1)) (.int .i64 (g 12)) (.int .i64 (num g 4 4)) (.int .i64 (num g 8 4)) (.int .i64 (num g 16 2)) (.int .i64 (num g 18 2)) (.int .i64 0) (.int .i64 (num g 20 2)) (.bool (num g 22 2 == 0)) (.int .i64 0) (.slice none 0 0) (.slice A7 (n - 24) c7)
    have OE0 := OB.grown (OO0.out) (grown_s13 _ w.heap.size (.int .i64 (g 0)) (.int .i64 (g 1)) (.int .i64 (g 12)) (.int .i64 (num g 4 4)) (.int .i64 (num g 8 4)) (.int .i64 (num g 16 2)) (.int .i64 (num g 18 2)) (.int .i64 0) (.int .i64 (num g 20 2)) (.bool (num g 22 2 == 0)) (.int .i64 0) (.slice none 0 0) (.slice A7 (n - 24) c7)) (OB.ne (OO0.out) (by omega))
    unfold S13 at CE BE OE0
    replace CE := hid CE
    replace BE := hid BE
    replace OE0 := hid OE0
    refine at_world (fun w' => Ce w' w.heap.size [.int .i64 (g 0), .int .i64 (g 1), .int .i64 (g 12), .int .i64 (num g 4 4), .int .i64 (num g 8 4), .int .i64 (num g 16 2), .int .i64 (num g 18 2), .int .i64 0, .int .i64 (num g 20 2), .bool (num g 22 2 == 0), .int .i64 0, .slice none 0 0, .slice A7 (n - 24) c7] ∧ Below w.heap.size w w' ∧ OB w' E6 (.slice A7 (n - 24) c7) (n - 24) (fun j => g (24 + j))) ⟨CE.out, BE.out, OE0.out⟩ (fun wf hwf => ?_)
    obtain ⟨hc2, hbf, ho0⟩ := hwf
    have x0 := hc2.2.1 0 _ rfl
    have x1 := hc2.2.1 1 _ rfl
    have x2 := hc2.2.1 2 _ rfl
    have x3 := hc2.2.1 3 _ rfl
    have x4 := hc2.2.1 4 _ rfl
    have x5 := hc2.2.1 5 _ rfl
    have x6 := hc2.2.1 6 _ rfl
    have x7 := hc2.2.1 7 _ rfl
    have x8 := hc2.2.1 8 _ rfl
    have x9 := hc2.2.1 9 _ rfl
    have x10 := hc2.2.1 10 _ rfl
    have x11 := hc2.2.1 11 _ rfl
    have x12 := hc2.2.1 12 _ rfl
    refine bodyPost_ret (v := .tuple #[.agg #[.int .i64 (g 0), .int .i64 (g 1), .int .i64 (g 12), .int .i64 (num g 4 4), .int .i64 (num g 8 4), .int .i64 (num g 16 2), .int .i64 (num g 18 2), .int .i64 0, .int .i64 (num g 20 2), .bool (num g 22 2 == 0), .int .i64 0, .slice none 0 0, .slice A7 (n - 24) c7], .int .i64 0]) (by simp [results, Tryz.results16, go_sem, x0, x1, x2, x3, x4, x5, x6, x7, x8, x9, x10, x11, x12]) rfl ?_
    exact ⟨.slice none 0 0, (.slice A7 (n - 24) c7), by rw [HP2.out, HE.out]; rfl, by rw [HP2.out]; exact OB.nil, by rw [HP2.out]; exact OB.base ho0 (by omega), hbf⟩
   ·go_simp
    have h6 : By ((wq.alloc (.cells #[] 5)).drew) (some ⟨b, off, none⟩) n g ∧ Ce ((wq.alloc (.cells #[] 5)).drew) w.heap.size [.int .i64 0, .int .i64 0, .int .i64 0, .int .i64 0, .int .i64 0, .int .i64 0, .int .i64 0, .int .i64 0, .int .i64 0, .bool false, .int .i64 0, .slice none 0 0, .slice none 0 0] ∧ Below w.heap.size w ((wq.alloc (.cells #[] 5)).drew) := ⟨hHeld.1.alloc _, hHeld.2.1.alloc _, hHeld.2.2.alloc hHeld.2.2.size _⟩
    have C6_ : Ce ((wq.alloc (.cells #[] 5)).drew) L [.int .i64 (g 0), .int .i64 (g 1), .int .i64 (g 12), .int .i64 (num g 4 4), .int .i64 (num g 8 4), .int .i64 (num g 16 2), .int .i64 (num g 18 2), .int .i64 0, .int .i64 0, .bool false, .int .i64 0, .slice none 0 0, .slice none 0 0] := C2q.alloc (.cells #[] 5)
    have e6 : ∀ f, Ow ((wq.alloc (.cells #[] 5)).drew) wq.heap.size 5 1 (.slice (some ⟨wq.heap.size, 0, none⟩) 0 0) 0 f := fun f => Ow.new' (w := wq.drew) rfl
    have l6 : L < wq.heap.size := C2q.1
    have s6 : ((wq.alloc (.cells #[] 5)).drew).heap.size = wq.heap.size + 1 := by simp
    refine hK.out _ _ h6 (fun _ => ?_)
    clear hK
    try simp only [Act.put, List.setIfInBounds_toArray, List.set_cons_zero, List.set_cons_succ]
    generalize ((wq.alloc (.cells #[] 5)).drew) = w6 at *
    generalize wq.heap.size = E6 at *
    refine only 3 rfl (by kernel_rfl) rfl (fun K hK => ?_)
    go_simp
    refine (NUM2.out _ h6.1 22 (by omega)).mono ?_
    rintro e' w' ⟨rfl, rfl⟩
    try go_wp2_with fail
    refine hK.out _ _ h6 (fun _ => ?_)
    clear hK
    try simp only [Act.put, List.setIfInBounds_toArray, List.set_cons_zero, List.set_cons_succ]
    refine tkq 4 (by assumption) ?_
    refine only 8 rfl (by kernel_rfl) rfl (fun K hK => ?_)
    refine wpo_b1 rfl (.tmp 113) (.tmp 115) rfl E6 rfl e6 (by omega) _ (n - 24) _ (fun j => g (24 + j)) rfl (r2.out _ g h6.1) (by omega) ?_
    intro A7 c7 w7 o7 g7 q7
    have h7 : By w7 (some ⟨b, off, none⟩) n g ∧ Ce w7 w.heap.size [.int .i64 0, .int .i64 0, .int .i64 0, .int .i64 0, .int .i64 0, .int .i64 0, .int .i64 0, .int .i64 0, .int .i64 0, .bool false, .int .i64 0, .slice none 0 0, .slice none 0 0] ∧ Below w.heap.size w w7 := ⟨grow_by h6.1 g7 (by omega), h6.2.1.grown g7 (fun e => by injection e with e; omega), h6.2.2.trans (below_of_grown g7 (by omega) h6.2.2.size)⟩
    have C7_ := C6_.grown g7 (fun e => by injection e with e; omega)
    have s7 := g7.size
    refine hK.out _ _ h7 (fun _ => ?_)
    clear hK
    try simp only [Act.put, List.setIfInBounds_toArray, List.set_cons_zero, List.set_cons_succ]
    have CC := hid C7_
    have y0 := CC.out.2.1 0 _ rfl
    have y1 := CC.out.2.1 1 _ rfl
    have y2 := CC.out.2.1 2 _ rfl
    have y3 := CC.out.2.1 3 _ rfl
    have y4 := CC.out.2.1 4 _ rfl
    have y5 := CC.out.2.1 5 _ rfl
    have y6 := CC.out.2.1 6 _ rfl
    have y7 := CC.out.2.1 7 _ rfl
    have y8 := CC.out.2.1 8 _ rfl
    have y9 := CC.out.2.1 9 _ rfl
    have y10 := CC.out.2.1 10 _ rfl
    have y11 := CC.out.2.1 11 _ rfl
    have y12 := CC.out.2.1 12 _ rfl
    have yf := CC.out.2.2
    have yl := CC.out.1
    have HH := hid h7
    refine only 10 rfl (by kernel_rfl) rfl (fun K hK => ?_)
    go_simp
    refine hK.out _ _ ⟨grow_by HH.out.1 (gs 8 (.int .i64 (num g 20 2)) (World.grownBy.refl w7 (some L))) hBlt, HH.out.2.1.grown (gs 8 (.int .i64 (num g 20 2)) (World.grownBy.refl w7 (some L))) (fun e => HLR (by injection e)), (HH.out.2.2).setCell (p := ⟨L, 8, none⟩) (Nat.le_of_lt hL) (.int .i64 (num g 20 2))⟩ (fun hN0 => ?_)
    clear hK
    try simp only [Act.put, List.setIfInBounds_toArray, List.set_cons_zero, List.set_cons_succ]
    refine tkq 11 hN0 ?_
    clear hN0
    refine only 12 rfl (by kernel_rfl) rfl (fun K hK => ?_)
    go_simp
    refine hK.out _ _ ⟨grow_by HH.out.1 (gs 9 (.bool (num g 22 2 == 0)) (gs 8 (.int .i64 (num g 20 2)) (World.grownBy.refl w7 (some L)))) hBlt, HH.out.2.1.grown (gs 9 (.bool (num g 22 2 == 0)) (gs 8 (.int .i64 (num g 20 2)) (World.grownBy.refl w7 (some L)))) (fun e => HLR (by injection e)), ((HH.out.2.2).setCell (p := ⟨L, 8, none⟩) (Nat.le_of_lt hL) (.int .i64 (num g 20 2))).setCell (p := ⟨L, 9, none⟩) (Nat.le_of_lt hL) (.bool (num g 22 2 == 0))⟩ (fun hN1 => ?_)
    clear hK
    try simp only [Act.put, List.setIfInBounds_toArray, List.set_cons_zero, List.set_cons_succ]
    refine tkq 13 hN1 ?_
    clear hN1
    refine only 14 rfl (by kernel_rfl) rfl (fun K hK => ?_)
    go_simp
    refine hK.out _ _ ⟨grow_by HH.out.1 (gs 12 (.slice A7 (n - 24) c7) (gs 9 (.bool (num g 22 2 == 0)) (gs 8 (.int .i64 (num g 20 2)) (World.grownBy.refl w7 (some L))))) hBlt, HH.out.2.1.grown (gs 12 (.slice A7 (n - 24) c7) (gs 9 (.bool (num g 22 2 == 0)) (gs 8 (.int .i64 (num g 20 2)) (World.grownBy.refl w7 (some L))))) (fun e => HLR (by injection e)), (((HH.out.2.2).setCell (p := ⟨L, 8, none⟩) (Nat.le_of_lt hL) (.int .i64 (num g 20 2))).setCell (p := ⟨L, 9, none⟩) (Nat.le_of_lt hL) (.bool (num g 22 2 == 0))).setCell (p := ⟨L, 12, none⟩) (Nat.le_of_lt hL) (.slice A7 (n - 24) c7)⟩ (fun hN2 => ?_)
    clear hK
    try simp only [Act.put, List.setIfInBounds_toArray, List.set_cons_zero, List.set_cons_succ]
    refine wpAnyH_done (by kernel_rfl) ?_ _
    have C77 := hid ((((CC.out).set 8 (.int .i64 (num g 20 2)) (by simp)).set 9 (.bool (num g 22 2 == 0)) (by simp)).set 12 (.slice A7 (n - 24) c7) (by simp))
    have R77 := hid (HH.out.2.1.grown (gs 12 (.slice A7 (n - 24) c7) (gs 9 (.bool (num g 22 2 == 0)) (gs 8 (.int .i64 (num g 20 2)) (World.grownBy.refl w7 (some L))))) (fun e => HLR (by injection e)))
    have D77 := hid ((((HH.out.2.2).setCell (p := ⟨L, 8, none⟩) (Nat.le_of_lt hL) (.int .i64 (num g 20 2))).setCell (p := ⟨L, 9, none⟩) (Nat.le_of_lt hL) (.bool (num g 22 2 == 0))).setCell (p := ⟨L, 12, none⟩) (Nat.le_of_lt hL) (.slice A7 (n - 24) c7))
    have OO0 := hid (OB.grown o7 (gs 12 (.slice A7 (n - 24) c7) (gs 9 (.bool (num g 22 2 == 0)) (gs 8 (.int .i64 (num g 20 2)) (World.grownBy.refl w7 (some L))))) (OB.ne o7 l6))
    clear hN2
    clear y0 y1 y2 y3 y4 y5 y6 y7 y8 y9 y10 y11 y12 yf yl
    generalize (((w7.setCell ⟨L, 8, none⟩ (.int .i64 (num g 20 2))).setCell ⟨L, 9, none⟩ (.bool (num g 22 2 == 0))).setCell ⟨L, 12, none⟩ (.slice A7 (n - 24) c7)) = w8 at *
    have y0 := C77.out.2.1 0 _ rfl
    have y1 := C77.out.2.1 1 _ rfl
    have y2 := C77.out.2.1 2 _ rfl
    have y3 := C77.out.2.1 3 _ rfl
    have y4 := C77.out.2.1 4 _ rfl
    have y5 := C77.out.2.1 5 _ rfl
    have y6 := C77.out.2.1 6 _ rfl
    have y7 := C77.out.2.1 7 _ rfl
    have y8 := C77.out.2.1 8 _ rfl
    have y9 := C77.out.2.1 9 _ rfl
    have y10 := C77.out.2.1 10 _ rfl
    have y11 := C77.out.2.1 11 _ rfl
    have y12 := C77.out.2.1 12 _ rfl
    have yf := C77.out.2.2
    have yl := C77.out.1
    have z0 := R77.out.2.1 0 _ rfl
    have z1 := R77.out.2.1 1 _ rfl
    have z2 := R77.out.2.1 2 _ rfl
    have z3 := R77.out.2.1 3 _ rfl
    have z4 := R77.out.2.1 4 _ rfl
    have z5 := R77.out.2.1 5 _ rfl
    have z6 := R77.out.2.1 6 _ rfl
    have z7 := R77.out.2.1 7 _ rfl
    have z8 := R77.out.2.1 8 _ rfl
    have z9 := R77.out.2.1 9 _ rfl
    have z10 := R77.out.2.1 10 _ rfl
    have z11 := R77.out.2.1 11 _ rfl
    have z12 := R77.out.2.1 12 _ rfl
    have zf := R77.out.2.2
    have zl := R77.out.1
    go_wp2_with fail
    have CE := (R77.out).s13 (.int .i64 (g 0)) (.int .i64 (g 1)) (.int .i64 (g 12)) (.int .i64 (num g 4 4)) (.int .i64 (num g 8 4)) (.int .i64 (num g 16 2)) (.int .i64 (num g 18 2)) (.int .i64 0) (.int .i64 (num g 20 2)) (.bool (num g 22 2 == 0)) (.int .i64 0) (.slice none 0 0) (.slice A7 (n - 24) c7)
    have BE := below_s13 (b := w.heap.size) (D77.out) (Nat.le_refl _) (.int .i64 (g 0)) (.int .i64 (g 1)) (.int .i64 (g 12)) (.int .i64 (num g 4 4)) (.int .i64 (num g 8 4)) (.int .i64 (num g 16 2)) (.int .i64 (num g 18 2)) (.int .i64 0) (.int .i64 (num g 20 2)) (.bool (num g 22 2 == 0)) (.int .i64 0) (.slice none 0 0) (.slice A7 (n - 24) c7)
    have OE0 := OB.grown (OO0.out) (grown_s13 _ w.heap.size (.int .i64 (g 0)) (.int .i64 (g 1)) (.int .i64 (g 12)) (.int .i64 (num g 4 4)) (.int .i64 (num g 8 4)) (.int .i64 (num g 16 2)) (.int .i64 (num g 18 2)) (.int .i64 0) (.int .i64 (num g 20 2)) (.bool (num g 22 2 == 0)) (.int .i64 0) (.slice none 0 0) (.slice A7 (n - 24) c7)) (OB.ne (OO0.out) (by omega))
    unfold S13 at CE BE OE0
    replace CE := hid CE
    replace BE := hid BE
    replace OE0 := hid OE0
    refine at_world (fun w' => Ce w' w.heap.size [.int .i64 (g 0), .int .i64 (g 1), .int .i64 (g 12), .int .i64 (num g 4 4), .int .i64 (num g 8 4), .int .i64 (num g 16 2), .int .i64 (num g 18 2), .int .i64 0, .int .i64 (num g 20 2), .bool (num g 22 2 == 0), .int .i64 0, .slice none 0 0, .slice A7 (n - 24) c7] ∧ Below w.heap.size w w' ∧ OB w' E6 (.slice A7 (n - 24) c7) (n - 24) (fun j => g (24 + j))) ⟨CE.out, BE.out, OE0.out⟩ (fun wf hwf => ?_)
    obtain ⟨hc2, hbf, ho0⟩ := hwf
    have x0 := hc2.2.1 0 _ rfl
    have x1 := hc2.2.1 1 _ rfl
    have x2 := hc2.2.1 2 _ rfl
    have x3 := hc2.2.1 3 _ rfl
    have x4 := hc2.2.1 4 _ rfl
    have x5 := hc2.2.1 5 _ rfl
    have x6 := hc2.2.1 6 _ rfl
    have x7 := hc2.2.1 7 _ rfl
    have x8 := hc2.2.1 8 _ rfl
    have x9 := hc2.2.1 9 _ rfl
    have x10 := hc2.2.1 10 _ rfl
    have x11 := hc2.2.1 11 _ rfl
    have x12 := hc2.2.1 12 _ rfl
    refine bodyPost_ret (v := .tuple #[.agg #[.int .i64 (g 0), .int .i64 (g 1), .int .i64 (g 12), .int .i64 (num g 4 4), .int .i64 (num g 8 4), .int .i64 (num g 16 2), .int .i64 (num g 18 2), .int .i64 0, .int .i64 (num g 20 2), .bool (num g 22 2 == 0), .int .i64 0, .slice none 0 0, .slice A7 (n - 24) c7], .int .i64 0]) (by simp [results, Tryz.results16, go_sem, x0, x1, x2, x3, x4, x5, x6, x7, x8, x9, x10, x11, x12]) rfl ?_
    exact ⟨.slice none 0 0, (.slice A7 (n - 24) c7), by rw [HP2.out, HE.out]; rfl, by rw [HP2.out]; exact OB.nil, by rw [HP2.out]; exact OB.base ho0 (by omega), hbf⟩
  ·go_simp
   have h6 : By ((wq.alloc (.cells #[] 5)).drew) (some ⟨b, off, none⟩) n g ∧ Ce ((wq.alloc (.cells #[] 5)).drew) w.heap.size [.int .i64 0, .int .i64 0, .int .i64 0, .int .i64 0, .int .i64 0, .int .i64 0, .int .i64 0, .int .i64 0, .int .i64 0, .bool false, .int .i64 0, .slice none 0 0, .slice none 0 0] ∧ Below w.heap.size w ((wq.alloc (.cells #[] 5)).drew) := ⟨hHeld.1.alloc _, hHeld.2.1.alloc _, hHeld.2.2.alloc hHeld.2.2.size _⟩
   have C6_ : Ce ((wq.alloc (.cells #[] 5)).drew) L [.int .i64 (g 0), .int .i64 (g 1), .int .i64 (g 12), .int .i64 (num g 4 4), .int .i64 (num g 8 4), .int .i64 (num g 16 2), .int .i64 (num g 18 2), .int .i64 0, .int .i64 0, .bool false, .int .i64 0, .slice none 0 0, .slice none 0 0] := C2q.alloc (.cells #[] 5)
   have e6 : ∀ f, Ow ((wq.alloc (.cells #[] 5)).drew) wq.heap.size 5 1 (.slice (some ⟨wq.heap.size, 0, none⟩) 0 0) 0 f := fun f => Ow.new' (w := wq.drew) rfl
   have l6 : L < wq.heap.size := C2q.1
   have s6 : ((wq.alloc (.cells #[] 5)).drew).heap.size = wq.heap.size + 1 := by simp
   refine hK.out _ _ h6 (fun _ => ?_)
   clear hK
   try simp only [Act.put, List.setIfInBounds_toArray, List.set_cons_zero, List.set_cons_succ]
   generalize ((wq.alloc (.cells #[] 5)).drew) = w6 at *
   generalize wq.heap.size = E6 at *
   refine only 1 rfl (by kernel_rfl) rfl (fun K hK => ?_)
   go_simp
   refine (NUM2.out _ h6.1 20 (by omega)).mono ?_
   rintro e' w' ⟨rfl, rfl⟩
   try go_wp2_with fail
   refine hK.out _ _ h6 (fun _ => ?_)
   clear hK
   try simp only [Act.put, List.setIfInBounds_toArray, List.set_cons_zero, List.set_cons_succ]
   refine tkq 9 (by assumption) ?_
   refine only 3 rfl (by kernel_rfl) rfl (fun K hK => ?_)
   go_simp
   refine (NUM2.out _ h6.1 22 (by omega)).mono ?_
   rintro e' w' ⟨rfl, rfl⟩
   try go_wp2_with fail
   refine hK.out _ _ h6 (fun _ => ?_)
   clear hK
   try simp only [Act.put, List.setIfInBounds_toArray, List.set_cons_zero, List.set_cons_succ]
   refine tkq 4 (by assumption) ?_
   refine only 8 rfl (by kernel_rfl) rfl (fun K hK => ?_)
   refine wpo_b1 rfl (.tmp 113) (.tmp 115) rfl E6 rfl e6 (by omega) _ (n - 24) _ (fun j => g (24 + j)) rfl (r2.out _ g h6.1) (by omega) ?_
   intro A7 c7 w7 o7 g7 q7
   have h7 : By w7 (some ⟨b, off, none⟩) n g ∧ Ce w7 w.heap.size [.int .i64 0, .int .i64 0, .int .i64 0, .int .i64 0, .int .i64 0, .int .i64 0, .int .i64 0, .int .i64 0, .int .i64 0, .bool false, .int .i64 0, .slice none 0 0, .slice none 0 0] ∧ Below w.heap.size w w7 := ⟨grow_by h6.1 g7 (by omega), h6.2.1.grown g7 (fun e => by injection e with e; omega), h6.2.2.trans (below_of_grown g7 (by omega) h6.2.2.size)⟩
   have C7_ := C6_.grown g7 (fun e => by injection e with e; omega)
   have s7 := g7.size
   refine hK.out _ _ h7 (fun _ => ?_)
   clear hK
   try simp only [Act.put, List.setIfInBounds_toArray, List.set_cons_zero, List.set_cons_succ]
   have CC := hid C7_
   have y0 := CC.out.2.1 0 _ rfl
   have y1 := CC.out.2.1 1 _ rfl
   have y2 := CC.out.2.1 2 _ rfl
   have y3 := CC.out.2.1 3 _ rfl
   have y4 := CC.out.2.1 4 _ rfl
   have y5 := CC.out.2.1 5 _ rfl
   have y6 := CC.out.2.1 6 _ rfl
   have y7 := CC.out.2.1 7 _ rfl
   have y8 := CC.out.2.1 8 _ rfl
   have y9 := CC.out.2.1 9 _ rfl
   have y10 := CC.out.2.1 10 _ rfl
   have y11 := CC.out.2.1 11 _ rfl
   have y12 := CC.out.2.1 12 _ rfl
   have yf := CC.out.2.2
   have yl := CC.out.1
   have HH := hid h7
   refine only 10 rfl (by kernel_rfl) rfl (fun K hK => ?_)
   go_simp
   refine hK.out _ _ ⟨grow_by HH.out.1 (gs 8 (.int .i64 (num g 20 2)) (World.grownBy.refl w7 (some L))) hBlt, HH.out.2.1.grown (gs 8 (.int .i64 (num g 20 2)) (World.grownBy.refl w7 (some L))) (fun e => HLR (by injection e)), (HH.out.2.2).setCell (p := ⟨L, 8, none⟩) (Nat.le_of_lt hL) (.int .i64 (num g 20 2))⟩ (fun hN0 => ?_)
   clear hK
   try simp only [Act.put, List.setIfInBounds_toArray, List.set_cons_zero, List.set_cons_succ]
   refine tkq 11 hN0 ?_
   clear hN0
   refine only 12 rfl (by kernel_rfl) rfl (fun K hK => ?_)
   go_simp
   refine hK.out _ _ ⟨grow_by HH.out.1 (gs 9 (.bool (num g 22 2 == 0)) (gs 8 (.int .i64 (num g 20 2)) (World.grownBy.refl w7 (some L)))) hBlt, HH.out.2.1.grown (gs 9 (.bool (num g 22 2 == 0)) (gs 8 (.int .i64 (num g 20 2)) (World.grownBy.refl w7 (some L)))) (fun e => HLR (by injection e)), ((HH.out.2.2).setCell (p := ⟨L, 8, none⟩) (Nat.le_of_lt hL) (.int .i64 (num g 20 2))).setCell (p := ⟨L, 9, none⟩) (Nat.le_of_lt hL) (.bool (num g 22 2 == 0))⟩ (fun hN1 => ?_)
   clear hK
   try simp only [Act.put, List.setIfInBounds_toArray, List.set_cons_zero, List.set_cons_succ]
   refine tkq 13 hN1 ?_
   clear hN1
   refine only 14 rfl (by kernel_rfl) rfl (fun K hK => ?_)
   go_simp
   refine hK.out _ _ ⟨grow_by HH.out.1 (gs 12 (.slice A7 (n - 24) c7) (gs 9 (.bool (num g 22 2 == 0)) (gs 8 (.int .i64 (num g 20 2)) (World.grownBy.refl w7 (some L))))) hBlt, HH.out.2.1.grown (gs 12 (.slice A7 (n - 24) c7) (gs 9 (.bool (num g 22 2 == 0)) (gs 8 (.int .i64 (num g 20 2)) (World.grownBy.refl w7 (some L))))) (fun e => HLR (by injection e)), (((HH.out.2.2).setCell (p := ⟨L, 8, none⟩) (Nat.le_of_lt hL) (.int .i64 (num g 20 2))).setCell (p := ⟨L, 9, none⟩) (Nat.le_of_lt hL) (.bool (num g 22 2 == 0))).setCell (p := ⟨L, 12, none⟩) (Nat.le_of_lt hL) (.slice A7 (n - 24) c7)⟩ (fun hN2 => ?_)
   clear hK
   try simp only [Act.put, List.setIfInBounds_toArray, List.set_cons_zero, List.set_cons_succ]
   refine wpAnyH_done (by kernel_rfl) ?_ _
   have C77 := hid ((((CC.out).set 8 (.int .i64 (num g 20 2)) (by simp)).set 9 (.bool (num g 22 2 == 0)) (by simp)).set 12 (.slice A7 (n - 24) c7) (by simp))
   have R77 := hid (HH.out.2.1.grown (gs 12 (.slice A7 (n - 24) c7) (gs 9 (.bool (num g 22 2 == 0)) (gs 8 (.int .i64 (num g 20 2)) (World.grownBy.refl w7 (some L))))) (fun e => HLR (by injection e)))
   have D77 := hid ((((HH.out.2.2).setCell (p := ⟨L, 8, none⟩) (Nat.le_of_lt hL) (.int .i64 (num g 20 2))).setCell (p := ⟨L, 9, none⟩) (Nat.le_of_lt hL) (.bool (num g 22 2 == 0))).setCell (p := ⟨L, 12, none⟩) (Nat.le_of_lt hL) (.slice A7 (n - 24) c7))
   have OO0 := hid (OB.grown o7 (gs 12 (.slice A7 (n - 24) c7) (gs 9 (.bool (num g 22 2 == 0)) (gs 8 (.int .i64 (num g 20 2)) (World.grownBy.refl w7 (some L))))) (OB.ne o7 l6))
   clear hN2
   clear y0 y1 y2 y3 y4 y5 y6 y7 y8 y9 y10 y11 y12 yf yl
   generalize (((w7.setCell ⟨L, 8, none⟩ (.int .i64 (num g 20 2))).setCell ⟨L, 9, none⟩ (.bool (num g 22 2 == 0))).setCell ⟨L, 12, none⟩ (.slice A7 (n - 24) c7)) = w8 at *
   have y0 := C77.out.2.1 0 _ rfl
   have y1 := C77.out.2.1 1 _ rfl
   have y2 := C77.out.2.1 2 _ rfl
   have y3 := C77.out.2.1 3 _ rfl
   have y4 := C77.out.2.1 4 _ rfl
   have y5 := C77.out.2.1 5 _ rfl
   have y6 := C77.out.2.1 6 _ rfl
   have y7 := C77.out.2.1 7 _ rfl
   have y8 := C77.out.2.1 8 _ rfl
   have y9 := C77.out.2.1 9 _ rfl
   have y10 := C77.out.2.1 10 _ rfl
   have y11 := C77.out.2.1 11 _ rfl
   have y12 := C77.out.2.1 12 _ rfl
   have yf := C77.out.2.2
   have yl := C77.out.1
   have z0 := R77.out.2.1 0 _ rfl
   have z1 := R77.out.2.1 1 _ rfl
   have z2 := R77.out.2.1 2 _ rfl
   have z3 := R77.out.2.1 3 _ rfl
   have z4 := R77.out.2.1 4 _ rfl
   have z5 := R77.out.2.1 5 _ rfl
   have z6 := R77.out.2.1 6 _ rfl
   have z7 := R77.out.2.1 7 _ rfl
   have z8 := R77.out.2.1 8 _ rfl
   have z9 := R77.out.2.1 9 _ rfl
   have z10 := R77.out.2.1 10 _ rfl
   have z11 := R77.out.2.1 11 _ rfl
   have z12 := R77.out.2.1 12 _ rfl
   have zf := R77.out.2.2
   have zl := R77.out.1
   go_wp2_with fail
   have CE := (R77.out).s13 (.int .i64 (g 0)) (.int .i64 (g 1)) (.int .i64 (g 12)) (.int .i64 (num g 4 4)) (.int .i64 (num g 8 4)) (.int .i64 (num g 16 2)) (.int .i64 (num g 18 2)) (.int .i64 0) (.int .i64 (num g 20 2)) (.bool (num g 22 2 == 0)) (.int .i64 0) (.slice none 0 0) (.slice A7 (n - 24) c7)
   have BE := below_s13 (b := w.heap.size) (D77.out) (Nat.le_refl _) (.int .i64 (g 0)) (.int .i64 (g 1)) (.int .i64 (g 12)) (.int .i64 (num g 4 4)) (.int .i64 (num g 8 4)) (.int .i64 (num g 16 2)) (.int .i64 (num g 18 2)) (.int .i64 0) (.int .i64 (num g 20 2)) (.bool (num g 22 2 == 0)) (.int .i64 0) (.slice none 0 0) (.slice A7 (n - 24) c7)
   have OE0 := OB.grown (OO0.out) (grown_s13 _ w.heap.size (.int .i64 (g 0)) (.int .i64 (g 1)) (.int .i64 (g 12)) (.int .i64 (num g 4 4)) (.int .i64 (num g 8 4)) (.int .i64 (num g 16 2)) (.int .i64 (num g 18 2)) (.int .i64 0) (.int .i64 (num g 20 2)) (.bool (num g 22 2 == 0)) (.int .i64 0) (.slice none 0 0) (.slice A7 (n - 24) c7)) (OB.ne (OO0.out) (by omega))
   unfold S13 at CE BE OE0
   replace CE := hid CE
   replace BE := hid BE
   replace OE0 := hid OE0
   refine at_world (fun w' => Ce w' w.heap.size [.int .i64 (g 0), .int .i64 (g 1), .int .i64 (g 12), .int .i64 (num g 4 4), .int .i64 (num g 8 4), .int .i64 (num g 16 2), .int .i64 (num g 18 2), .int .i64 0, .int .i64 (num g 20 2), .bool (num g 22 2 == 0), .int .i64 0, .slice none 0 0, .slice A7 (n - 24) c7] ∧ Below w.heap.size w w' ∧ OB w' E6 (.slice A7 (n - 24) c7) (n - 24) (fun j => g (24 + j))) ⟨CE.out, BE.out, OE0.out⟩ (fun wf hwf => ?_)
   obtain ⟨hc2, hbf, ho0⟩ := hwf
   have x0 := hc2.2.1 0 _ rfl
   have x1 := hc2.2.1 1 _ rfl
   have x2 := hc2.2.1 2 _ rfl
   have x3 := hc2.2.1 3 _ rfl
   have x4 := hc2.2.1 4 _ rfl
   have x5 := hc2.2.1 5 _ rfl
   have x6 := hc2.2.1 6 _ rfl
   have x7 := hc2.2.1 7 _ rfl
   have x8 := hc2.2.1 8 _ rfl
   have x9 := hc2.2.1 9 _ rfl
   have x10 := hc2.2.1 10 _ rfl
   have x11 := hc2.2.1 11 _ rfl
   have x12 := hc2.2.1 12 _ rfl
   refine bodyPost_ret (v := .tuple #[.agg #[.int .i64 (g 0), .int .i64 (g 1), .int .i64 (g 12), .int .i64 (num g 4 4), .int .i64 (num g 8 4), .int .i64 (num g 16 2), .int .i64 (num g 18 2), .int .i64 0, .int .i64 (num g 20 2), .bool (num g 22 2 == 0), .int .i64 0, .slice none 0 0, .slice A7 (n - 24) c7], .int .i64 0]) (by simp [results, Tryz.results16, go_sem, x0, x1, x2, x3, x4, x5, x6, x7, x8, x9, x10, x11, x12]) rfl ?_
   exact ⟨.slice none 0 0, (.slice A7 (n - 24) c7), by rw [HP2.out, HE.out]; rfl, by rw [HP2.out]; exact OB.nil, by rw [HP2.out]; exact OB.base ho0 (by omega), hbf⟩
end Go.Proofs.YteapnfdpkjbfhaaGreat
