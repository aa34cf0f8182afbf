/- roundhouselaw10.OrderMarks answers true for every row, any number; no condition. -/
import Derived.Test.YtljgcffpijjliaaDoorOrdMark
import Derived.Test.YtljgcffpijjliaaDoorOrdAp
import Derived.Test.YtljgcffpijjliaaDoorOrdKnown10
import Derived.Test.YtljgcffpijjliaaDoorDoor
import Derived.BigQuiet
import Derived.Deep.RegionHeld3
import Derived.Deep.Cut
namespace Go.Proofs.YtljgcffpijjliaaDoor.orderMarks
set_option linter.unusedVariables false
set_option linter.unusedSimpArgs false
open Go.RowKit Go.ChangeShapes Go.WideShapes Go.ChangeAt

attribute [local irreducible] PA
set_option maxRecDepth 100000 in
set_option maxHeartbeats 8000000 in
theorem walk (W : World) (hsh : W.ShapedOpen Tryd.prog) (A1 : Option Addr) (n1 c1 : Nat) (g1 : Nat → Int) (hn1 : n1 ≤ c1) (hc1 : c1 ≤ maxLen) (hr1 : Is W A1 n1 g1) (hg1 : IsI g1) (hl1 : ∀ ad, A1 = some ad → 0 < n1 → ad.block < W.heap.size) (re1 : c1 * 8 ≤ 140737488351232) (a0 : Int) (r_a0 : -9223372036854775808 ≤ a0 ∧ a0 ≤ 9223372036854775807) :
    Calls Tryd.prog 5 #[.slice A1 n1 c1, .int .i64 a0] W fun e w' => e = .returned (.bool true) ∧ Below W.heap.size W w' := by
  have hz : ∀ w : World, (zeroValue 33).run Tryd.prog w = .ok (.agg (PA zPl)) w := fun w => zero_pl w
  have hz1 := pa_size zPl
  have hz2 := pa_ne zPl
  unfold maxLen at hc1
  have hnm : (n1 : Int) ≤ 9223372036854775807 := by have := hn1; omega
  have HL := hid hl1
  clear hl1 re1
  obtain ⟨p, hp⟩ : ∃ p, p = mkP g1 (min n1 60) := ⟨_, rfl⟩
  have HQ := hid (show Pinv p 60 from by rw [hp]; exact (mkP_inv g1 _).mono (by omega))
  have MK := hid (fun (w : World) (h : Is w A1 n1 g1) (hl : ∀ ad, A1 = some ad → 0 < n1 → ad.block < w.heap.size) => (show Calls Tryd.prog 15 #[.slice A1 n1 c1, .int .i64 60] w fun x w' => x = .returned (.agg (PA p)) ∧ Below w.heap.size w w' from by rw [hp]; exact make_any w A1 n1 c1 g1 h hl hnm 60 (by omega)))
  clear hp
  obtain ⟨ml, hml⟩ := Tryd.laysM147.s1_3 W hsh
  have HML := hid hml
  clear hml hsh
  obtain ⟨s0, hs0⟩ : ∃ x, x = wi a0 6 := ⟨_, rfl⟩
  have bs0 := wi_bd a0 6 (by omega)
  rw [← hs0] at bs0
  have Ws0 := hid (fun w => re_i64 (within_any a0 6 w (by omega) (by omega)) hs0.symm)
  clear hs0
  obtain ⟨bs01, bs02⟩ := bs0
  obtain ⟨c, rfl⟩ : ∃ c : Nat, s0 = c := ⟨s0.toNat, by omega⟩
  have c64 : c < 64 := by omega
  have i64 : (c : Int) < 64 := by omega
  have i0 : (0 : Int) ≤ c := by omega
  obtain ⟨LU, hLU⟩ : ∃ l, l = mrkL p (c : Int) 1 := ⟨_, rfl⟩
  obtain ⟨nU, hnU⟩ : ∃ n, n = LU.length := ⟨_, rfl⟩
  have hbU : nU ≤ 1 := by rw [hnU, hLU]; exact mrk_len _ _ _
  have MU := hid (fun (w : World) => (show Calls Tryd.prog 25 #[.agg (PA p), .int .i64 (c : Int), .int .i64 1] w fun e w' => ∃ (A : Option Addr) (d : Nat), e = .returned (.slice A nU d) ∧ Se w' A nU (gl LU) ∧ Below w.heap.size w w' from (mark_any p (c : Int) 1 w).mono (fun e w' h => by obtain ⟨A, d, e1, e2, e3⟩ := h; rw [← hLU, ← hnU] at e1 e2; exact ⟨A, d, e1, e2.se, e3⟩)))
  have AU := hid (fun A d w (h : Se w A nU (gl LU)) => (show Calls Tryd.prog 27 #[.agg (PA p), .slice A nU d] w fun x w' => ∃ (q : Pl) (m : Nat) (er : Int), x = .returned (.tuple #[.agg (PA q), .int .i64 (m : Int), .int .i64 er]) ∧ AllOut p (gl LU) nU q m er ∧ Below w.heap.size w w' from rall_any p (gl LU) A nU d w h (by omega) 60 HQ.out (by decide)))
  have FU := hid (fun q m er (h : AllOut p (gl LU) nU q m er) => (show er = 0 ∧ (m : Int) < 2 ∧ (q.s c).st = (if (p.s c).st = 1 ∨ (p.s c).st = 3 then 2 else (p.s c).st) from by subst hnU; subst hLU; exact mark_up c64 h))
  clear hLU hnU
  obtain ⟨LD, hLD⟩ : ∃ l, l = mrkL p (c : Int) 2 := ⟨_, rfl⟩
  obtain ⟨nD, hnD⟩ : ∃ n, n = LD.length := ⟨_, rfl⟩
  have hbD : nD ≤ 1 := by rw [hnD, hLD]; exact mrk_len _ _ _
  have MD := hid (fun (w : World) => (show Calls Tryd.prog 25 #[.agg (PA p), .int .i64 (c : Int), .int .i64 2] w fun e w' => ∃ (A : Option Addr) (d : Nat), e = .returned (.slice A nD d) ∧ Se w' A nD (gl LD) ∧ Below w.heap.size w w' from (mark_any p (c : Int) 2 w).mono (fun e w' h => by obtain ⟨A, d, e1, e2, e3⟩ := h; rw [← hLD, ← hnD] at e1 e2; exact ⟨A, d, e1, e2.se, e3⟩)))
  have AD := hid (fun A d w (h : Se w A nD (gl LD)) => (show Calls Tryd.prog 27 #[.agg (PA p), .slice A nD d] w fun x w' => ∃ (q : Pl) (m : Nat) (er : Int), x = .returned (.tuple #[.agg (PA q), .int .i64 (m : Int), .int .i64 er]) ∧ AllOut p (gl LD) nD q m er ∧ Below w.heap.size w w' from rall_any p (gl LD) A nD d w h (by omega) 60 HQ.out (by decide)))
  have FD := hid (fun q m er (h : AllOut p (gl LD) nD q m er) => (show er = 0 ∧ (m : Int) < 2 ∧ (q.s c).st = (if (p.s c).st = 2 then 3 else (p.s c).st) from by subst hnD; subst hLD; exact mark_down c64 h))
  clear hLD hnD
  have M0 := hid (fun (w : World) => (show Calls Tryd.prog 25 #[.agg (PA p), .int .i64 (c : Int), .int .i64 0] w (Ls1 w []) from by have := mark_any p (c : Int) 0 w; rw [mrk_no (by decide) (by decide)] at this; exact this))
  have HST := hid (HQ.out.st c c64)
  go_enter Tryd.func5, Tryd.ntmps5
  go_wp2_with fail
  refine (known10_any ml _ HML.out).mono ?_
  rintro x w1 ⟨rfl, hB⟩
  have R1 := hid (hr1.below hB (Nat.le_refl _))
  have B1 := hid hB
  clear hr1 hB HML
  go_wp2_with fail
  refine (MK.out _ R1.out (fun ad e h => Nat.lt_of_lt_of_le (HL.out ad e h) B1.out.size)).mono ?_
  rintro x w2 ⟨rfl, hb⟩
  have S2 := hid ((SG.start B1.out).below hb)
  clear hb R1 B1 MK
  have ST := hid ((sg_new (w := w2) (T := 33)).storeA p)
  have S3 := hid (SG.put S2.out (T := 33) zPl p (by simp))
  go_upto_region 4 with ((with_reducible refine wl_id ?_); refine wl_store rfl rfl rfl rfl ST.out ?_)
  clear ST S2
  generalize (w2.alloc (.cells (PA zPl) 33)).setCells w2.heap.size 0 (PA p).toList = w3 at *
  generalize w2.heap.size = P at *
  go_wp2_with fail
  refine (Ws0.out _).mono ?_
  rintro x w' ⟨rfl, rfl⟩
  try go_simp
  go_wp2_with fail
  go_upto_region 5 with (fail)
  go_cut [7, 8, 9] from 22 to 31 (fun u v x wx => ∃ (UU : Nat) (q : Pl) (m : Nat) (er : Int), u = .pointer (some ⟨UU, 0, none⟩) ∧ v = .int .i64 (m : Int) ∧ x = .int .i64 er ∧ PoolAt wx UU q ∧ AllOut p (gl LU) nU q m er ∧ SG W wx [(P, p)] [])
  case first =>
    refine wp_region_held_drew (S := fun w' => SG W w' [(P, p)] []) (by kernel_rfl) ?_ (fun hHeld => ?_)
    · exact S3.out.drew
    refine tk 0 (v := .agg (PA p)) rfl (by kernel_rfl) (by kernel_rfl) (by kernel_rfl) (fun _ _ _ h => h) rfl (fun w hSw => ex_load rfl rfl (SG.get hSw (b := P) (p := p) (by simp)).loadA) hHeld ?_; (try simp only [Act.put, List.setIfInBounds_toArray, List.set_cons_zero, List.set_cons_succ])
    refine tk 1 (v := .agg (PA p)) rfl (by kernel_rfl) (by kernel_rfl) (by kernel_rfl) (fun _ _ _ h => h) rfl (fun w hSw => ex_load rfl rfl (SG.get hSw (b := P) (p := p) (by simp)).loadA) hHeld ?_; (try simp only [Act.put, List.setIfInBounds_toArray, List.set_cons_zero, List.set_cons_succ])
    refine tk 2 (v := ?_) rfl (by kernel_rfl) (by kernel_rfl) (by kernel_rfl) (fun _ _ _ h => h) rfl ?_ hHeld ?_; rotate_left; (focus (intro w hSw; (try dsimp only at hSw);  go_simp; (try with_reducible rfl))); (try simp only [Act.put, List.setIfInBounds_toArray, List.set_cons_zero, List.set_cons_succ])
    refine twoUp 3 9 rfl rfl (by kernel_rfl) rfl rfl (fun K hK => ?_) (fun K hK => ?_)
    · go_simp
      refine (MU.out _).mono ?_
      rintro e' w' ⟨A, d, rfl, SE, hb⟩
      try go_wp2_with fail
      refine hK.out _ _ (SG.below hHeld hb) (fun hz0 => ?_)
      clear hK hb
      try simp only [Act.put, List.setIfInBounds_toArray, List.set_cons_zero, List.set_cons_succ]
      refine twoUp 4 9 rfl rfl (by kernel_rfl) rfl rfl (fun K hK => ?_) (fun K hK => ?_)
      · go_simp
        refine (AU.out A d _ SE).mono ?_
        rintro e' w' ⟨q, m, er, rfl, hout, hb⟩
        try go_wp2_with fail
        have SE := Se.below SE hb (Nat.le_refl _)
        have HOUT := hid hout
        clear hout
        refine hK.out _ _ (SG.below hz0 hb) (fun hz1 => ?_)
        clear hK hb
        try simp only [Act.put, List.setIfInBounds_toArray, List.set_cons_zero, List.set_cons_succ]
        refine tk 5 (v := ?_) rfl (by kernel_rfl) (by kernel_rfl) (by kernel_rfl) (fun _ _ _ h => h) rfl ?_ hz1 ?_; rotate_left; (focus (intro w hSw; (try dsimp only at hSw);  go_simp; (try with_reducible rfl))); (try simp only [Act.put, List.setIfInBounds_toArray, List.set_cons_zero, List.set_cons_succ])
        refine tk 6 (v := ?_) rfl (by kernel_rfl) (by kernel_rfl) (by kernel_rfl) (fun _ _ _ h => h) rfl ?_ hz1 ?_; rotate_left; (focus (intro w hSw; (try dsimp only at hSw);  go_simp; (try with_reducible rfl))); (try simp only [Act.put, List.setIfInBounds_toArray, List.set_cons_zero, List.set_cons_succ])
        refine tk 7 (v := ?_) rfl (by kernel_rfl) (by kernel_rfl) (by kernel_rfl) (fun _ _ _ h => h) rfl ?_ hz1 ?_; rotate_left; (focus (intro w hSw; (try dsimp only at hSw);  go_simp; (try with_reducible rfl))); (try simp only [Act.put, List.setIfInBounds_toArray, List.set_cons_zero, List.set_cons_succ])
        refine tk 8 (v := ?_) rfl (by kernel_rfl) (by kernel_rfl) (by kernel_rfl) (fun _ _ _ h => h) rfl ?_ hz1 ?_; rotate_left; (focus (intro w hSw; (try dsimp only at hSw);  go_simp; (try with_reducible rfl))); (try simp only [Act.put, List.setIfInBounds_toArray, List.set_cons_zero, List.set_cons_succ])
        refine only 9 rfl (by kernel_rfl) rfl (fun K hK => ?_)
        go_simp
        have nL := SG.ne hz1
        have lN := (SG.bl hz1).size
        have SE := Sl.alloc SE (.cells (PA zPl) 33)
        refine hK.out _ _ (SG.alloc hz1 _) (fun hz2 => ?_)
        clear hK
        try simp only [Act.put, List.setIfInBounds_toArray, List.set_cons_zero, List.set_cons_succ]
        have NN := sg_newH hz2
        generalize w'.alloc (.cells (PA zPl) 33) = w' at *
        have ST := NN.storeA q
        have NW := NN.whole q
        refine only 10 rfl (by kernel_rfl) rfl (fun K hK => ?_)
        refine ov_store rfl rfl rfl ST ?_
        refine hK.out _ _ (SG.sets hz2 nL (by simp) lN) (fun hE => ?_)
        clear hK
        try simp only [Act.put, List.setIfInBounds_toArray, List.set_cons_zero, List.set_cons_succ]
        refine tk 11 (v := ?_) rfl (by kernel_rfl) (by kernel_rfl) (by kernel_rfl) (fun _ _ _ h => h) rfl ?_ hE ?_; rotate_left; (focus (intro w hSw; (try dsimp only at hSw);  go_simp; (try with_reducible rfl))); (try simp only [Act.put, List.setIfInBounds_toArray, List.set_cons_zero, List.set_cons_succ])
        refine tk 12 (v := ?_) rfl (by kernel_rfl) (by kernel_rfl) (by kernel_rfl) (fun _ _ _ h => h) rfl ?_ hE ?_; rotate_left; (focus (intro w hSw; (try dsimp only at hSw);  go_simp; (try with_reducible rfl))); (try simp only [Act.put, List.setIfInBounds_toArray, List.set_cons_zero, List.set_cons_succ])
        refine wpAnyH_done (by kernel_rfl) ?_ _
        go_wp2_with fail
        go_meet
        exact ⟨_, q, m, er, rfl, rfl, rfl, NW, HOUT.out, hE⟩
      · go_simp
        have nL := SG.ne hz0
        have lN := (SG.bl hz0).size
        have SE := Sl.alloc SE (.cells (PA zPl) 33)
        refine hK.out _ _ (SG.alloc hz0 _) (fun hz1 => ?_)
        clear hK
        try simp only [Act.put, List.setIfInBounds_toArray, List.set_cons_zero, List.set_cons_succ]
        have NN := sg_newH hz1
        generalize w'.alloc (.cells (PA zPl) 33) = w' at *
        refine only 4 rfl (by kernel_rfl) rfl (fun K hK => ?_)
        go_simp
        refine (AU.out A d _ SE).mono ?_
        rintro e' w' ⟨q, m, er, rfl, hout, hb⟩
        try go_wp2_with fail
        have SE := Se.below SE hb (Nat.le_refl _)
        have NN := NN.below hb
        have HOUT := hid hout
        clear hout
        refine hK.out _ _ (SG.below hz1 hb) (fun hz2 => ?_)
        clear hK hb
        try simp only [Act.put, List.setIfInBounds_toArray, List.set_cons_zero, List.set_cons_succ]
        refine tk 5 (v := ?_) rfl (by kernel_rfl) (by kernel_rfl) (by kernel_rfl) (fun _ _ _ h => h) rfl ?_ hz2 ?_; rotate_left; (focus (intro w hSw; (try dsimp only at hSw);  go_simp; (try with_reducible rfl))); (try simp only [Act.put, List.setIfInBounds_toArray, List.set_cons_zero, List.set_cons_succ])
        refine tk 6 (v := ?_) rfl (by kernel_rfl) (by kernel_rfl) (by kernel_rfl) (fun _ _ _ h => h) rfl ?_ hz2 ?_; rotate_left; (focus (intro w hSw; (try dsimp only at hSw);  go_simp; (try with_reducible rfl))); (try simp only [Act.put, List.setIfInBounds_toArray, List.set_cons_zero, List.set_cons_succ])
        refine tk 7 (v := ?_) rfl (by kernel_rfl) (by kernel_rfl) (by kernel_rfl) (fun _ _ _ h => h) rfl ?_ hz2 ?_; rotate_left; (focus (intro w hSw; (try dsimp only at hSw);  go_simp; (try with_reducible rfl))); (try simp only [Act.put, List.setIfInBounds_toArray, List.set_cons_zero, List.set_cons_succ])
        refine tk 8 (v := ?_) rfl (by kernel_rfl) (by kernel_rfl) (by kernel_rfl) (fun _ _ _ h => h) rfl ?_ hz2 ?_; rotate_left; (focus (intro w hSw; (try dsimp only at hSw);  go_simp; (try with_reducible rfl))); (try simp only [Act.put, List.setIfInBounds_toArray, List.set_cons_zero, List.set_cons_succ])
        have ST := NN.storeA q
        have NW := NN.whole q
        refine only 10 rfl (by kernel_rfl) rfl (fun K hK => ?_)
        refine ov_store rfl rfl rfl ST ?_
        refine hK.out _ _ (SG.sets hz2 nL (by simp) lN) (fun hE => ?_)
        clear hK
        try simp only [Act.put, List.setIfInBounds_toArray, List.set_cons_zero, List.set_cons_succ]
        refine tk 11 (v := ?_) rfl (by kernel_rfl) (by kernel_rfl) (by kernel_rfl) (fun _ _ _ h => h) rfl ?_ hE ?_; rotate_left; (focus (intro w hSw; (try dsimp only at hSw);  go_simp; (try with_reducible rfl))); (try simp only [Act.put, List.setIfInBounds_toArray, List.set_cons_zero, List.set_cons_succ])
        refine tk 12 (v := ?_) rfl (by kernel_rfl) (by kernel_rfl) (by kernel_rfl) (fun _ _ _ h => h) rfl ?_ hE ?_; rotate_left; (focus (intro w hSw; (try dsimp only at hSw);  go_simp; (try with_reducible rfl))); (try simp only [Act.put, List.setIfInBounds_toArray, List.set_cons_zero, List.set_cons_succ])
        refine wpAnyH_done (by kernel_rfl) ?_ _
        go_wp2_with fail
        go_meet
        exact ⟨_, q, m, er, rfl, rfl, rfl, NW, HOUT.out, hE⟩
    · go_simp
      have nL := SG.ne hHeld
      have lN := (SG.bl hHeld).size
      refine hK.out _ _ (SG.alloc hHeld _) (fun hz0 => ?_)
      clear hK
      try simp only [Act.put, List.setIfInBounds_toArray, List.set_cons_zero, List.set_cons_succ]
      have NN := sg_newHD hz0
      generalize (w3.alloc (.cells (PA zPl) 33)).drew = w' at *
      refine only 3 rfl (by kernel_rfl) rfl (fun K hK => ?_)
      go_simp
      refine (MU.out _).mono ?_
      rintro e' w' ⟨A, d, rfl, SE, hb⟩
      try go_wp2_with fail
      have NN := NN.below hb
      refine hK.out _ _ (SG.below hz0 hb) (fun hz1 => ?_)
      clear hK hb
      try simp only [Act.put, List.setIfInBounds_toArray, List.set_cons_zero, List.set_cons_succ]
      refine only 4 rfl (by kernel_rfl) rfl (fun K hK => ?_)
      go_simp
      refine (AU.out A d _ SE).mono ?_
      rintro e' w' ⟨q, m, er, rfl, hout, hb⟩
      try go_wp2_with fail
      have NN := NN.below hb
      have SE := Se.below SE hb (Nat.le_refl _)
      have HOUT := hid hout
      clear hout
      refine hK.out _ _ (SG.below hz1 hb) (fun hz2 => ?_)
      clear hK hb
      try simp only [Act.put, List.setIfInBounds_toArray, List.set_cons_zero, List.set_cons_succ]
      refine tk 5 (v := ?_) rfl (by kernel_rfl) (by kernel_rfl) (by kernel_rfl) (fun _ _ _ h => h) rfl ?_ hz2 ?_; rotate_left; (focus (intro w hSw; (try dsimp only at hSw);  go_simp; (try with_reducible rfl))); (try simp only [Act.put, List.setIfInBounds_toArray, List.set_cons_zero, List.set_cons_succ])
      refine tk 6 (v := ?_) rfl (by kernel_rfl) (by kernel_rfl) (by kernel_rfl) (fun _ _ _ h => h) rfl ?_ hz2 ?_; rotate_left; (focus (intro w hSw; (try dsimp only at hSw);  go_simp; (try with_reducible rfl))); (try simp only [Act.put, List.setIfInBounds_toArray, List.set_cons_zero, List.set_cons_succ])
      refine tk 7 (v := ?_) rfl (by kernel_rfl) (by kernel_rfl) (by kernel_rfl) (fun _ _ _ h => h) rfl ?_ hz2 ?_; rotate_left; (focus (intro w hSw; (try dsimp only at hSw);  go_simp; (try with_reducible rfl))); (try simp only [Act.put, List.setIfInBounds_toArray, List.set_cons_zero, List.set_cons_succ])
      refine tk 8 (v := ?_) rfl (by kernel_rfl) (by kernel_rfl) (by kernel_rfl) (fun _ _ _ h => h) rfl ?_ hz2 ?_; rotate_left; (focus (intro w hSw; (try dsimp only at hSw);  go_simp; (try with_reducible rfl))); (try simp only [Act.put, List.setIfInBounds_toArray, List.set_cons_zero, List.set_cons_succ])
      have ST := NN.storeA q
      have NW := NN.whole q
      refine only 10 rfl (by kernel_rfl) rfl (fun K hK => ?_)
      refine ov_store rfl rfl rfl ST ?_
      refine hK.out _ _ (SG.sets hz2 nL (by simp) lN) (fun hE => ?_)
      clear hK
      try simp only [Act.put, List.setIfInBounds_toArray, List.set_cons_zero, List.set_cons_succ]
      refine tk 11 (v := ?_) rfl (by kernel_rfl) (by kernel_rfl) (by kernel_rfl) (fun _ _ _ h => h) rfl ?_ hE ?_; rotate_left; (focus (intro w hSw; (try dsimp only at hSw);  go_simp; (try with_reducible rfl))); (try simp only [Act.put, List.setIfInBounds_toArray, List.set_cons_zero, List.set_cons_succ])
      refine tk 12 (v := ?_) rfl (by kernel_rfl) (by kernel_rfl) (by kernel_rfl) (fun _ _ _ h => h) rfl ?_ hE ?_; rotate_left; (focus (intro w hSw; (try dsimp only at hSw);  go_simp; (try with_reducible rfl))); (try simp only [Act.put, List.setIfInBounds_toArray, List.set_cons_zero, List.set_cons_succ])
      refine wpAnyH_done (by kernel_rfl) ?_ _
      go_wp2_with fail
      go_meet
      exact ⟨_, q, m, er, rfl, rfl, rfl, NW, HOUT.out, hE⟩
  case rest =>
    obtain ⟨U, q, m, er, rfl, rfl, rfl, hU, hout, hS⟩ := hcut
    have S4 := hid (hS.cons hU)
    have FQ := hid (FU.out _ _ _ hout)
    clear hS hU hout S3 MU AU FU
    go_upto_region 6 with (fail)
    go_cut [10, 11, 12] from 31 to 40 (fun u v x wx => ∃ (UU : Nat) (r : Pl) (m : Nat) (er : Int), u = .pointer (some ⟨UU, 0, none⟩) ∧ v = .int .i64 (m : Int) ∧ x = .int .i64 er ∧ PoolAt wx UU r ∧ AllOut p (gl LD) nD r m er ∧ SG W wx [(U, q), (P, p)] [])
    case first =>
      refine wp_region_held_drew (S := fun w' => SG W w' [(U, q), (P, p)] []) (by kernel_rfl) ?_ (fun hHeld => ?_)
      · exact S4.out.drew
      refine tk 0 (v := .agg (PA p)) rfl (by kernel_rfl) (by kernel_rfl) (by kernel_rfl) (fun _ _ _ h => h) rfl (fun w hSw => ex_load rfl rfl (SG.get hSw (b := P) (p := p) (by simp)).loadA) hHeld ?_; (try simp only [Act.put, List.setIfInBounds_toArray, List.set_cons_zero, List.set_cons_succ])
      refine tk 1 (v := .agg (PA p)) rfl (by kernel_rfl) (by kernel_rfl) (by kernel_rfl) (fun _ _ _ h => h) rfl (fun w hSw => ex_load rfl rfl (SG.get hSw (b := P) (p := p) (by simp)).loadA) hHeld ?_; (try simp only [Act.put, List.setIfInBounds_toArray, List.set_cons_zero, List.set_cons_succ])
      refine tk 2 (v := ?_) rfl (by kernel_rfl) (by kernel_rfl) (by kernel_rfl) (fun _ _ _ h => h) rfl ?_ hHeld ?_; rotate_left; (focus (intro w hSw; (try dsimp only at hSw);  go_simp; (try with_reducible rfl))); (try simp only [Act.put, List.setIfInBounds_toArray, List.set_cons_zero, List.set_cons_succ])
      refine twoUp 3 9 rfl rfl (by kernel_rfl) rfl rfl (fun K hK => ?_) (fun K hK => ?_)
      · go_simp
        refine (MD.out _).mono ?_
        rintro e' w' ⟨A, d, rfl, SE, hb⟩
        try go_wp2_with fail
        refine hK.out _ _ (SG.below hHeld hb) (fun hz0 => ?_)
        clear hK hb
        try simp only [Act.put, List.setIfInBounds_toArray, List.set_cons_zero, List.set_cons_succ]
        refine twoUp 4 9 rfl rfl (by kernel_rfl) rfl rfl (fun K hK => ?_) (fun K hK => ?_)
        · go_simp
          refine (AD.out A d _ SE).mono ?_
          rintro e' w' ⟨r, m, er, rfl, hout, hb⟩
          try go_wp2_with fail
          have SE := Se.below SE hb (Nat.le_refl _)
          have HOUT := hid hout
          clear hout
          refine hK.out _ _ (SG.below hz0 hb) (fun hz1 => ?_)
          clear hK hb
          try simp only [Act.put, List.setIfInBounds_toArray, List.set_cons_zero, List.set_cons_succ]
          refine tk 5 (v := ?_) rfl (by kernel_rfl) (by kernel_rfl) (by kernel_rfl) (fun _ _ _ h => h) rfl ?_ hz1 ?_; rotate_left; (focus (intro w hSw; (try dsimp only at hSw);  go_simp; (try with_reducible rfl))); (try simp only [Act.put, List.setIfInBounds_toArray, List.set_cons_zero, List.set_cons_succ])
          refine tk 6 (v := ?_) rfl (by kernel_rfl) (by kernel_rfl) (by kernel_rfl) (fun _ _ _ h => h) rfl ?_ hz1 ?_; rotate_left; (focus (intro w hSw; (try dsimp only at hSw);  go_simp; (try with_reducible rfl))); (try simp only [Act.put, List.setIfInBounds_toArray, List.set_cons_zero, List.set_cons_succ])
          refine tk 7 (v := ?_) rfl (by kernel_rfl) (by kernel_rfl) (by kernel_rfl) (fun _ _ _ h => h) rfl ?_ hz1 ?_; rotate_left; (focus (intro w hSw; (try dsimp only at hSw);  go_simp; (try with_reducible rfl))); (try simp only [Act.put, List.setIfInBounds_toArray, List.set_cons_zero, List.set_cons_succ])
          refine tk 8 (v := ?_) rfl (by kernel_rfl) (by kernel_rfl) (by kernel_rfl) (fun _ _ _ h => h) rfl ?_ hz1 ?_; rotate_left; (focus (intro w hSw; (try dsimp only at hSw);  go_simp; (try with_reducible rfl))); (try simp only [Act.put, List.setIfInBounds_toArray, List.set_cons_zero, List.set_cons_succ])
          refine only 9 rfl (by kernel_rfl) rfl (fun K hK => ?_)
          go_simp
          have nL := SG.ne hz1
          have lN := (SG.bl hz1).size
          have SE := Sl.alloc SE (.cells (PA zPl) 33)
          refine hK.out _ _ (SG.alloc hz1 _) (fun hz2 => ?_)
          clear hK
          try simp only [Act.put, List.setIfInBounds_toArray, List.set_cons_zero, List.set_cons_succ]
          have NN := sg_newH hz2
          generalize w'.alloc (.cells (PA zPl) 33) = w' at *
          have ST := NN.storeA r
          have NW := NN.whole r
          refine only 10 rfl (by kernel_rfl) rfl (fun K hK => ?_)
          refine ov_store rfl rfl rfl ST ?_
          refine hK.out _ _ (SG.sets hz2 nL (by simp) lN) (fun hE => ?_)
          clear hK
          try simp only [Act.put, List.setIfInBounds_toArray, List.set_cons_zero, List.set_cons_succ]
          refine tk 11 (v := ?_) rfl (by kernel_rfl) (by kernel_rfl) (by kernel_rfl) (fun _ _ _ h => h) rfl ?_ hE ?_; rotate_left; (focus (intro w hSw; (try dsimp only at hSw);  go_simp; (try with_reducible rfl))); (try simp only [Act.put, List.setIfInBounds_toArray, List.set_cons_zero, List.set_cons_succ])
          refine tk 12 (v := ?_) rfl (by kernel_rfl) (by kernel_rfl) (by kernel_rfl) (fun _ _ _ h => h) rfl ?_ hE ?_; rotate_left; (focus (intro w hSw; (try dsimp only at hSw);  go_simp; (try with_reducible rfl))); (try simp only [Act.put, List.setIfInBounds_toArray, List.set_cons_zero, List.set_cons_succ])
          refine wpAnyH_done (by kernel_rfl) ?_ _
          go_wp2_with fail
          go_meet
          exact ⟨_, r, m, er, rfl, rfl, rfl, NW, HOUT.out, hE⟩
        · go_simp
          have nL := SG.ne hz0
          have lN := (SG.bl hz0).size
          have SE := Sl.alloc SE (.cells (PA zPl) 33)
          refine hK.out _ _ (SG.alloc hz0 _) (fun hz1 => ?_)
          clear hK
          try simp only [Act.put, List.setIfInBounds_toArray, List.set_cons_zero, List.set_cons_succ]
          have NN := sg_newH hz1
          generalize w'.alloc (.cells (PA zPl) 33) = w' at *
          refine only 4 rfl (by kernel_rfl) rfl (fun K hK => ?_)
          go_simp
          refine (AD.out A d _ SE).mono ?_
          rintro e' w' ⟨r, m, er, rfl, hout, hb⟩
          try go_wp2_with fail
          have SE := Se.below SE hb (Nat.le_refl _)
          have NN := NN.below hb
          have HOUT := hid hout
          clear hout
          refine hK.out _ _ (SG.below hz1 hb) (fun hz2 => ?_)
          clear hK hb
          try simp only [Act.put, List.setIfInBounds_toArray, List.set_cons_zero, List.set_cons_succ]
          refine tk 5 (v := ?_) rfl (by kernel_rfl) (by kernel_rfl) (by kernel_rfl) (fun _ _ _ h => h) rfl ?_ hz2 ?_; rotate_left; (focus (intro w hSw; (try dsimp only at hSw);  go_simp; (try with_reducible rfl))); (try simp only [Act.put, List.setIfInBounds_toArray, List.set_cons_zero, List.set_cons_succ])
          refine tk 6 (v := ?_) rfl (by kernel_rfl) (by kernel_rfl) (by kernel_rfl) (fun _ _ _ h => h) rfl ?_ hz2 ?_; rotate_left; (focus (intro w hSw; (try dsimp only at hSw);  go_simp; (try with_reducible rfl))); (try simp only [Act.put, List.setIfInBounds_toArray, List.set_cons_zero, List.set_cons_succ])
          refine tk 7 (v := ?_) rfl (by kernel_rfl) (by kernel_rfl) (by kernel_rfl) (fun _ _ _ h => h) rfl ?_ hz2 ?_; rotate_left; (focus (intro w hSw; (try dsimp only at hSw);  go_simp; (try with_reducible rfl))); (try simp only [Act.put, List.setIfInBounds_toArray, List.set_cons_zero, List.set_cons_succ])
          refine tk 8 (v := ?_) rfl (by kernel_rfl) (by kernel_rfl) (by kernel_rfl) (fun _ _ _ h => h) rfl ?_ hz2 ?_; rotate_left; (focus (intro w hSw; (try dsimp only at hSw);  go_simp; (try with_reducible rfl))); (try simp only [Act.put, List.setIfInBounds_toArray, List.set_cons_zero, List.set_cons_succ])
          have ST := NN.storeA r
          have NW := NN.whole r
          refine only 10 rfl (by kernel_rfl) rfl (fun K hK => ?_)
          refine ov_store rfl rfl rfl ST ?_
          refine hK.out _ _ (SG.sets hz2 nL (by simp) lN) (fun hE => ?_)
          clear hK
          try simp only [Act.put, List.setIfInBounds_toArray, List.set_cons_zero, List.set_cons_succ]
          refine tk 11 (v := ?_) rfl (by kernel_rfl) (by kernel_rfl) (by kernel_rfl) (fun _ _ _ h => h) rfl ?_ hE ?_; rotate_left; (focus (intro w hSw; (try dsimp only at hSw);  go_simp; (try with_reducible rfl))); (try simp only [Act.put, List.setIfInBounds_toArray, List.set_cons_zero, List.set_cons_succ])
          refine tk 12 (v := ?_) rfl (by kernel_rfl) (by kernel_rfl) (by kernel_rfl) (fun _ _ _ h => h) rfl ?_ hE ?_; rotate_left; (focus (intro w hSw; (try dsimp only at hSw);  go_simp; (try with_reducible rfl))); (try simp only [Act.put, List.setIfInBounds_toArray, List.set_cons_zero, List.set_cons_succ])
          refine wpAnyH_done (by kernel_rfl) ?_ _
          go_wp2_with fail
          go_meet
          exact ⟨_, r, m, er, rfl, rfl, rfl, NW, HOUT.out, hE⟩
      · go_simp
        have nL := SG.ne hHeld
        have lN := (SG.bl hHeld).size
        refine hK.out _ _ (SG.alloc hHeld _) (fun hz0 => ?_)
        clear hK
        try simp only [Act.put, List.setIfInBounds_toArray, List.set_cons_zero, List.set_cons_succ]
        have NN := sg_newHD hz0
        generalize (wc.alloc (.cells (PA zPl) 33)).drew = w' at *
        refine only 3 rfl (by kernel_rfl) rfl (fun K hK => ?_)
        go_simp
        refine (MD.out _).mono ?_
        rintro e' w' ⟨A, d, rfl, SE, hb⟩
        try go_wp2_with fail
        have NN := NN.below hb
        refine hK.out _ _ (SG.below hz0 hb) (fun hz1 => ?_)
        clear hK hb
        try simp only [Act.put, List.setIfInBounds_toArray, List.set_cons_zero, List.set_cons_succ]
        refine only 4 rfl (by kernel_rfl) rfl (fun K hK => ?_)
        go_simp
        refine (AD.out A d _ SE).mono ?_
        rintro e' w' ⟨r, m, er, rfl, hout, hb⟩
        try go_wp2_with fail
        have NN := NN.below hb
        have SE := Se.below SE hb (Nat.le_refl _)
        have HOUT := hid hout
        clear hout
        refine hK.out _ _ (SG.below hz1 hb) (fun hz2 => ?_)
        clear hK hb
        try simp only [Act.put, List.setIfInBounds_toArray, List.set_cons_zero, List.set_cons_succ]
        refine tk 5 (v := ?_) rfl (by kernel_rfl) (by kernel_rfl) (by kernel_rfl) (fun _ _ _ h => h) rfl ?_ hz2 ?_; rotate_left; (focus (intro w hSw; (try dsimp only at hSw);  go_simp; (try with_reducible rfl))); (try simp only [Act.put, List.setIfInBounds_toArray, List.set_cons_zero, List.set_cons_succ])
        refine tk 6 (v := ?_) rfl (by kernel_rfl) (by kernel_rfl) (by kernel_rfl) (fun _ _ _ h => h) rfl ?_ hz2 ?_; rotate_left; (focus (intro w hSw; (try dsimp only at hSw);  go_simp; (try with_reducible rfl))); (try simp only [Act.put, List.setIfInBounds_toArray, List.set_cons_zero, List.set_cons_succ])
        refine tk 7 (v := ?_) rfl (by kernel_rfl) (by kernel_rfl) (by kernel_rfl) (fun _ _ _ h => h) rfl ?_ hz2 ?_; rotate_left; (focus (intro w hSw; (try dsimp only at hSw);  go_simp; (try with_reducible rfl))); (try simp only [Act.put, List.setIfInBounds_toArray, List.set_cons_zero, List.set_cons_succ])
        refine tk 8 (v := ?_) rfl (by kernel_rfl) (by kernel_rfl) (by kernel_rfl) (fun _ _ _ h => h) rfl ?_ hz2 ?_; rotate_left; (focus (intro w hSw; (try dsimp only at hSw);  go_simp; (try with_reducible rfl))); (try simp only [Act.put, List.setIfInBounds_toArray, List.set_cons_zero, List.set_cons_succ])
        have ST := NN.storeA r
        have NW := NN.whole r
        refine only 10 rfl (by kernel_rfl) rfl (fun K hK => ?_)
        refine ov_store rfl rfl rfl ST ?_
        refine hK.out _ _ (SG.sets hz2 nL (by simp) lN) (fun hE => ?_)
        clear hK
        try simp only [Act.put, List.setIfInBounds_toArray, List.set_cons_zero, List.set_cons_succ]
        refine tk 11 (v := ?_) rfl (by kernel_rfl) (by kernel_rfl) (by kernel_rfl) (fun _ _ _ h => h) rfl ?_ hE ?_; rotate_left; (focus (intro w hSw; (try dsimp only at hSw);  go_simp; (try with_reducible rfl))); (try simp only [Act.put, List.setIfInBounds_toArray, List.set_cons_zero, List.set_cons_succ])
        refine tk 12 (v := ?_) rfl (by kernel_rfl) (by kernel_rfl) (by kernel_rfl) (fun _ _ _ h => h) rfl ?_ hE ?_; rotate_left; (focus (intro w hSw; (try dsimp only at hSw);  go_simp; (try with_reducible rfl))); (try simp only [Act.put, List.setIfInBounds_toArray, List.set_cons_zero, List.set_cons_succ])
        refine wpAnyH_done (by kernel_rfl) ?_ _
        go_wp2_with fail
        go_meet
        exact ⟨_, r, m, er, rfl, rfl, rfl, NW, HOUT.out, hE⟩
    case rest =>
      obtain ⟨V, r, k, es, rfl, rfl, rfl, hV, hout, hS⟩ := hcut
      have S5 := hid (hS.cons hV)
      have FR := hid (FD.out _ _ _ hout)
      clear hS hV hout S4 MD AD FD
      obtain ⟨f1, f2, f3⟩ := FQ.out
      obtain ⟨f4, f5, f6⟩ := FR.out
      subst f1
      subst f4
      obtain ⟨st, hst⟩ : ∃ x, x = (p.s c).st := ⟨_, rfl⟩
      have hb0 := HST.out
      rw [← hst] at f3 f6 hb0
      have cp : wc.cell? ⟨P, 3 + c * 5, none⟩ = some (.int .i64 st) := by rw [hst]; exact (SG.get S5.out (b := P) (p := p) (by simp)).cs c 0 c64 (by omega)
      have cq : wc.cell? ⟨U, 3 + c * 5, none⟩ = some (.int .i64 (q.s c).st) := (SG.get S5.out (b := U) (p := q) (by simp)).cs c 0 c64 (by omega)
      have cr : wc.cell? ⟨V, 3 + c * 5, none⟩ = some (.int .i64 (r.s c).st) := (SG.get S5.out (b := V) (p := r) (by simp)).cs c 0 c64 (by omega)
      rw [f3] at cq
      rw [f6] at cr
      clear hst f3 f6 FQ FR HST
      have h5 : st = 0 ∨ st = 1 ∨ st = 2 ∨ st = 3 ∨ st = 4 := by omega
      clear hb0
      rcases h5 with rfl | rfl | rfl | rfl | rfl
      · rw [show (if (0 : Int) = 1 ∨ (0 : Int) = 3 then (2 : Int) else 0) = 0 from by decide] at cq
        rw [show (if (0 : Int) = 2 then (3 : Int) else 0) = 0 from by decide] at cr
        have LP := (SG.get S5.out (b := P) (p := p) (by simp)).loadA
        go_wp2_with ((with_reducible refine wl_id ?_); refine wl_load rfl rfl rfl LP ?_)
        clear LP cp cq cr
        refine (M0.out _).mono ?_
        rintro x w6 ⟨A6, d6, rfl, _, hb⟩
        have S6 := hid (S5.out.below hb)
        clear hb S5
        go_wp2_with fail
        go_ret
        exact ⟨rfl, S6.out.bl⟩
      · rw [show (if (1 : Int) = 1 ∨ (1 : Int) = 3 then (2 : Int) else 1) = 2 from by decide] at cq
        rw [show (if (1 : Int) = 2 then (3 : Int) else 1) = 1 from by decide] at cr
        have LP := (SG.get S5.out (b := P) (p := p) (by simp)).loadA
        go_wp2_with ((with_reducible refine wl_id ?_); refine wl_load rfl rfl rfl LP ?_)
        clear LP cp cq cr
        refine (M0.out _).mono ?_
        rintro x w6 ⟨A6, d6, rfl, _, hb⟩
        have S6 := hid (S5.out.below hb)
        clear hb S5
        go_wp2_with fail
        go_ret
        exact ⟨rfl, S6.out.bl⟩
      · rw [show (if (2 : Int) = 1 ∨ (2 : Int) = 3 then (2 : Int) else 2) = 2 from by decide] at cq
        rw [show (if (2 : Int) = 2 then (3 : Int) else 2) = 3 from by decide] at cr
        have LP := (SG.get S5.out (b := P) (p := p) (by simp)).loadA
        go_wp2_with ((with_reducible refine wl_id ?_); refine wl_load rfl rfl rfl LP ?_)
        clear LP cp cq cr
        refine (M0.out _).mono ?_
        rintro x w6 ⟨A6, d6, rfl, _, hb⟩
        have S6 := hid (S5.out.below hb)
        clear hb S5
        go_wp2_with fail
        go_ret
        exact ⟨rfl, S6.out.bl⟩
      · rw [show (if (3 : Int) = 1 ∨ (3 : Int) = 3 then (2 : Int) else 3) = 2 from by decide] at cq
        rw [show (if (3 : Int) = 2 then (3 : Int) else 3) = 3 from by decide] at cr
        have LP := (SG.get S5.out (b := P) (p := p) (by simp)).loadA
        go_wp2_with ((with_reducible refine wl_id ?_); refine wl_load rfl rfl rfl LP ?_)
        clear LP cp cq cr
        refine (M0.out _).mono ?_
        rintro x w6 ⟨A6, d6, rfl, _, hb⟩
        have S6 := hid (S5.out.below hb)
        clear hb S5
        go_wp2_with fail
        go_ret
        exact ⟨rfl, S6.out.bl⟩
      · rw [show (if (4 : Int) = 1 ∨ (4 : Int) = 3 then (2 : Int) else 4) = 4 from by decide] at cq
        rw [show (if (4 : Int) = 2 then (3 : Int) else 4) = 4 from by decide] at cr
        have LP := (SG.get S5.out (b := P) (p := p) (by simp)).loadA
        go_wp2_with ((with_reducible refine wl_id ?_); refine wl_load rfl rfl rfl LP ?_)
        clear LP cp cq cr
        refine (M0.out _).mono ?_
        rintro x w6 ⟨A6, d6, rfl, _, hb⟩
        have S6 := hid (S5.out.below hb)
        clear hb S5
        go_wp2_with fail
        go_ret
        exact ⟨rfl, S6.out.bl⟩

set_option maxRecDepth 100000 in
theorem lifted (os : Os) (started : os.Started) (H : Type) (enc : TypeId × Value → H) :
    ReturnsInHanded {} Tryd.checked os 5 .any (fun w args => (Rows.orderMarksSpec.pre enc Tryd.prog Tryd.f5 [] false w args ∧ laidMetH Tryd.prog Rows.orderMarksRow.laid w) ∧ sizedMet enc Tryd.prog Tryd.f5 (OpenSpec.ofChange Rows.orderMarksSpec) false w args) (Rows.orderMarksSpec.post enc Tryd.prog Tryd.f5 false true false false) :=
  law_door (s := Rows.orderMarksSpec) (laid := Rows.orderMarksRow.laid) started (by kernel_rfl) Tryd.func5
    (ChangeSpec.witness_shaped (enc := enc) (C := Tryd.checked) (os := os) (X := fun w _ => laidMetH Tryd.prog Rows.orderMarksRow.laid w) false (World.laidAll Tryd.prog os Rows.orderMarksRow.laid) #[.slice none 0 0, .int .i64 0] 8 (World.laidAll_os _ _ _)
      (World.shaped_of_ZipB (by kernel_rfl) (by kernel_rfl)) (by kernel_rfl) (by kernel_rfl) (by kernel_rfl)
      (by rw [MakeChecks.laidMetH_plain _ _ _ (by kernel_rfl)]; exact laidMet_laidAll _ (by kernel_rfl) (by kernel_rfl)))
    rfl (by rw [Tryd.params5]; decide +kernel) rfl Tryd.underlying4
    (fun ds h => by
      rw [Tryd.params5] at h
      match ds, h with
      | [_, _], _ => rfl)
    (fun W base args ds ps hsh hval hA hsz => by
      rw [Tryd.params5] at hA hval hsz
      obtain ⟨v0, vs0, d0, ds0, p0, q0, hargs, rfl, rfl, h0, r0⟩ := trodAll_cons hA
      obtain ⟨v1, vs1, d1, ds1, p1, q1, rfl, rfl, rfl, h1, r1⟩ := trodAll_cons r0
      obtain ⟨rfl, rfl, rfl⟩ := trodAll_nil r1
      obtain rfl : args = #[v0, v1] := by cases args; simp_all
      obtain ⟨A0, n0, c0, g0, rfl, hn0, hc0, hs0, hw0, hl0, hd0⟩ := open_row Tryd.underlying22 Tryd.underlying3 (by kernel_rfl) (hval 0 22 v0 rfl rfl) h0
      have re0 : c0 * 8 ≤ 140737488351232 := by
        rcases hd0 with ⟨_, h0⟩ | ⟨xs, ys, h1, h2⟩
        · omega
        · have := sized_slice hsz (j := 0) (t := 22) (e := 3) rfl (by rw [h1]; rfl) Tryd.underlying22
          rw [h2, show Tryd.prog.bytesOf 3 = 8 from by kernel_rfl] at this
          simpa [reachBytes] using this
      obtain ⟨a1, rfl, rfl, rfl, w1⟩ := open_int Tryd.underlying3 (hval 1 3 v1 rfl rfl) h1
      exact walk W hsh A0 n0 c0 g0 hn0 hc0 hs0 (fun j => bounds_i64 (hw0 j)) hl0 re0 a1 (bounds_i64 w1))

theorem holds : Rows.OrderMarksSaid :=
  OpenClaim.holds_of_wide 5 Tryd.f5 rfl rfl rfl rfl rfl rfl rfl ⟨rfl, rfl, rfl, rfl, rfl⟩ rfl rfl rfl rfl rfl (by kernel_rfl) Tryd.func5 (by kernel_rfl)
    (of_decide_eq_true (by kernel_rfl)) (by unfold Func.isWrapper; first | (rw [if_pos (by decide +kernel)]; kernel_rfl) | (rw [if_neg (by decide +kernel)]; exact ⟨rfl, rfl⟩))
    (fun os started H enc _ => lifted os started H enc)
theorem proved : Rows.OrderMarksCardSaid :=
  Claim7.holds_tied_plain_at .later [] Rows.orderMarksCard.laidKinds true Rows.orderMarksCard.stood.harness false holds (fun _ h => by cases h) (by kernel_rfl) (fun _ h => by cases h) orderMarks_row_tie rfl ⟨rfl, rfl⟩ (by kernel_rfl) rfl
    (fun f fn hf hfn => by
      obtain rfl : f = 5 := Option.some.inj ((show Tryd.prog.funcNamed Rows.orderMarksRow.func = some 5 by kernel_rfl).symm.trans hf) |>.symm
      obtain rfl : fn = Tryd.f5 := (Option.some.inj (Tryd.func5.symm.trans hfn)).symm
      exact ⟨by kernel_rfl, fun j t ht => by
        rw [Tryd.params5] at ht
        have hm : t ∈ [22, 3] := by simpa using Array.mem_of_getElem? ht
        have hall : ([22, 3].all fun u => !Tryd.prog.wantsStandIn u) = true := by kernel_rfl
        exact (show Tryd.prog.wantsStandIn t = false by simpa using List.all_eq_true.1 hall t hm)⟩)
    (by kernel_rfl)
end Go.Proofs.YtljgcffpijjliaaDoor.orderMarks
