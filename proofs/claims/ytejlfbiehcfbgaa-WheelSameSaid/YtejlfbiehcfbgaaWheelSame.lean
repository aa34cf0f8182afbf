/- roundhouselaw7.WheelSame answers true for every row, any number; no condition. -/
import Derived.Test.YtejlfbiehcfbgaaWhlLaw3
import Derived.Deep.CutRange
import Derived.Deep.LoopGhost
import Derived.BigQuiet
import Derived.Deep.RegionHeld3
import Derived.Deep.Cut
namespace Go.Proofs.Ytejlfbiehcfbgaa.wheelSame
set_option linter.unusedVariables false
set_option linter.unusedSimpArgs false
open Go.RowKit Go.ChangeShapes Go.WideShapes Go.ChangeAt

/-- The same slots take turns, and are as they were. -/
def SA (p q : Pl) : Prop := ∀ i, ((q.s i).st = 2 ↔ (p.s i).st = 2) ∧ ((p.s i).st = 2 → q.s i = p.s i)
theorem SA.refl (p : Pl) {k : Ky} : SA p (nxP p ⟨6, 0, 0, 0, 0, k⟩) := fun i => ⟨Iff.rfl, fun _ => rfl⟩
theorem SA.shut {p q : Pl} (h : SA p q) {c : Nat} (hc : (q.s c).st = 1 ∨ (q.s c).st = 3) : SA p (nxP q ⟨4, (c : Int), 0, 0, 0, zKy⟩) := by
  intro i
  have hs : (nxP q ⟨4, (c : Int), 0, 0, 0, zKy⟩).s i = if i = c then { q.s c with st := 4, si := q.r.e } else q.s i := by
    unfold nxP setS chS
    simp
  rw [hs]
  by_cases e : i = c
  · subst e
    rw [if_pos rfl]
    have hn : (p.s i).st ≠ 2 := fun h2 => by have := (h i).1.2 h2; omega
    exact ⟨⟨fun h4 => absurd h4 (by show ¬ (4 : Int) = 2; decide), fun h4 => absurd h4 hn⟩, fun h4 => absurd h4 hn⟩
  · rw [if_neg e]; exact h i
theorem wk_zero (wt a b : Nat → Nat) : wkW wt a b 0 = fun _ => -1 := rfl
theorem wk_succ (wt a b : Nat → Nat) (k : Nat) : wkW wt a b (k + 1) = putW (wkW wt a b k) (posW (a (slW wt (k % offW wt 64))) (b (slW wt (k % offW wt 64))) (ffW (wkW wt a b k) (a (slW wt (k % offW wt 64))) (b (slW wt (k % offW wt 64))))) (slW wt (k % offW wt 64)) := rfl
theorem whl_sa {p q : Pl} (h : SA p q) : whlW q = whlW p := by
  have hwt : wtP q = wtP p := by
    funext i
    unfold wtP
    by_cases h2 : (p.s i).st = 2
    · rw [if_pos h2, if_pos ((h i).1.2 h2), (h i).2 h2]
    · rw [if_neg h2, if_neg (fun h3 => h2 ((h i).1.1 h3))]
  have hab : ∀ i, 0 < wtP p i → atP q i = atP p i ∧ byP q i = byP p i := by
    intro i hi
    have h2 : (p.s i).st = 2 := by
      by_cases h2 : (p.s i).st = 2
      · exact h2
      · unfold wtP at hi; rw [if_neg h2] at hi; omega
    unfold atP byP
    rw [(h i).2 h2]
    exact ⟨rfl, rfl⟩
  unfold whlW
  rw [hwt]
  by_cases hT : offW (wtP p) 64 = 0
  · exact (if_pos hT).trans (if_pos hT).symm
  · refine ((if_neg hT).trans ?_).trans (if_neg hT).symm
    have key : ∀ k, wkW (wtP p) (atP q) (byP q) k = wkW (wtP p) (atP p) (byP p) k := by
      intro k
      induction k with
      | zero => rw [wk_zero, wk_zero]
      | succ k ih =>
        obtain ⟨s, n, h1, h2, h3⟩ := sl_of (wt := wtP p) (r := k % offW (wtP p) 64) (Nat.mod_lt _ (by omega))
        have hsl : slW (wtP p) (k % offW (wtP p) 64) = s := by rw [h3]; exact sl_eq h1 h2
        obtain ⟨ha, hb⟩ := hab s (by omega)
        rw [wk_succ, wk_succ, hsl, ha, hb, ih]
    exact key 127
attribute [local irreducible] PA ia cAt cBy atP byP wtP S3 sumW S5 pkW
set_option maxRecDepth 100000 in
set_option maxHeartbeats 8000000 in
theorem walk (W : World) (A1 : Option Addr) (n1 c1 : Nat) (g1 : Nat → Int) (hn1 : n1 ≤ c1) (hc1 : c1 ≤ maxLen) (hr1 : Is W A1 n1 g1) (hg1 : IsI g1) (hl1 : ∀ ad, A1 = some ad → 0 < n1 → ad.block < W.heap.size) (re1 : c1 * 8 ≤ 140737488351232) (a0 : Int) (r_a0 : -9223372036854775808 ≤ a0 ∧ a0 ≤ 9223372036854775807) :
    Calls Try.prog 5 #[.slice A1 n1 c1, .int .i64 a0] W fun e w' => e = .returned (.bool true) ∧ Below W.heap.size W w' := by
  have hz : ∀ w : World, (zeroValue 33).run Try.prog w = .ok (.agg (PA zPl)) w := fun w => zero_pl w
  have hz1 := pa_size zPl
  have hz2 := pa_ne zPl
  unfold maxLen at hc1
  have hnm : (n1 : Int) ≤ 9223372036854775807 := by have := hn1; omega
  have HL := hid hl1
  clear hl1 re1
  obtain ⟨p, hp⟩ : ∃ p, p = mkP g1 (min n1 60) := ⟨_, rfl⟩
  have HQ := hid (show Pinv p 60 from by rw [hp]; exact (mkP_inv g1 _).mono (by omega))
  have HPW := hid (show Pw p from by rw [hp]; exact mk_pw g1 _)
  have MK := hid (fun (w : World) (h : Is w A1 n1 g1) (hl : ∀ ad, A1 = some ad → 0 < n1 → ad.block < w.heap.size) => (show Calls Try.prog 14 #[.slice A1 n1 c1, .int .i64 60] w fun x w' => x = .returned (.agg (PA p)) ∧ Below w.heap.size w w' from by rw [hp]; exact make_any w A1 n1 c1 g1 h hl hnm 60 (by omega)))
  clear hp
  obtain ⟨ka, hka⟩ : ∃ ka, ka = kyN a0 := ⟨_, rfl⟩
  have LA := fun w => lkey_any a0 w
  rw [← hka] at LA
  clear hka
  unfold kyV at LA
  replace LA := hid LA
  obtain ⟨q, hq⟩ : ∃ q, q = nxP p ⟨6, 0, 0, 0, 0, ka⟩ := ⟨_, rfl⟩
  have AP := hid (show ∀ w, Calls Try.prog 24 #[.agg (PA p), .agg #[.int .i64 6, .int .i64 0, .int .i64 0, .int .i64 0, .int .i64 0, .int .u64 ka.a, .int .u64 ka.b]] w fun x w' => x = .returned (.tuple #[.agg (PA q), .int .i64 0]) ∧ Below w.heap.size w w' from fun w => re_v (rapply_any p ⟨6, 0, 0, 0, 0, ka⟩ (HQ.out.pb (by omega)) w) (by rw [q_rot, hq]; rfl))
  have HSA := hid (show SA p q from by rw [hq]; exact SA.refl p)
  have HIQ := hid (show Pinv q 61 from by rw [hq]; exact (nxP_inv HQ.out _ (by show (0 : Int).toNat < 64; decide)).mono (by omega))
  have HWQ := hid (show Pw q from by rw [hq]; have h := HPW.out.step (e := ⟨6, 0, 0, 0, 0, ka⟩) (by rw [q_rot]); rw [q_rot] at h; exact h)
  clear hq
  have M0 := hid (show ∀ w, Calls Try.prog 15 #[.agg (PA p)] w fun x w' => ∃ B : Nat, x = .returned (.slice (some ⟨B, 0, none⟩) 127 127) ∧ w.heap.size ≤ B ∧ IA w' B 127 (whlW p) ∧ Below w.heap.size w w' from fun w => make7_any p HPW.out w)
  go_enter Try.func5, Try.ntmps5
  go_wp2_with fail
  refine (known7_any _).mono ?_
  rintro x w1 ⟨rfl, hB⟩
  have R1 := hid (hr1.below hB (Nat.le_refl _))
  have B1 := hid hB
  clear hr1 hB
  go_wp2_with fail
  refine (MK.out _ R1.out (fun ad e h => Nat.lt_of_lt_of_le (HL.out ad e h) B1.out.size)).mono ?_
  rintro x w2 ⟨rfl, hb⟩
  have S2 := hid ((SG.start B1.out).below hb)
  clear hb R1 B1 MK
  have ST := hid ((sg_new (w := w2) (T := 33)).storeA p)
  have S3 := hid (SG.put S2.out (T := 33) zPl p (by simp))
  go_upto_region 4 with ((with_reducible refine wl_id ?_); refine wl_store rfl rfl rfl rfl ST.out ?_)
  clear ST S2
  generalize (w2.alloc (.cells (PA zPl) 33)).setCells w2.heap.size 0 (PA p).toList = w3 at *
  generalize w2.heap.size = P at *
  try simp only [Act.put, List.setIfInBounds_toArray, List.set_cons_zero, List.set_cons_succ]
  go_cut [6, 7] from 14 to 22 (fun u v wx => ∃ U : Nat, u = .pointer (some ⟨U, 0, none⟩) ∧ PoolAt wx U q ∧ W.heap.size ≤ U ∧ U ≠ P ∧ SG W wx [(P, p)] [])
  case first =>
    refine wp_region_held_drew (S := fun w' => SG W w' [(P, p)] []) (by kernel_rfl) ?_ (fun hHeld => ?_)
    · exact S3.out.drew
    refine tk 0 (v := .agg (PA p)) rfl (by kernel_rfl) (by kernel_rfl) (by kernel_rfl) (fun _ _ _ h => h) rfl (fun w hSw => ex_load rfl rfl (SG.get hSw (b := P) (p := p) (by simp)).loadA) hHeld ?_; (try simp only [Act.put, List.setIfInBounds_toArray, List.set_cons_zero, List.set_cons_succ])
    refine tk 1 (v := ?_) rfl (by kernel_rfl) (by kernel_rfl) (by kernel_rfl) (fun _ _ _ h => h) rfl ?_ hHeld ?_; rotate_left; (focus (intro w hSw; (try dsimp only at hSw);  go_simp; (try with_reducible rfl))); (try simp only [Act.put, List.setIfInBounds_toArray, List.set_cons_zero, List.set_cons_succ])
    refine twoUp 2 8 rfl rfl (by kernel_rfl) rfl rfl (fun K hK => ?_) (fun K hK => ?_)
    · go_simp
      refine (LA.out _).mono ?_
      rintro e' w' ⟨rfl, hb⟩
      try go_wp2_with fail
      refine hK.out _ _ (SG.below hHeld hb) (fun hz0 => ?_)
      clear hK hb
      try simp only [Act.put, List.setIfInBounds_toArray, List.set_cons_zero, List.set_cons_succ]
      refine tk 3 (v := ?_) rfl (by kernel_rfl) (by kernel_rfl) (by kernel_rfl) (fun _ _ _ h => h) rfl ?_ hz0 ?_; rotate_left; (focus (intro w hSw; (try dsimp only at hSw);  go_simp; (try with_reducible rfl))); (try simp only [Act.put, List.setIfInBounds_toArray, List.set_cons_zero, List.set_cons_succ])
      refine twoUp 4 8 rfl rfl (by kernel_rfl) rfl rfl (fun K hK => ?_) (fun K hK => ?_)
      · go_simp
        refine (AP.out _).mono ?_
        rintro e' w' ⟨rfl, hb⟩
        try go_wp2_with fail
        refine hK.out _ _ (SG.below hz0 hb) (fun hz1 => ?_)
        clear hK hb
        try simp only [Act.put, List.setIfInBounds_toArray, List.set_cons_zero, List.set_cons_succ]
        refine tk 5 (v := ?_) rfl (by kernel_rfl) (by kernel_rfl) (by kernel_rfl) (fun _ _ _ h => h) rfl ?_ hz1 ?_; rotate_left; (focus (intro w hSw; (try dsimp only at hSw);  go_simp; (try with_reducible rfl))); (try simp only [Act.put, List.setIfInBounds_toArray, List.set_cons_zero, List.set_cons_succ])
        refine tk 6 (v := ?_) rfl (by kernel_rfl) (by kernel_rfl) (by kernel_rfl) (fun _ _ _ h => h) rfl ?_ hz1 ?_; rotate_left; (focus (intro w hSw; (try dsimp only at hSw);  go_simp; (try with_reducible rfl))); (try simp only [Act.put, List.setIfInBounds_toArray, List.set_cons_zero, List.set_cons_succ])
        refine tk 7 (v := ?_) rfl (by kernel_rfl) (by kernel_rfl) (by kernel_rfl) (fun _ _ _ h => h) rfl ?_ hz1 ?_; rotate_left; (focus (intro w hSw; (try dsimp only at hSw);  go_simp; (try with_reducible rfl))); (try simp only [Act.put, List.setIfInBounds_toArray, List.set_cons_zero, List.set_cons_succ])
        refine only 8 rfl (by kernel_rfl) rfl (fun K hK => ?_)
        go_simp
        have nL := SG.ne hz1
        have lN := (SG.bl hz1).size
        refine hK.out _ _ (SG.alloc hz1 _) (fun hz2 => ?_)
        clear hK
        try simp only [Act.put, List.setIfInBounds_toArray, List.set_cons_zero, List.set_cons_succ]
        have NN := sg_newH hz2
        generalize w'.alloc (.cells (PA zPl) 33) = w' at *
        have ST := NN.storeA q
        have NW := NN.whole q
        refine only 9 rfl (by kernel_rfl) rfl (fun K hK => ?_)
        refine ov_store rfl rfl rfl ST ?_
        refine hK.out _ _ (SG.sets hz2 nL (by simp) lN) (fun hE => ?_)
        clear hK
        try simp only [Act.put, List.setIfInBounds_toArray, List.set_cons_zero, List.set_cons_succ]
        refine tk 10 (v := ?_) rfl (by kernel_rfl) (by kernel_rfl) (by kernel_rfl) (fun _ _ _ h => h) rfl ?_ hE ?_; rotate_left; (focus (intro w hSw; (try dsimp only at hSw);  go_simp; (try with_reducible rfl))); (try simp only [Act.put, List.setIfInBounds_toArray, List.set_cons_zero, List.set_cons_succ])
        refine wpAnyH_done (by kernel_rfl) ?_ _
        go_wp2_with fail
        go_meet
        exact ⟨_, rfl, NW, lN, nL (P, p) (by simp), hE⟩
      · go_simp
        have nL := SG.ne hz0
        have lN := (SG.bl hz0).size
        refine hK.out _ _ (SG.alloc hz0 _) (fun hz1 => ?_)
        clear hK
        try simp only [Act.put, List.setIfInBounds_toArray, List.set_cons_zero, List.set_cons_succ]
        have NN := sg_newH hz1
        generalize w'.alloc (.cells (PA zPl) 33) = w' at *
        refine only 4 rfl (by kernel_rfl) rfl (fun K hK => ?_)
        go_simp
        refine (AP.out _).mono ?_
        rintro e' w' ⟨rfl, hb⟩
        try go_wp2_with fail
        have NN := NN.below hb
        refine hK.out _ _ (SG.below hz1 hb) (fun hz2 => ?_)
        clear hK hb
        try simp only [Act.put, List.setIfInBounds_toArray, List.set_cons_zero, List.set_cons_succ]
        refine tk 5 (v := ?_) rfl (by kernel_rfl) (by kernel_rfl) (by kernel_rfl) (fun _ _ _ h => h) rfl ?_ hz2 ?_; rotate_left; (focus (intro w hSw; (try dsimp only at hSw);  go_simp; (try with_reducible rfl))); (try simp only [Act.put, List.setIfInBounds_toArray, List.set_cons_zero, List.set_cons_succ])
        refine tk 6 (v := ?_) rfl (by kernel_rfl) (by kernel_rfl) (by kernel_rfl) (fun _ _ _ h => h) rfl ?_ hz2 ?_; rotate_left; (focus (intro w hSw; (try dsimp only at hSw);  go_simp; (try with_reducible rfl))); (try simp only [Act.put, List.setIfInBounds_toArray, List.set_cons_zero, List.set_cons_succ])
        refine tk 7 (v := ?_) rfl (by kernel_rfl) (by kernel_rfl) (by kernel_rfl) (fun _ _ _ h => h) rfl ?_ hz2 ?_; rotate_left; (focus (intro w hSw; (try dsimp only at hSw);  go_simp; (try with_reducible rfl))); (try simp only [Act.put, List.setIfInBounds_toArray, List.set_cons_zero, List.set_cons_succ])
        have ST := NN.storeA q
        have NW := NN.whole q
        refine only 9 rfl (by kernel_rfl) rfl (fun K hK => ?_)
        refine ov_store rfl rfl rfl ST ?_
        refine hK.out _ _ (SG.sets hz2 nL (by simp) lN) (fun hE => ?_)
        clear hK
        try simp only [Act.put, List.setIfInBounds_toArray, List.set_cons_zero, List.set_cons_succ]
        refine tk 10 (v := ?_) rfl (by kernel_rfl) (by kernel_rfl) (by kernel_rfl) (fun _ _ _ h => h) rfl ?_ hE ?_; rotate_left; (focus (intro w hSw; (try dsimp only at hSw);  go_simp; (try with_reducible rfl))); (try simp only [Act.put, List.setIfInBounds_toArray, List.set_cons_zero, List.set_cons_succ])
        refine wpAnyH_done (by kernel_rfl) ?_ _
        go_wp2_with fail
        go_meet
        exact ⟨_, rfl, NW, lN, nL (P, p) (by simp), hE⟩
    · go_simp
      have nL := SG.ne hHeld
      have lN := (SG.bl hHeld).size
      refine hK.out _ _ (SG.alloc hHeld _) (fun hz0 => ?_)
      clear hK
      try simp only [Act.put, List.setIfInBounds_toArray, List.set_cons_zero, List.set_cons_succ]
      have NN := sg_newHD hz0
      generalize (w3.alloc (.cells (PA zPl) 33)).drew = w' at *
      refine only 2 rfl (by kernel_rfl) rfl (fun K hK => ?_)
      go_simp
      refine (LA.out _).mono ?_
      rintro e' w' ⟨rfl, hb⟩
      try go_wp2_with fail
      have NN := NN.below hb
      refine hK.out _ _ (SG.below hz0 hb) (fun hz1 => ?_)
      clear hK hb
      try simp only [Act.put, List.setIfInBounds_toArray, List.set_cons_zero, List.set_cons_succ]
      refine tk 3 (v := ?_) rfl (by kernel_rfl) (by kernel_rfl) (by kernel_rfl) (fun _ _ _ h => h) rfl ?_ hz1 ?_; rotate_left; (focus (intro w hSw; (try dsimp only at hSw);  go_simp; (try with_reducible rfl))); (try simp only [Act.put, List.setIfInBounds_toArray, List.set_cons_zero, List.set_cons_succ])
      refine only 4 rfl (by kernel_rfl) rfl (fun K hK => ?_)
      go_simp
      refine (AP.out _).mono ?_
      rintro e' w' ⟨rfl, hb⟩
      try go_wp2_with fail
      have NN := NN.below hb
      refine hK.out _ _ (SG.below hz1 hb) (fun hz2 => ?_)
      clear hK hb
      try simp only [Act.put, List.setIfInBounds_toArray, List.set_cons_zero, List.set_cons_succ]
      refine tk 5 (v := ?_) rfl (by kernel_rfl) (by kernel_rfl) (by kernel_rfl) (fun _ _ _ h => h) rfl ?_ hz2 ?_; rotate_left; (focus (intro w hSw; (try dsimp only at hSw);  go_simp; (try with_reducible rfl))); (try simp only [Act.put, List.setIfInBounds_toArray, List.set_cons_zero, List.set_cons_succ])
      refine tk 6 (v := ?_) rfl (by kernel_rfl) (by kernel_rfl) (by kernel_rfl) (fun _ _ _ h => h) rfl ?_ hz2 ?_; rotate_left; (focus (intro w hSw; (try dsimp only at hSw);  go_simp; (try with_reducible rfl))); (try simp only [Act.put, List.setIfInBounds_toArray, List.set_cons_zero, List.set_cons_succ])
      refine tk 7 (v := ?_) rfl (by kernel_rfl) (by kernel_rfl) (by kernel_rfl) (fun _ _ _ h => h) rfl ?_ hz2 ?_; rotate_left; (focus (intro w hSw; (try dsimp only at hSw);  go_simp; (try with_reducible rfl))); (try simp only [Act.put, List.setIfInBounds_toArray, List.set_cons_zero, List.set_cons_succ])
      have ST := NN.storeA q
      have NW := NN.whole q
      refine only 9 rfl (by kernel_rfl) rfl (fun K hK => ?_)
      refine ov_store rfl rfl rfl ST ?_
      refine hK.out _ _ (SG.sets hz2 nL (by simp) lN) (fun hE => ?_)
      clear hK
      try simp only [Act.put, List.setIfInBounds_toArray, List.set_cons_zero, List.set_cons_succ]
      refine tk 10 (v := ?_) rfl (by kernel_rfl) (by kernel_rfl) (by kernel_rfl) (fun _ _ _ h => h) rfl ?_ hE ?_; rotate_left; (focus (intro w hSw; (try dsimp only at hSw);  go_simp; (try with_reducible rfl))); (try simp only [Act.put, List.setIfInBounds_toArray, List.set_cons_zero, List.set_cons_succ])
      refine wpAnyH_done (by kernel_rfl) ?_ _
      go_wp2_with fail
      go_meet
      exact ⟨_, rfl, NW, lN, nL (P, p) (by simp), hE⟩
  case rest =>
    obtain ⟨Q, rfl, hQ, lQ, dQP, hS⟩ := hcut
    have S4 := hid (hS.cons hQ)
    clear hQ hS S3 AP LA HQ
    have dPQ := Ne.symm dQP
    go_wp2_with fail
    go_loopg [8] 64 (fun gh i wr => ∃ (k : Nat) (q : Pl), gh = 64 - k ∧ k ≤ 64 ∧ i = .int .i64 (k : Int) ∧ SA p q ∧ Pinv q (61 + k) ∧ Pw q ∧ SG W wr [(Q, q), (P, p)] [])
    case atStart => exact ⟨0, q, rfl, by omega, rfl, HSA.out, HIQ.out.mono (by omega), HWQ.out, S4.out⟩
    case round =>
      clear S4 HSA HIQ HWQ
      obtain ⟨k, q, rfl, hk, rfl, hsa, hiq, hwq, hS⟩ := hrel
      have HSA := hid hsa
      have HIQ := hid hiq
      have HWQ := hid hwq
      have S5 := hid hS
      clear hsa hiq hwq hS
      by_cases hlt : k < 64
      · have i0 : (0 : Int) ≤ k := by omega
        have i1 : (k : Int) < 64 := by omega
        have cs : wr.cell? ⟨Q, 3 + k * 5, none⟩ = some (.int .i64 (q.s k).st) := (SG.get S5.out (b := Q) (p := q) (by simp)).cs k 0 hlt (by omega)
        by_cases h13 : (q.s k).st = 1 ∨ (q.s k).st = 3
        · have hok := shut_ok hlt h13
          have AS := hid (show ∀ w, Calls Try.prog 24 #[.agg (PA q), .agg #[.int .i64 4, .int .i64 (k : Int), .int .i64 0, .int .i64 0, .int .i64 0, .int .u64 0, .int .u64 0]] w fun x w' => x = .returned (.tuple #[.agg (PA (nxP q ⟨4, (k : Int), 0, 0, 0, zKy⟩)), .int .i64 0]) ∧ Below w.heap.size w w' from fun w => re_v (rapply_any q ⟨4, (k : Int), 0, 0, 0, zKy⟩ (HIQ.out.pb (by omega)) w) (by rw [hok]; rfl))
          have SA2 := hid (HSA.out.shut (c := k) h13)
          have IQ2 := hid (show Pinv (nxP q ⟨4, (k : Int), 0, 0, 0, zKy⟩) (61 + ((k + 1 : Nat) : Int)) from (nxP_inv HIQ.out _ (by simpa using hlt)).mono (by omega))
          have WQ2 := hid (show Pw (nxP q ⟨4, (k : Int), 0, 0, 0, zKy⟩) from by have h := HWQ.out.step (e := ⟨4, (k : Int), 0, 0, 0, zKy⟩) (by rw [hok]); rw [hok] at h; exact h)
          clear hok HSA HIQ HWQ
          generalize nxP q ⟨4, (k : Int), 0, 0, 0, zKy⟩ = q2 at *
          have b13 : ((q.s k).st == 1) = true ∨ ((q.s k).st == 1) = false ∧ ((q.s k).st == 3) = true := by rcases h13 with h | h; (left; rw [h]; rfl); (right; rw [h]; exact ⟨rfl, rfl⟩)
          clear h13
          have LQ := (SG.get S5.out (b := Q) (p := q) (by simp)).loadA
          rcases b13 with b1 | ⟨b1, b3⟩
          all_goals
            go_wp2_with ((with_reducible refine wl_id ?_); refine wl_load rfl rfl rfl LQ ?_)
            clear LQ cs
            refine (AS.out _).mono ?_
            rintro x w6 ⟨rfl, hb⟩
            have S6 := hid (S5.out.below hb)
            clear hb S5 AS
            have Q6 := SG.get S6.out (b := Q) (p := q) (by simp)
            have ST := hid (Q6.storeA q2)
            have S7 := hid ((SG.sets (S6.out.less (L' := [(P, p)]) (fun x hx => by simp at hx; subst hx; simp)) (c := Q) (o := 0) (vs := (PA q2).toList) (fun x hx => by simp at hx; subst hx; exact dQP) (by simp) lQ).cons (Q6.whole q2))
            clear Q6 S6
            go_wp2_with ((with_reducible refine wl_id ?_); refine wl_store rfl rfl rfl rfl ST.out ?_)
            clear ST
            skip
            go_roundg (64 - (k + 1))
            case measure => omega
            case rel => exact ⟨k + 1, q2, rfl, by omega, by go_num, SA2.out, IQ2.out, WQ2.out, S7.out⟩
        · have b1 : ((q.s k).st == 1) = false := by rw [beq_eq_false_iff_ne]; exact fun h => h13 (.inl h)
          have b3 : ((q.s k).st == 3) = false := by rw [beq_eq_false_iff_ne]; exact fun h => h13 (.inr h)
          clear h13
          go_wp2_with fail
          go_roundg (64 - (k + 1))
          case measure => omega
          case rel => exact ⟨k + 1, q, rfl, by omega, by go_num, HSA.out, HIQ.out.mono (by omega), HWQ.out, S5.out⟩
      · have e : k = 64 := by omega
        subst e
        have M1 := hid (show ∀ w, Calls Try.prog 15 #[.agg (PA q)] w fun x w' => ∃ B : Nat, x = .returned (.slice (some ⟨B, 0, none⟩) 127 127) ∧ w.heap.size ≤ B ∧ IA w' B 127 (whlW q) ∧ Below w.heap.size w w' from fun w => make7_any q HWQ.out w)
        have HW := hid (whl_sa HSA.out)
        clear HSA HIQ HWQ
        go_upto_region 11 with (fail)
        refine wp_region_held_drew (S := fun w' => SG W w' [(Q, q), (P, p)] []) (by kernel_rfl) ?_ (fun hHeld => ?_)
        · exact S5.out.drew
        refine tk 0 (v := .agg (PA p)) rfl (by kernel_rfl) (by kernel_rfl) (by kernel_rfl) (fun _ _ _ h => h) rfl (fun w hSw => ex_load rfl rfl (SG.get hSw (b := P) (p := p) (by simp)).loadA) hHeld ?_; (try simp only [Act.put, List.setIfInBounds_toArray, List.set_cons_zero, List.set_cons_succ])
        refine tk 2 (v := .agg (PA q)) rfl (by kernel_rfl) (by kernel_rfl) (by kernel_rfl) (fun _ _ _ h => h) rfl (fun w hSw => ex_load rfl rfl (SG.get hSw (b := Q) (p := q) (by simp)).loadA) hHeld ?_; (try simp only [Act.put, List.setIfInBounds_toArray, List.set_cons_zero, List.set_cons_succ])
        refine only 1 rfl (by kernel_rfl) rfl (fun K hK => ?_)
        go_simp
        refine (M0.out _).mono ?_
        rintro e' w' ⟨B1, rfl, l1, hI1, hb⟩
        try go_wp2_with fail
        refine hK.out _ _ (SG.below hHeld hb) (fun h1 => ?_)
        clear hK hb
        try simp only [Act.put, List.setIfInBounds_toArray, List.set_cons_zero, List.set_cons_succ]
        refine only 3 rfl (by kernel_rfl) rfl (fun K hK => ?_)
        go_simp
        refine (M1.out _).mono ?_
        rintro e' w' ⟨B2, rfl, l2, hI2, hb⟩
        try go_wp2_with fail
        have hI3 := hI1.below hb
        refine hK.out _ _ (SG.below h1 hb) (fun h2 => ?_)
        clear hK hb
        try simp only [Act.put, List.setIfInBounds_toArray, List.set_cons_zero, List.set_cons_succ]
        refine only 4 rfl (by kernel_rfl) rfl (fun K hK => ?_)
        go_simp
        refine (same_any (some ⟨B1, 0, none⟩) (some ⟨B2, 0, none⟩) 127 127 127 _ _ _ hI3.slice hI2.slice (fun j _ => by rw [HW.out]) (by decide)).mono ?_
        rintro e' w' ⟨rfl, hb⟩
        try go_wp2_with fail
        refine hK.out _ _ (SG.below h2 hb) (fun h3 => ?_)
        clear hK hb
        try simp only [Act.put, List.setIfInBounds_toArray, List.set_cons_zero, List.set_cons_succ]
        refine tk 5 (v := ?_) rfl (by kernel_rfl) (by kernel_rfl) (by kernel_rfl) (fun _ _ _ h => h) rfl ?_ h3 ?_; rotate_left; (focus (intro w hSw; (try dsimp only at hSw);  go_simp; (try with_reducible rfl))); (try simp only [Act.put, List.setIfInBounds_toArray, List.set_cons_zero, List.set_cons_succ])
        refine wpAnyH_done (by kernel_rfl) ?_ _
        go_wp2_with fail
        go_ret
        exact ⟨rfl, h3.bl⟩

set_option maxRecDepth 100000 in
theorem lifted (os : Os) (started : os.Started) (H : Type) (enc : TypeId × Value → H) :
    ReturnsInHanded {} Try.checked os 5 .any (Rows.wheelSameSpec.pre6 enc Try.prog Try.f5 [] false) (Rows.wheelSameSpec.post enc Try.prog Try.f5 false true false false) :=
  law_step (s := Rows.wheelSameSpec) started (by kernel_rfl) Try.func5
    (ChangeSpec.witness6 (s := Rows.wheelSameSpec) (enc := enc) (C := Try.checked) false ⟨#[], #[.slice none 0 0, .int .i64 0], []⟩ 8 (by kernel_rfl) (by kernel_rfl) (by kernel_rfl) (by kernel_rfl))
    rfl (by rw [Try.params5]; decide +kernel) rfl Try.underlying4
    (fun ds h => by
      rw [Try.params5] at h
      match ds, h with
      | [_, _], _ => rfl)
    (fun W base args ds ps hval hA hsz => by
      rw [Try.params5] at hA hval hsz
      obtain ⟨v0, vs0, d0, ds0, p0, q0, hargs, rfl, rfl, h0, r0⟩ := trodAll_cons hA
      obtain ⟨v1, vs1, d1, ds1, p1, q1, rfl, rfl, rfl, h1, r1⟩ := trodAll_cons r0
      obtain ⟨rfl, rfl, rfl⟩ := trodAll_nil r1
      obtain rfl : args = #[v0, v1] := by cases args; simp_all
      obtain ⟨A0, n0, c0, g0, rfl, hn0, hc0, hs0, hw0, hl0, hd0⟩ := open_row Try.underlying22 Try.underlying3 (by kernel_rfl) (hval 0 22 v0 rfl rfl) h0
      have re0 : c0 * 8 ≤ 140737488351232 := by
        rcases hd0 with ⟨_, h0⟩ | ⟨xs, ys, h1, h2⟩
        · omega
        · have := sized_slice hsz (j := 0) (t := 22) (e := 3) rfl (by rw [h1]; rfl) Try.underlying22
          rw [h2, show Try.prog.bytesOf 3 = 8 from by kernel_rfl] at this
          simpa [reachBytes] using this
      obtain ⟨a1, rfl, rfl, rfl, w1⟩ := open_int Try.underlying3 (hval 1 3 v1 rfl rfl) h1
      exact walk W A0 n0 c0 g0 hn0 hc0 hs0 (fun j => bounds_i64 (hw0 j)) hl0 re0 a1 (bounds_i64 w1))

theorem proved : Rows.WheelSameSaid :=
  OpenClaim.holds_of_wide 5 Try.f5 rfl rfl rfl rfl rfl rfl rfl ⟨rfl, rfl, rfl, rfl, rfl⟩ rfl rfl rfl rfl rfl (by kernel_rfl) Try.func5 (by kernel_rfl)
    (of_decide_eq_true (by kernel_rfl)) (by unfold Func.isWrapper; first | (rw [if_pos (by decide +kernel)]; kernel_rfl) | (rw [if_neg (by decide +kernel)]; exact ⟨rfl, rfl⟩))
    (fun os started H enc _ => lifted os started H enc)
end Go.Proofs.Ytejlfbiehcfbgaa.wheelSame
