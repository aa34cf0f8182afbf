/- roundhouselaw7.WheelMany answers true for every row, any number; no condition. -/
import Derived.Test.YtejlfbiehcfbgaaWhlTwo
import Derived.Deep.CutRange
import Derived.Deep.LoopGhost
import Derived.BigQuiet
import Derived.Deep.RegionHeld3
import Derived.Deep.Cut
namespace Go.Proofs.Ytejlfbiehcfbgaa.wheelMany
set_option linter.unusedVariables false
set_option linter.unusedSimpArgs false
open Go.RowKit Go.ChangeShapes Go.WideShapes Go.ChangeAt

/-- Slots below i take turns, each at a place of its own; the others are free. -/
def MS (p : Pl) (K : Nat → Int) (i : Nat) : Prop := p.a = 10 ∧ ∀ j, p.s j = if j < i then ⟨2, 100 + (j : Int), K j, K j, 0⟩ else zSp
theorem MS.step {p : Pl} {K : Nat → Int} {i : Nat} (h : MS p K i) (hi : i < 64) (hk : 1 ≤ K i ∧ K i ≤ 8) :
    ∃ q : Pl, AllOut p (gl [⟨1, (i : Int), 100 + (i : Int), K i, K i, zKy⟩, ⟨2, (i : Int), 0, 0, 0, zKy⟩]) 2 q 2 0 ∧ MS q K (i + 1) := by
  obtain ⟨ha, hs⟩ := h
  have hsi : p.s i = zSp := by rw [hs, if_neg (by omega)]
  obtain ⟨n1, a1, b1⟩ := nx_bind p i (100 + (i : Int)) (K i) (K i)
  obtain ⟨p1, hp1⟩ : ∃ p1, p1 = nxP p ⟨1, (i : Int), 100 + (i : Int), K i, K i, zKy⟩ := ⟨_, rfl⟩
  rw [← hp1] at n1 a1 b1
  have s1 : p1.s i = ⟨1, 100 + (i : Int), K i, K i, 0⟩ := by rw [n1]; unfold setS; simp
  obtain ⟨n2, a2, b2⟩ := nx_open p1 i
  obtain ⟨p2, hp2⟩ : ∃ p2, p2 = nxP p1 ⟨2, (i : Int), 0, 0, 0, zKy⟩ := ⟨_, rfl⟩
  rw [← hp2] at n2 a2 b2
  have h1 : apR p ⟨1, (i : Int), 100 + (i : Int), K i, K i, zKy⟩ = (p1, 0) := by
    rw [hp1]
    refine bind_ok hi (by rw [hsi]; rfl) (by omega) (by omega) hk ?_
    unfold heldB
    rw [any_no (fun j _ => by
      unfold atS
      rw [hs]
      by_cases e : j < i
      · rw [if_pos e]
        have : ((100 : Int) + (j : Int) == 100 + (i : Int)) = false := by rw [beq_eq_false_iff_ne]; omega
        simp only [this, Bool.and_false, Bool.false_and]
      · rw [if_neg e]; rfl), ha]
    have : ((10 : Int) == 100 + (i : Int)) = false := by rw [beq_eq_false_iff_ne]; omega
    rw [this]; rfl
  have h2 : apR p1 ⟨2, (i : Int), 0, 0, 0, zKy⟩ = (p2, 0) := by
    rw [hp2]
    exact open_ok hi (by rw [s1])
  obtain ⟨G, hG⟩ : ∃ G, G = gl [⟨1, (i : Int), 100 + (i : Int), K i, K i, zKy⟩, ⟨2, (i : Int), 0, 0, 0, zKy⟩] := ⟨_, rfl⟩
  have g0 : G 0 = ⟨1, (i : Int), 100 + (i : Int), K i, K i, zKy⟩ := by rw [hG]; rfl
  have g1 : G 1 = ⟨2, (i : Int), 0, 0, 0, zKy⟩ := by rw [hG]; rfl
  rw [← hG]
  have st : ∀ {k : Nat} {a b : Pl}, runP p G k = some a → apR a (G k) = (b, 0) → runP p G (k + 1) = some b := by
    intro k a b ha hb
    unfold runP
    rw [ha]
    simp only [hb, if_true]
  refine ⟨p2, ⟨st (st (k := 0) (a := p) rfl (by rw [g0]; exact h1)) (by rw [g1]; exact h2), .inl ⟨rfl, rfl⟩⟩, ⟨by rw [a2, a1]; exact ha, fun j => ?_⟩⟩
  rw [n2]
  unfold setS
  by_cases e : j = i
  · subst e
    simp only [if_true]
    rw [s1, if_pos (by omega)]
  · simp only [e, if_false]
    rw [n1]
    unfold setS
    simp only [e, if_false]
    rw [hs]
    by_cases e2 : j < i
    · rw [if_pos e2, if_pos (by omega)]
    · rw [if_neg e2, if_neg (by omega)]
theorem MS.start (K : Nat → Int) : MS mkB K 0 := ⟨rfl, fun j => by rw [if_neg (by omega)]; rfl⟩
theorem MS.pw {p : Pl} {K : Nat → Int} {i : Nat} (h : MS p K i) (hk : ∀ j, 1 ≤ K j ∧ K j ≤ 8) (hi : i ≤ 64) : Pw p := by
  intro j hj
  rw [h.2]
  have := hk j
  by_cases e : j < i
  · rw [if_pos e]
    exact ⟨by show 0 ≤ 100 + (j : Int) ∧ 100 + (j : Int) ≤ 4294967295; omega, by show 0 ≤ K j ∧ K j ≤ 65535; omega, fun _ => this⟩
  · rw [if_neg e]
    exact ⟨by show (0 : Int) ≤ 0 ∧ (0 : Int) ≤ 4294967295; decide, by show (0 : Int) ≤ 0 ∧ (0 : Int) ≤ 65535; decide, fun h => absurd rfl h⟩
theorem run_inv {p : Pl} {g : Nat → En} {K : Int} (hp : Pinv p K) : ∀ {k : Nat} {q : Pl}, runP p g k = some q → Pinv q (K + k)
  | 0, q, h => by
    unfold runP at h
    injection h with h
    subst h
    exact hp.mono (by omega)
  | k + 1, q, h => by
    unfold runP at h
    cases h1 : runP p g k with
    | none => rw [h1] at h; cases h
    | some q1 =>
      rw [h1] at h
      simp only at h
      have ih := run_inv hp h1
      by_cases h0 : (apR q1 (g k)).2 = 0
      · rw [if_pos h0] at h
        injection h with h
        rw [← h]
        exact (apR_inv ih h0).mono (by omega)
      · rw [if_neg h0] at h; cases h
attribute [local irreducible] PA ia cAt cBy atP byP wtP S3 sumW S5 pkW
set_option maxRecDepth 100000 in
set_option maxHeartbeats 8000000 in
theorem walk (W : World) (A1 : Option Addr) (n1 c1 : Nat) (g1 : Nat → Int) (hn1 : n1 ≤ c1) (hc1 : c1 ≤ maxLen) (hr1 : Is W A1 n1 g1) (hg1 : IsI g1) (hl1 : ∀ ad, A1 = some ad → 0 < n1 → ad.block < W.heap.size) (re1 : c1 * 8 ≤ 140737488351232) (a0 : Int) (r_a0 : -9223372036854775808 ≤ a0 ∧ a0 ≤ 9223372036854775807) :
    Calls Try.prog 12 #[.slice A1 n1 c1, .int .i64 a0] W fun e w' => e = .returned (.bool true) ∧ Below W.heap.size W w' := by
  have hz : ∀ w : World, (zeroValue 33).run Try.prog w = .ok (.agg (PA zPl)) w := fun w => zero_pl w
  have hz1 := pa_size zPl
  have hz2 := pa_ne zPl
  obtain ⟨nn, hnn⟩ : ∃ x, x = wi a0 65 := ⟨_, rfl⟩
  have bnn := wi_bd a0 65 (by omega)
  rw [← hnn] at bnn
  have Wnn := hid (fun w => re_i64 (within_any a0 65 w (by omega) (by omega)) hnn.symm)
  clear hnn
  obtain ⟨bnn1, bnn2⟩ := bnn
  obtain ⟨N, rfl⟩ : ∃ N : Nat, nn = N := ⟨nn.toNat, by omega⟩
  have N64 : N ≤ 64 := by omega
  unfold maxLen at hc1
  have hnm : (n1 : Int) ≤ 9223372036854775807 := by have := hn1; omega
  have HR := hid hr1
  clear hl1 re1
  obtain ⟨K, hK⟩ : ∃ K : Nat → Int, K = fun j => if j < n1 then 1 + wi (g1 j) 8 else 1 := ⟨_, rfl⟩
  have KB := hid (fun j => (show 1 ≤ K j ∧ K j ≤ 8 from by rw [hK]; simp only; split; (have := wi_bd (g1 j) 8 (by omega); omega); omega))
  have K1 := hid (fun j (h : j < n1) => (show (1 : Int) + wi (g1 j) 8 = K j from by rw [hK]; simp only; rw [if_pos h]))
  have K2 := hid (fun j (h : ¬ j < n1) => (show K j = 1 from by rw [hK]; simp only; rw [if_neg h]))
  clear hK
  obtain ⟨p0, hp0⟩ : ∃ p0 : Pl, p0 = mkB := ⟨_, rfl⟩
  have HM0 := hid (show MS p0 K 0 from by rw [hp0]; exact MS.start K)
  have HI0 := hid (show Pinv p0 0 from by rw [hp0]; exact nwR_inv 10 80 _ _)
  have MK := hid (show ∀ w, Calls Try.prog 14 #[.slice none 0 0, .int .i64 0] w fun x w' => x = .returned (.agg (PA p0)) ∧ Below w.heap.size w w' from by rw [hp0]; exact fun w => make_any w none 0 0 (fun _ => 0) (Sl.nil _ _ _) (fun _ h _ => by cases h) (by decide) 0 (by omega))
  clear hp0
  go_enter Try.func12, Try.ntmps12
  go_wp2_with fail
  refine (known7_any _).mono ?_
  rintro x' w1 ⟨rfl, hB⟩
  have B1 := hid hB
  clear hB hr1
  go_wp2_with fail
  refine (MK.out _).mono ?_
  rintro x' w2 ⟨rfl, hb⟩
  have S2 := hid ((SG.start B1.out).below hb)
  clear hb B1 MK
  have ST := hid ((sg_new (w := w2) (T := 33)).storeA p0)
  have S3 := hid (SG.put S2.out (T := 33) zPl p0 (by simp))
  have lP := S2.out.bl.size
  go_upto_region 4 with ((with_reducible refine wl_id ?_); refine wl_store rfl rfl rfl rfl ST.out ?_)
  clear ST S2
  generalize (w2.alloc (.cells (PA zPl) 33)).setCells w2.heap.size 0 (PA p0).toList = w3 at *
  generalize w2.heap.size = P at *
  go_wp2_with fail
  go_loopg [6] 65 (fun gh i wr => ∃ (k : Nat) (p : Pl), gh = 65 - k ∧ k ≤ N ∧ i = .int .i64 (k : Int) ∧ MS p K k ∧ Pinv p (2 * k) ∧ SG W wr [(P, p)] [])
  case atStart => exact ⟨0, p0, rfl, by omega, rfl, HM0.out, HI0.out, S3.out⟩
  case round =>
    clear S3 HM0 HI0
    obtain ⟨k, p, rfl, hk, rfl, hms, hiv, hS⟩ := hrel
    have HMS := hid hms
    have HIV := hid hiv
    have S4 := hid hS
    clear hms hiv hS
    by_cases hlt : k < N
    · have k0 : (0 : Int) ≤ k := by omega
      have k1 : (k : Int) < N := by omega
      obtain ⟨q, hao, hmq⟩ := HMS.out.step (by omega) (KB.out k)
      have HMQ := hid hmq
      have HIQ := hid (show Pinv q (2 * ((k + 1 : Nat) : Int)) from (run_inv HIV.out hao.1).mono (by omega))
      have hkb := KB.out k
      have K1' := hid (K1.out k)
      have K2' := hid (K2.out k)
      obtain ⟨kk, hkk⟩ : ∃ kk, kk = K k := ⟨_, rfl⟩
      rw [← hkk] at hao hkb K1' K2'
      clear hmq hkk
      obtain ⟨kb1, kb2⟩ := hkb
      have AL := hid (show ∀ (A : Option Addr) (w : World), Se w A 2 (gl [⟨1, (k : Int), 100 + (k : Int), kk, kk, zKy⟩, ⟨2, (k : Int), 0, 0, 0, zKy⟩]) → Calls Try.prog 27 #[.agg (PA p), .slice A 2 2] w fun x w' => x = .returned (.tuple #[.agg (PA q), .int .i64 2, .int .i64 0]) ∧ Below w.heap.size w w' from fun A w h => (rall_any p _ A 2 2 w h (by omega) _ HIV.out (by omega)).mono (fun x w' ⟨q', k', er, hx, ho, hb⟩ => by obtain ⟨a, b, c⟩ := ho.uniq hao; subst a; subst b; subst c; exact ⟨hx, hb⟩))
      clear hao
      have LP := (SG.get S4.out (b := P) (p := p) (by simp)).loadA
      by_cases hw : k < n1
      · have RR := Sl.below HR.out S4.out.bl (Nat.le_refl _)
        obtain ⟨bb, off, rfl⟩ := Sl.addr RR (by omega)
        have xc := Sl.at_ RR (j := k) hw
        clear RR
        have k2 : (k : Int) < n1 := by omega
        have hadd := K1'.out hw
        have hwb := wi_bd (g1 k) 8 (by omega)
        have W8 := hid (fun w => within_any (g1 k) 8 w (by omega) (by omega))
        obtain ⟨wv, hwv⟩ : ∃ wv, wv = wi (g1 k) 8 := ⟨_, rfl⟩
        rw [← hwv] at hadd hwb W8
        clear hwv
        obtain ⟨hwb1, hwb2⟩ := hwb
        go_wp2_with fail
        refine (Wnn.out _).mono ?_
        rintro x' w' ⟨rfl, rfl⟩
        go_wp2_with fail
        refine (W8.out _).mono ?_
        rintro x' w' ⟨rfl, rfl⟩
        clear xc
        go_wp2_with ((with_reducible refine wl_id ?_); refine wl_load rfl rfl rfl LP ?_)
        clear LP
        have SE : Se (wr.alloc (.cells #[.int .i64 1, .int .i64 (k : Int), .int .i64 (100 + (k : Int)), .int .i64 kk, .int .i64 kk, .int .u64 0, .int .u64 0, .int .i64 2, .int .i64 (k : Int), .int .i64 0, .int .i64 0, .int .i64 0, .int .u64 0, .int .u64 0] 49)) (some ⟨wr.heap.size, 0, none⟩) 2 (gl [⟨1, (k : Int), 100 + (k : Int), kk, kk, zKy⟩, ⟨2, (k : Int), 0, 0, 0, zKy⟩]) := se_made [⟨1, (k : Int), 100 + (k : Int), kk, kk, zKy⟩, ⟨2, (k : Int), 0, 0, 0, zKy⟩] rfl
        have S5 := hid (S4.out.alloc (.cells #[.int .i64 1, .int .i64 (k : Int), .int .i64 (100 + (k : Int)), .int .i64 kk, .int .i64 kk, .int .u64 0, .int .u64 0, .int .i64 2, .int .i64 (k : Int), .int .i64 0, .int .i64 0, .int .i64 0, .int .u64 0, .int .u64 0] 49))
        clear S4
        refine (AL.out _ _ SE).mono ?_
        rintro x' w6 ⟨rfl, hb⟩
        have S6 := hid (S5.out.below hb)
        clear hb SE S5 AL
        have P6 := SG.get S6.out (b := P) (p := p) (by simp)
        have ST := hid (P6.storeA q)
        have S7 := hid ((SG.sets (S6.out.less (L' := []) (by simp)) (c := P) (o := 0) (vs := (PA q).toList) (by simp) (by simp) lP).cons (P6.whole q))
        clear P6 S6
        go_wp2_with ((with_reducible refine wl_id ?_); refine wl_store rfl rfl rfl rfl ST.out ?_)
        go_roundg (65 - (k + 1))
        case measure => omega
        case rel => exact ⟨k + 1, q, rfl, by omega, by go_num, HMQ.out, HIQ.out, S7.out⟩
      · have k2 : ¬ (k : Int) < n1 := by omega
        have hkk1 := K2'.out hw
        subst hkk1
        go_wp2_with fail
        refine (Wnn.out _).mono ?_
        rintro x' w' ⟨rfl, rfl⟩
        go_wp2_with ((with_reducible refine wl_id ?_); refine wl_load rfl rfl rfl LP ?_)
        clear LP
        have SE : Se (wr.alloc (.cells #[.int .i64 1, .int .i64 (k : Int), .int .i64 (100 + (k : Int)), .int .i64 1, .int .i64 1, .int .u64 0, .int .u64 0, .int .i64 2, .int .i64 (k : Int), .int .i64 0, .int .i64 0, .int .i64 0, .int .u64 0, .int .u64 0] 49)) (some ⟨wr.heap.size, 0, none⟩) 2 (gl [⟨1, (k : Int), 100 + (k : Int), 1, 1, zKy⟩, ⟨2, (k : Int), 0, 0, 0, zKy⟩]) := se_made [⟨1, (k : Int), 100 + (k : Int), 1, 1, zKy⟩, ⟨2, (k : Int), 0, 0, 0, zKy⟩] rfl
        have S5 := hid (S4.out.alloc (.cells #[.int .i64 1, .int .i64 (k : Int), .int .i64 (100 + (k : Int)), .int .i64 1, .int .i64 1, .int .u64 0, .int .u64 0, .int .i64 2, .int .i64 (k : Int), .int .i64 0, .int .i64 0, .int .i64 0, .int .u64 0, .int .u64 0] 49))
        clear S4
        refine (AL.out _ _ SE).mono ?_
        rintro x' w6 ⟨rfl, hb⟩
        have S6 := hid (S5.out.below hb)
        clear hb SE S5 AL
        have P6 := SG.get S6.out (b := P) (p := p) (by simp)
        have ST := hid (P6.storeA q)
        have S7 := hid ((SG.sets (S6.out.less (L' := []) (by simp)) (c := P) (o := 0) (vs := (PA q).toList) (by simp) (by simp) lP).cons (P6.whole q))
        clear P6 S6
        go_wp2_with ((with_reducible refine wl_id ?_); refine wl_store rfl rfl rfl rfl ST.out ?_)
        go_roundg (65 - (k + 1))
        case measure => omega
        case rel => exact ⟨k + 1, q, rfl, by omega, by go_num, HMQ.out, HIQ.out, S7.out⟩
    · have e : k = N := by omega
      subst e
      have k1 : ¬ (k : Int) < k := by omega
      have HPW := hid (HMS.out.pw KB.out N64)
      have M7 := hid (show ∀ w, Calls Try.prog 15 #[.agg (PA p)] w fun x w' => ∃ B : Nat, x = .returned (.slice (some ⟨B, 0, none⟩) 127 127) ∧ w.heap.size ≤ B ∧ IA w' B 127 (whlW p) ∧ Below w.heap.size w w' from fun w => make7_any p HPW.out w)
      have R7 := hid (show ∀ w, Calls Try.prog 16 #[.agg (PA p)] w fun x w' => ∃ B : Nat, x = .returned (.slice (some ⟨B, 0, none⟩) 127 127) ∧ w.heap.size ≤ B ∧ IA w' B 127 (whlW p) ∧ Below w.heap.size w w' from fun w => rmake7_any p HPW.out w)
      go_wp2_with fail
      refine (Wnn.out _).mono ?_
      rintro x' w' ⟨rfl, rfl⟩
      go_upto_region 11 with (fail)
      refine wp_region_held_drew (S := fun w' => SG W w' [(P, p)] []) (by kernel_rfl) ?_ (fun hHeld => ?_)
      · exact S4.out.drew
      refine tk 0 (v := .agg (PA p)) rfl (by kernel_rfl) (by kernel_rfl) (by kernel_rfl) (fun _ _ _ h => h) rfl (fun w hSw => ex_load rfl rfl (SG.get hSw (b := P) (p := p) (by simp)).loadA) hHeld ?_; (try simp only [Act.put, List.setIfInBounds_toArray, List.set_cons_zero, List.set_cons_succ])
      refine tk 2 (v := .agg (PA p)) rfl (by kernel_rfl) (by kernel_rfl) (by kernel_rfl) (fun _ _ _ h => h) rfl (fun w hSw => ex_load rfl rfl (SG.get hSw (b := P) (p := p) (by simp)).loadA) hHeld ?_; (try simp only [Act.put, List.setIfInBounds_toArray, List.set_cons_zero, List.set_cons_succ])
      refine only 1 rfl (by kernel_rfl) rfl (fun K hK => ?_)
      go_simp
      refine (M7.out _).mono ?_
      rintro e' w' ⟨B1, rfl, l1, hI1, hb⟩
      try go_wp2_with fail
      refine hK.out _ _ (SG.below hHeld hb) (fun h1 => ?_)
      clear hK hb
      try simp only [Act.put, List.setIfInBounds_toArray, List.set_cons_zero, List.set_cons_succ]
      refine only 3 rfl (by kernel_rfl) rfl (fun K hK => ?_)
      go_simp
      refine (R7.out _).mono ?_
      rintro e' w' ⟨B2, rfl, l2, hI2, hb⟩
      try go_wp2_with fail
      have hI3 := hI1.below hb
      refine hK.out _ _ (SG.below h1 hb) (fun h2 => ?_)
      clear hK hb
      try simp only [Act.put, List.setIfInBounds_toArray, List.set_cons_zero, List.set_cons_succ]
      refine only 4 rfl (by kernel_rfl) rfl (fun K hK => ?_)
      go_simp
      refine (same_any (some ⟨B1, 0, none⟩) (some ⟨B2, 0, none⟩) 127 127 127 _ _ _ hI3.slice hI2.slice (fun j _ => rfl) (by decide)).mono ?_
      rintro e' w' ⟨rfl, hb⟩
      try go_wp2_with fail
      refine hK.out _ _ (SG.below h2 hb) (fun h3 => ?_)
      clear hK hb
      try simp only [Act.put, List.setIfInBounds_toArray, List.set_cons_zero, List.set_cons_succ]
      refine tk 5 (v := ?_) rfl (by kernel_rfl) (by kernel_rfl) (by kernel_rfl) (fun _ _ _ h => h) rfl ?_ h3 ?_; rotate_left; (focus (intro w hSw; (try dsimp only at hSw);  go_simp; (try with_reducible rfl))); (try simp only [Act.put, List.setIfInBounds_toArray, List.set_cons_zero, List.set_cons_succ])
      refine wpAnyH_done (by kernel_rfl) ?_ _
      go_wp2_with fail
      go_ret
      exact ⟨rfl, h3.bl⟩

set_option maxRecDepth 100000 in
theorem lifted (os : Os) (started : os.Started) (H : Type) (enc : TypeId × Value → H) :
    ReturnsInHanded {} Try.checked os 12 .any (Rows.wheelManySpec.pre6 enc Try.prog Try.f12 [] false) (Rows.wheelManySpec.post enc Try.prog Try.f12 false true false false) :=
  law_step (s := Rows.wheelManySpec) started (by kernel_rfl) Try.func12
    (ChangeSpec.witness6 (s := Rows.wheelManySpec) (enc := enc) (C := Try.checked) false ⟨#[], #[.slice none 0 0, .int .i64 0], []⟩ 8 (by kernel_rfl) (by kernel_rfl) (by kernel_rfl) (by kernel_rfl))
    rfl (by rw [Try.params12]; decide +kernel) rfl Try.underlying4
    (fun ds h => by
      rw [Try.params12] at h
      match ds, h with
      | [_, _], _ => rfl)
    (fun W base args ds ps hval hA hsz => by
      rw [Try.params12] at hA hval hsz
      obtain ⟨v0, vs0, d0, ds0, p0, q0, hargs, rfl, rfl, h0, r0⟩ := trodAll_cons hA
      obtain ⟨v1, vs1, d1, ds1, p1, q1, rfl, rfl, rfl, h1, r1⟩ := trodAll_cons r0
      obtain ⟨rfl, rfl, rfl⟩ := trodAll_nil r1
      obtain rfl : args = #[v0, v1] := by cases args; simp_all
      obtain ⟨A0, n0, c0, g0, rfl, hn0, hc0, hs0, hw0, hl0, hd0⟩ := open_row Try.underlying22 Try.underlying3 (by kernel_rfl) (hval 0 22 v0 rfl rfl) h0
      have re0 : c0 * 8 ≤ 140737488351232 := by
        rcases hd0 with ⟨_, h0⟩ | ⟨xs, ys, h1, h2⟩
        · omega
        · have := sized_slice hsz (j := 0) (t := 22) (e := 3) rfl (by rw [h1]; rfl) Try.underlying22
          rw [h2, show Try.prog.bytesOf 3 = 8 from by kernel_rfl] at this
          simpa [reachBytes] using this
      obtain ⟨a1, rfl, rfl, rfl, w1⟩ := open_int Try.underlying3 (hval 1 3 v1 rfl rfl) h1
      exact walk W A0 n0 c0 g0 hn0 hc0 hs0 (fun j => bounds_i64 (hw0 j)) hl0 re0 a1 (bounds_i64 w1))

theorem proved : Rows.WheelManySaid :=
  OpenClaim.holds_of_wide 12 Try.f12 rfl rfl rfl rfl rfl rfl rfl ⟨rfl, rfl, rfl, rfl, rfl⟩ rfl rfl rfl rfl rfl (by kernel_rfl) Try.func12 (by kernel_rfl)
    (of_decide_eq_true (by kernel_rfl)) (by unfold Func.isWrapper; first | (rw [if_pos (by decide +kernel)]; kernel_rfl) | (rw [if_neg (by decide +kernel)]; exact ⟨rfl, rfl⟩))
    (fun os started H enc _ => lifted os started H enc)
end Go.Proofs.Ytejlfbiehcfbgaa.wheelMany
