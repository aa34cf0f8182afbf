/- roundhouselaw10.OrderFrees answers true for every row, any number; no condition. -/
import Derived.Test.YtljgcffpijjliaaDoorOrdRot
import Derived.Test.YtljgcffpijjliaaDoorOrdSame
import Derived.Test.YtljgcffpijjliaaDoorOrdAp
import Derived.Test.YtljgcffpijjliaaDoorOrdKnown10
import Derived.Test.YtljgcffpijjliaaDoorDoor
import Derived.BigQuiet
import Derived.Deep.RegionHeld3
import Derived.Deep.Cut
namespace Go.Proofs.YtljgcffpijjliaaDoor.orderFrees
set_option linter.unusedVariables false
set_option linter.unusedSimpArgs false
open Go.RowKit Go.ChangeShapes Go.WideShapes Go.ChangeAt

theorem rot_head (p : Pl) (y : Ky) : ∀ n, gl (rotL p y n) 0 = ⟨6, 0, 0, 0, 0, y⟩
  | 0 => rfl
  | n + 1 => by
    unfold rotL
    split
    · rw [gl_app, if_neg (by have := (rot_len p y n).1; omega)]; exact rot_head p y n
    · exact rot_head p y n
theorem rot_pre (p : Pl) (y : Ky) (k : Nat) : ∀ j, ∃ t, rotL p y (k + j) = rotL p y k ++ t
  | 0 => ⟨[], by simp⟩
  | j + 1 => by
    obtain ⟨t, ht⟩ := rot_pre p y k j
    have h1 : rotL p y (k + (j + 1)) = if goneS p (k + j) = true then rotL p y (k + j) ++ [⟨5, ((k + j : Nat) : Int), 0, 0, 0, zKy⟩] else rotL p y (k + j) := rfl
    rw [h1]
    split
    · exact ⟨t ++ [⟨5, ((k + j : Nat) : Int), 0, 0, 0, zKy⟩], by rw [ht, List.append_assoc]⟩
    · exact ⟨t, ht⟩
theorem rot_at {p : Pl} {y : Ky} {k : Nat} (h : goneS p k = true) (hk : k < 64) : (rotL p y k).length < (rotL p y 64).length ∧ gl (rotL p y 64) (rotL p y k).length = ⟨5, (k : Int), 0, 0, 0, zKy⟩ := by
  obtain ⟨t, ht⟩ := rot_pre p y (k + 1) (63 - k)
  rw [show k + 1 + (63 - k) = 64 by omega] at ht
  have h1 : rotL p y (k + 1) = rotL p y k ++ [⟨5, (k : Int), 0, 0, 0, zKy⟩] := by
    show (if goneS p k = true then rotL p y k ++ [⟨5, (k : Int), 0, 0, 0, zKy⟩] else rotL p y k) = _
    rw [if_pos h]
  rw [ht, h1]
  refine ⟨by simp, ?_⟩
  unfold gl
  simp
theorem Se.load0 {w : World} {b off n : Nat} {g : Nat → En} (h : Se w (some ⟨b, off, none⟩) n g) (h0 : 1 ≤ n) : (Instr.loadAt 56 (.pointer (some ⟨b, off, none⟩))).run Tryd.prog w = .ok (enV (g 0)) w := by
  have := Se.load h 0 (by omega)
  rw [Nat.zero_mul, Nat.add_zero] at this
  exact this
theorem SGd {W w : World} {L : List (Nat × Pl)} {E : List (Nat × Nat × (Nat → En))} (h : SG W w L E) (n : Nat) : SG W (w.drewN n) L E := ⟨fun x hx => (h.1 x hx).drewN n, fun x hx => Sl.drewN (h.2.1 x hx) n, below_drewN h.2.2 n⟩
attribute [local irreducible] PA
set_option maxRecDepth 100000 in
set_option maxHeartbeats 8000000 in
theorem walk (W : World) (hsh : W.ShapedOpen Tryd.prog) (A1 : Option Addr) (n1 c1 : Nat) (g1 : Nat → Int) (hn1 : n1 ≤ c1) (hc1 : c1 ≤ maxLen) (hr1 : Is W A1 n1 g1) (hg1 : IsI g1) (hl1 : ∀ ad, A1 = some ad → 0 < n1 → ad.block < W.heap.size) (re1 : c1 * 8 ≤ 140737488351232) (a0 : Int) (r_a0 : -9223372036854775808 ≤ a0 ∧ a0 ≤ 9223372036854775807) :
    Calls Tryd.prog 10 #[.slice A1 n1 c1, .int .i64 a0] W fun e w' => e = .returned (.bool true) ∧ Below W.heap.size W w' := by
  have hz : ∀ w : World, (zeroValue 33).run Tryd.prog w = .ok (.agg (PA zPl)) w := fun w => zero_pl w
  have hz1 := pa_size zPl
  have hz2 := pa_ne zPl
  unfold maxLen at hc1
  have hnm : (n1 : Int) ≤ 9223372036854775807 := by have := hn1; omega
  have HL := hid hl1
  clear hl1 re1
  obtain ⟨p, hp⟩ : ∃ p, p = mkP g1 (min n1 80) := ⟨_, rfl⟩
  have HQ := hid (show Pinv p 80 from by rw [hp]; exact (mkP_inv g1 _).mono (by omega))
  have MK := hid (fun (w : World) (h : Is w A1 n1 g1) (hl : ∀ ad, A1 = some ad → 0 < n1 → ad.block < w.heap.size) => (show Calls Tryd.prog 15 #[.slice A1 n1 c1, .int .i64 80] w fun x w' => x = .returned (.agg (PA p)) ∧ Below w.heap.size w w' from by rw [hp]; exact make_any w A1 n1 c1 g1 h hl hnm 80 (by omega)))
  clear hp
  obtain ⟨ml, hml⟩ := Tryd.laysM147.s1_3 W hsh
  have HML := hid hml
  clear hml hsh
  obtain ⟨y, hy⟩ : ∃ y, y = kyN a0 := ⟨_, rfl⟩
  have LK0 := fun w => lkey_any a0 w
  rw [← hy] at LK0
  clear hy
  obtain ⟨L, hL⟩ : ∃ l, l = rotL p y 64 := ⟨_, rfl⟩
  obtain ⟨N, hN⟩ : ∃ n, n = L.length := ⟨_, rfl⟩
  have hN65 : 1 ≤ N ∧ N ≤ 65 := by rw [hN, hL]; exact rot_len _ _ _
  obtain ⟨N1, N65⟩ := hN65
  have RT0 := fun (w : World) => (show Calls Tryd.prog 22 #[.agg (PA p), kyV y] w fun e w' => ∃ (A : Option Addr) (d : Nat), e = .returned (.slice A N d) ∧ Se w' A N (gl L) ∧ Below w.heap.size w w' from (rotate_any p (HQ.out.pb (by omega)) y w).mono (fun e w' h => by obtain ⟨A, d, e1, e2, e3⟩ := h; rw [← hL, ← hN] at e1 e2; exact ⟨A, d, e1, e2.se, e3⟩))
  have HD := hid (show gl L 0 = ⟨6, 0, 0, 0, 0, y⟩ from by rw [hL]; exact rot_head _ _ _)
  have AT := hid (fun k (h : goneS p k = true) (hk : k < 64) => (show (rotL p y k).length < N ∧ gl L (rotL p y k).length = ⟨5, (k : Int), 0, 0, 0, zKy⟩ from by rw [hN, hL]; exact rot_at h hk))
  have EN := hid (show (rotL p y 64).length = N from by rw [hN, hL])
  clear hL hN
  obtain ⟨ya, yb⟩ := y
  unfold kyV at LK0 RT0
  simp only at LK0 RT0
  have LK := hid LK0
  have RT := hid RT0
  clear LK0 RT0
  go_enter Tryd.func10, Tryd.ntmps10
  go_wp2_with fail
  refine (known10_any ml _ HML.out).mono ?_
  rintro x w1 ⟨rfl, hB⟩
  have R1 := hid (hr1.below hB (Nat.le_refl _))
  have B1 := hid hB
  clear hr1 hB HML
  go_wp2_with fail
  refine (MK.out _ R1.out (fun ad e h => Nat.lt_of_lt_of_le (HL.out ad e h) B1.out.size)).mono ?_
  rintro x w2 ⟨rfl, hb⟩
  have S2 := hid ((SG.start B1.out).below hb)
  clear hb R1 B1 MK
  have ST := hid ((sg_new (w := w2) (T := 33)).storeA p)
  have S3 := hid (SG.put S2.out (T := 33) zPl p (by simp))
  go_upto_region 4 with ((with_reducible refine wl_id ?_); refine wl_store rfl rfl rfl rfl ST.out ?_)
  clear ST S2
  generalize (w2.alloc (.cells (PA zPl) 33)).setCells w2.heap.size 0 (PA p).toList = w3 at *
  generalize w2.heap.size = P at *
  try simp only [Act.put, List.setIfInBounds_toArray, List.set_cons_zero, List.set_cons_succ]
  go_cut [6] from 13 to 17 (fun l wx => ∃ (A : Option Addr) (d : Nat), l = .slice A N d ∧ SG W wx [(P, p)] [] ∧ Se wx A N (gl L))
  case first =>
    refine wp_region_held_drew (S := fun w' => SG W w' [(P, p)] []) (by kernel_rfl) ?_ (fun hHeld => ?_)
    · exact S3.out.drew
    refine tk 0 (v := .agg (PA p)) rfl (by kernel_rfl) (by kernel_rfl) (by kernel_rfl) (fun _ _ _ h => h) rfl (fun w hSw => ex_load rfl rfl (SG.get hSw (b := P) (p := p) (by simp)).loadA) hHeld ?_; (try simp only [Act.put, List.setIfInBounds_toArray, List.set_cons_zero, List.set_cons_succ])
    refine tk 1 (v := ?_) rfl (by kernel_rfl) (by kernel_rfl) (by kernel_rfl) (fun _ _ _ h => h) rfl ?_ hHeld ?_; rotate_left; (focus (intro w hSw; (try dsimp only at hSw);  go_simp; (try with_reducible rfl))); (try simp only [Act.put, List.setIfInBounds_toArray, List.set_cons_zero, List.set_cons_succ])
    refine only 2 rfl (by kernel_rfl) rfl (fun K hK => ?_)
    go_simp
    refine (LK.out _).mono ?_
    rintro e' w' ⟨rfl, hb⟩
    try go_wp2_with fail
    refine hK.out _ _ (SG.below hHeld hb) (fun hz0 => ?_)
    clear hK hb
    try simp only [Act.put, List.setIfInBounds_toArray, List.set_cons_zero, List.set_cons_succ]
    refine only 3 rfl (by kernel_rfl) rfl (fun K hK => ?_)
    go_simp
    refine (RT.out _).mono ?_
    rintro e' w' ⟨A, d, rfl, SE, hb⟩
    try go_wp2_with fail
    refine hK.out _ _ (SG.below hz0 hb) (fun hz1 => ?_)
    clear hK hb
    try simp only [Act.put, List.setIfInBounds_toArray, List.set_cons_zero, List.set_cons_succ]
    refine tk 4 (v := ?_) rfl (by kernel_rfl) (by kernel_rfl) (by kernel_rfl) (fun _ _ _ h => h) rfl ?_ hz1 ?_; rotate_left; (focus (intro w hSw; (try dsimp only at hSw);  go_simp; (try with_reducible rfl))); (try simp only [Act.put, List.setIfInBounds_toArray, List.set_cons_zero, List.set_cons_succ])
    refine wpAnyH_done (by kernel_rfl) ?_ _
    go_wp2_with fail
    go_meet
    exact ⟨A, d, rfl, hz1, SE⟩
  case rest =>
    obtain ⟨A, d, rfl, hS, hSE⟩ := hcut
    have S4 := hid hS
    have SE4 := hid hSE
    clear hS hSE S3 RT
    have n0 : ((N : Int) == 0) = false := by simp; omega
    have i0_ : (0 : Int) < N := by omega
    have j0_ : 0 < N := by omega
    obtain ⟨gb, off, rfl⟩ := Sl.addr SE4.out (by omega)
    have hne : (!eqE (gl L 0) ⟨6, 0, 0, 0, 0, ⟨ya, yb⟩⟩) = false := by rw [HD.out, eqE_self]; rfl
    go_upto_region 5 with (fail)
    refine wp_region_held_drew (S := fun w' => SG W w' [(P, p)] [] ∧ Se w' (some ⟨gb, off, none⟩) N (gl L)) (by kernel_rfl) ?_ (fun hHeld => ?_)
    · exact ⟨S4.out.drew, Sl.drew SE4.out⟩
    refine tk 0 (v := ?_) rfl (by kernel_rfl) (by kernel_rfl) (by kernel_rfl) (fun _ _ _ h => h) rfl ?_ hHeld ?_; rotate_left; (focus (intro w hSw; (try dsimp only at hSw);  go_simp; (try with_reducible rfl))); (try simp only [Act.put, List.setIfInBounds_toArray, List.set_cons_zero, List.set_cons_succ])
    refine tk 1 (v := ?_) rfl (by kernel_rfl) (by kernel_rfl) (by kernel_rfl) (fun _ _ _ h => h) rfl ?_ hHeld ?_; rotate_left; (focus (intro w hSw; (try dsimp only at hSw);  go_simp; (try with_reducible rfl))); (try simp only [Act.put, List.setIfInBounds_toArray, List.set_cons_zero, List.set_cons_succ])
    refine tk 2 (v := ?_) rfl (by kernel_rfl) (by kernel_rfl) (by kernel_rfl) (fun _ _ _ h => h) rfl ?_ hHeld ?_; rotate_left; (focus (intro w hSw; (try dsimp only at hSw);  go_simp; (try with_reducible rfl))); (try simp only [Act.put, List.setIfInBounds_toArray, List.set_cons_zero, List.set_cons_succ])
    refine tk 3 (v := ?_) rfl (by kernel_rfl) (by kernel_rfl) (by kernel_rfl) (fun _ _ _ h => h) rfl ?_ hHeld ?_; rotate_left; (focus (intro w hSw; (try dsimp only at hSw);  go_simp; (try with_reducible rfl))); (try simp only [Act.put, List.setIfInBounds_toArray, List.set_cons_zero, List.set_cons_succ])
    refine tk 4 (v := ?_) rfl (by kernel_rfl) (by kernel_rfl) (by kernel_rfl) (fun _ _ _ h => h) rfl ?_ hHeld ?_; rotate_left; (focus (intro w hSw; (try dsimp only at hSw);  go_simp; (try with_reducible rfl))); (try simp only [Act.put, List.setIfInBounds_toArray, List.set_cons_zero, List.set_cons_succ])
    refine tk 5 (v := ?_) rfl (by kernel_rfl) (by kernel_rfl) (by kernel_rfl) (fun _ _ _ h => h) rfl ?_ hHeld ?_; rotate_left; (focus (intro w hSw; (try dsimp only at hSw);  go_simp; (try with_reducible rfl))); (try simp only [Act.put, List.setIfInBounds_toArray, List.set_cons_zero, List.set_cons_succ])
    refine tk 6 (v := enV (gl L 0)) rfl (by kernel_rfl) (by kernel_rfl) (by kernel_rfl) (fun _ _ _ h => h) rfl (fun w (hSw : SG W w [(P, p)] [] ∧ Se w (some ⟨gb, off, none⟩) N (gl L)) => ex_load rfl rfl (Se.load0 hSw.2 N1)) hHeld ?_; (try simp only [Act.put, List.setIfInBounds_toArray, List.set_cons_zero, List.set_cons_succ])
    refine tk 7 (v := ?_) rfl (by kernel_rfl) (by kernel_rfl) (by kernel_rfl) (fun _ _ _ h => h) rfl ?_ hHeld ?_; rotate_left; (focus (intro w hSw; (try dsimp only at hSw);  go_simp; (try with_reducible rfl))); (try simp only [Act.put, List.setIfInBounds_toArray, List.set_cons_zero, List.set_cons_succ])
    refine only 8 rfl (by kernel_rfl) rfl (fun K hK => ?_)
    go_simp
    refine (LK.out _).mono ?_
    rintro e' w' ⟨rfl, hb⟩
    try go_wp2_with fail
    refine hK.out _ _ ⟨SG.below hHeld.1 hb, Se.below hHeld.2 hb (Nat.le_refl _)⟩ (fun hz => ?_)
    clear hK hb
    try simp only [Act.put, List.setIfInBounds_toArray, List.set_cons_zero, List.set_cons_succ]
    refine tk 9 (v := ?_) rfl (by kernel_rfl) (by kernel_rfl) (by kernel_rfl) (fun _ _ _ h => h) rfl ?_ hz ?_; rotate_left; (focus (intro w hSw; (try dsimp only at hSw);  go_simp; (try with_reducible rfl))); (try simp only [Act.put, List.setIfInBounds_toArray, List.set_cons_zero, List.set_cons_succ])
    refine tk 10 (v := .bool (!eqE (gl L 0) ⟨6, 0, 0, 0, 0, ⟨ya, yb⟩⟩)) rfl (by kernel_rfl) (by kernel_rfl) (by kernel_rfl) (fun _ _ _ h => h) rfl (fun w hSw => ex_neq _ _ rfl (gl L 0) ⟨6, 0, 0, 0, 0, ⟨ya, yb⟩⟩ rfl rfl _) hz ?_; (try simp only [Act.put, List.setIfInBounds_toArray, List.set_cons_zero, List.set_cons_succ])
    rw [hne]
    refine tk 11 (v := ?_) rfl (by kernel_rfl) (by kernel_rfl) (by kernel_rfl) (fun _ _ _ h => h) rfl ?_ hz ?_; rotate_left; (focus (intro w hSw; (try dsimp only at hSw);  go_simp; (try with_reducible rfl))); (try simp only [Act.put, List.setIfInBounds_toArray, List.set_cons_zero, List.set_cons_succ])
    refine wpAnyH_done (by kernel_rfl) ?_ _
    have S5 := hid hz.1
    have SE5 := hid hz.2
    clear hz hHeld S4 SE4 LK HD hne n0
    go_wp2_with fail
    go_loopw [7, 8] (fun a i wr => ∃ k : Nat, k ≤ 64 ∧ i = .int .i64 (k : Int) ∧ a = .int .i64 ((rotL p ⟨ya, yb⟩ k).length : Nat) ∧ SG W wr [(P, p)] [] ∧ Se wr (some ⟨gb, off, none⟩) N (gl L)) (fun _ i _ => 64 - (intOf i).toNat)
    case atStart => exact ⟨0, by omega, rfl, rfl, S5.out, SE5.out⟩
    case round =>
      clear S5 SE5
      obtain ⟨k, hk, rfl, rfl, hS, hSE⟩ := hrel
      have S6 := hid hS
      have SE6 := hid hSE
      clear hS hSE
      have hln := (rot_len p ⟨ya, yb⟩ k).2
      by_cases hlt : k < 64
      · have i0 : (0 : Int) ≤ k := by omega
        have i1 : (k : Int) < 64 := by omega
        have GT : Hid (goneS p k = ((p.s k).st == 4 && decide ((p.s k).si + 3 ≤ p.r.e + 1))) := hid rfl
        have RL : Hid (rotL p ⟨ya, yb⟩ (k + 1) = if goneS p k = true then rotL p ⟨ya, yb⟩ k ++ [⟨5, (k : Int), 0, 0, 0, zKy⟩] else rotL p ⟨ya, yb⟩ k) := hid rfl
        have hpb := HQ.out.pb (by omega)
        have hsi := hpb.2.2 k hlt
        have hre := hpb.2.1
        clear hpb
        unfold Ep at hre
        obtain ⟨hs1, hs2⟩ := hsi
        obtain ⟨hr1, hr2⟩ := hre
        have PP := SG.get S6.out (b := P) (p := p) (by simp)
        have ce : wr.cell? ⟨P, 323, none⟩ = some (.int .i64 p.r.e) := PP.cr 0 (by omega)
        have c0 : wr.cell? ⟨P, 3 + k * 5, none⟩ = some (.int .i64 (p.s k).st) := PP.cs k 0 hlt (by omega)
        have c4 : wr.cell? ⟨P, 3 + k * 5 + 4, none⟩ = some (.int .i64 (p.s k).si) := PP.cs k 4 hlt (by omega)
        clear PP
        obtain ⟨st, hst⟩ : ∃ x, x = (p.s k).st := ⟨_, rfl⟩
        obtain ⟨si, hsi⟩ : ∃ x, x = (p.s k).si := ⟨_, rfl⟩
        obtain ⟨re, hre⟩ : ∃ x, x = p.r.e := ⟨_, rfl⟩
        rw [← hst] at GT c0
        rw [← hsi] at GT c4 hs1 hs2
        rw [← hre] at GT ce hr1 hr2
        clear hst hsi hre
        have w3_ : IntKind.i64.wrap (si + 3) = si + 3 := IntWalk.i64_in _ (by omega)
        have w1_ : IntKind.i64.wrap (re + 1) = re + 1 := IntWalk.i64_in _ (by omega)
        have h6 : (st == 4) = false ∨ (st == 4) = true ∧ decide (si + 3 ≤ re + 1) = false ∨ (st == 4) = true ∧ decide (si + 3 ≤ re + 1) = true := by cases (st == 4) <;> cases decide (si + 3 ≤ re + 1) <;> simp
        rcases h6 with h6 | ⟨h6, h7⟩ | ⟨h6, h7⟩
        · have AF : Hid (goneS p k = false) := hid (by rw [GT.out, h6]; rfl)
          have RE : Hid (rotL p ⟨ya, yb⟩ (k + 1) = rotL p ⟨ya, yb⟩ k) := hid (by rw [RL.out, AF.out]; rfl)
          clear GT RL AF
          have h8 : (st != 4) = true := by rw [bne, h6]; rfl
          go_wp2_with fail
          go_quiet (fail)
          go_wp2_with fail
          go_roundw
          case rel => exact ⟨k + 1, by omega, by go_num, by rw [RE.out], SGd S6.out _, Sl.drewN SE6.out _⟩
          case measure => simp [intOf]; omega
        · have AF : Hid (goneS p k = false) := hid (by rw [GT.out, h6, h7]; rfl)
          have RE : Hid (rotL p ⟨ya, yb⟩ (k + 1) = rotL p ⟨ya, yb⟩ k) := hid (by rw [RL.out, AF.out]; rfl)
          clear GT RL AF
          have h8 : (st != 4) = false := by rw [bne, h6]; rfl
          have h7q : ¬ si + 3 ≤ re + 1 := by simpa using h7
          have h7n : re + 1 < si + 3 := by omega
          clear h7q
          go_wp2_with fail
          go_quiet (fail)
          go_wp2_with fail
          go_roundw
          case rel => exact ⟨k + 1, by omega, by go_num, by rw [RE.out], SGd S6.out _, Sl.drewN SE6.out _⟩
          case measure => simp [intOf]; omega
        · have AF : Hid (goneS p k = true) := hid (by rw [GT.out, h6, h7]; rfl)
          have RE : Hid (rotL p ⟨ya, yb⟩ (k + 1) = rotL p ⟨ya, yb⟩ k ++ [⟨5, (k : Int), 0, 0, 0, zKy⟩]) := hid (by rw [RL.out, AF.out]; rfl)
          obtain ⟨hat, hgl⟩ := AT.out k AF.out hlt
          clear GT RL AF
          have h8 : (st != 4) = false := by rw [bne, h6]; rfl
          skip
          have h8 : (st != 4) = false := by rw [bne, h6]; rfl
          have h7q : si + 3 ≤ re + 1 := by simpa using h7
          have h7n : ¬ re + 1 < si + 3 := by omega
          clear h7q
          obtain ⟨m, hm⟩ : ∃ m, m = (rotL p ⟨ya, yb⟩ k).length := ⟨_, rfl⟩
          have HM := hid hm
          rw [← hm] at hat hgl hln ⊢
          clear hm
          have m0 : (0 : Int) ≤ m := by omega
          have m1 : (m : Int) < N := by omega
          have m2 : decide (N ≤ m) = false := by simp; omega
          have m3 : ¬ N ≤ m := by omega
          have hne : (!eqE (gl L m) ⟨5, (k : Int), 0, 0, 0, zKy⟩) = false := by rw [hgl, eqE_self]; rfl
          clear hgl
          go_wp2_with fail
          go_quiet (fail)
          go_upto_region 12 with (fail)
          clear c0 c4 ce w3_ w1_ h6 h7 h7n h8
          obtain ⟨w7, hw7⟩ : ∃ x, x = wr.drewN nq := ⟨_, rfl⟩
          have S7 := hid (show SG W w7 [(P, p)] [] from by rw [hw7]; exact SGd S6.out _)
          have SE7 := hid (show Se w7 (some ⟨gb, off, none⟩) N (gl L) from by rw [hw7]; exact Sl.drewN SE6.out _)
          rw [← hw7]
          clear hw7 S6 SE6
          have LE := Se.load SE7.out m hat
          go_wp2_with (first | ((with_reducible refine wl_id ?_); refine wl_load rfl rfl rfl LE ?_) | ((with_reducible refine wl_id ?_); refine wl_val rfl (ex_neq _ _ rfl (gl L m) ⟨5, (k : Int), 0, 0, 0, zKy⟩ rfl rfl _) ?_; rw [hne]))
          clear LE
          go_roundw
          case rel => exact ⟨k + 1, by omega, by go_num, by rw [RE.out, List.length_append, ← HM.out]; go_num, S7.out, SE7.out⟩
          case measure => simp [intOf]; omega
      · have e : k = 64 := by omega
        subst e
        rw [EN.out]
        go_wp2_with fail
        go_ret
        exact ⟨rfl, S6.out.bl⟩

set_option maxRecDepth 100000 in
theorem lifted (os : Os) (started : os.Started) (H : Type) (enc : TypeId × Value → H) :
    ReturnsInHanded {} Tryd.checked os 10 .any (fun w args => (Rows.orderFreesSpec.pre enc Tryd.prog Tryd.f10 [] false w args ∧ laidMetH Tryd.prog Rows.orderFreesRow.laid w) ∧ sizedMet enc Tryd.prog Tryd.f10 (OpenSpec.ofChange Rows.orderFreesSpec) false w args) (Rows.orderFreesSpec.post enc Tryd.prog Tryd.f10 false true false false) :=
  law_door (s := Rows.orderFreesSpec) (laid := Rows.orderFreesRow.laid) started (by kernel_rfl) Tryd.func10
    (ChangeSpec.witness_shaped (enc := enc) (C := Tryd.checked) (os := os) (X := fun w _ => laidMetH Tryd.prog Rows.orderFreesRow.laid w) false (World.laidAll Tryd.prog os Rows.orderFreesRow.laid) #[.slice none 0 0, .int .i64 0] 8 (World.laidAll_os _ _ _)
      (World.shaped_of_ZipB (by kernel_rfl) (by kernel_rfl)) (by kernel_rfl) (by kernel_rfl) (by kernel_rfl)
      (by rw [MakeChecks.laidMetH_plain _ _ _ (by kernel_rfl)]; exact laidMet_laidAll _ (by kernel_rfl) (by kernel_rfl)))
    rfl (by rw [Tryd.params10]; decide +kernel) rfl Tryd.underlying4
    (fun ds h => by
      rw [Tryd.params10] at h
      match ds, h with
      | [_, _], _ => rfl)
    (fun W base args ds ps hsh hval hA hsz => by
      rw [Tryd.params10] at hA hval hsz
      obtain ⟨v0, vs0, d0, ds0, p0, q0, hargs, rfl, rfl, h0, r0⟩ := trodAll_cons hA
      obtain ⟨v1, vs1, d1, ds1, p1, q1, rfl, rfl, rfl, h1, r1⟩ := trodAll_cons r0
      obtain ⟨rfl, rfl, rfl⟩ := trodAll_nil r1
      obtain rfl : args = #[v0, v1] := by cases args; simp_all
      obtain ⟨A0, n0, c0, g0, rfl, hn0, hc0, hs0, hw0, hl0, hd0⟩ := open_row Tryd.underlying22 Tryd.underlying3 (by kernel_rfl) (hval 0 22 v0 rfl rfl) h0
      have re0 : c0 * 8 ≤ 140737488351232 := by
        rcases hd0 with ⟨_, h0⟩ | ⟨xs, ys, h1, h2⟩
        · omega
        · have := sized_slice hsz (j := 0) (t := 22) (e := 3) rfl (by rw [h1]; rfl) Tryd.underlying22
          rw [h2, show Tryd.prog.bytesOf 3 = 8 from by kernel_rfl] at this
          simpa [reachBytes] using this
      obtain ⟨a1, rfl, rfl, rfl, w1⟩ := open_int Tryd.underlying3 (hval 1 3 v1 rfl rfl) h1
      exact walk W hsh A0 n0 c0 g0 hn0 hc0 hs0 (fun j => bounds_i64 (hw0 j)) hl0 re0 a1 (bounds_i64 w1))

theorem holds : Rows.OrderFreesSaid :=
  OpenClaim.holds_of_wide 10 Tryd.f10 rfl rfl rfl rfl rfl rfl rfl ⟨rfl, rfl, rfl, rfl, rfl⟩ rfl rfl rfl rfl rfl (by kernel_rfl) Tryd.func10 (by kernel_rfl)
    (of_decide_eq_true (by kernel_rfl)) (by unfold Func.isWrapper; first | (rw [if_pos (by decide +kernel)]; kernel_rfl) | (rw [if_neg (by decide +kernel)]; exact ⟨rfl, rfl⟩))
    (fun os started H enc _ => lifted os started H enc)
theorem proved : Rows.OrderFreesCardSaid :=
  Claim7.holds_tied_plain_at .later [] Rows.orderFreesCard.laidKinds true Rows.orderFreesCard.stood.harness false holds (fun _ h => by cases h) (by kernel_rfl) (fun _ h => by cases h) orderFrees_row_tie rfl ⟨rfl, rfl⟩ (by kernel_rfl) rfl
    (fun f fn hf hfn => by
      obtain rfl : f = 10 := Option.some.inj ((show Tryd.prog.funcNamed Rows.orderFreesRow.func = some 10 by kernel_rfl).symm.trans hf) |>.symm
      obtain rfl : fn = Tryd.f10 := (Option.some.inj (Tryd.func10.symm.trans hfn)).symm
      exact ⟨by kernel_rfl, fun j t ht => by
        rw [Tryd.params10] at ht
        have hm : t ∈ [22, 3] := by simpa using Array.mem_of_getElem? ht
        have hall : ([22, 3].all fun u => !Tryd.prog.wantsStandIn u) = true := by kernel_rfl
        exact (show Tryd.prog.wantsStandIn t = false by simpa using List.all_eq_true.1 hall t hm)⟩)
    (by kernel_rfl)
end Go.Proofs.YtljgcffpijjliaaDoor.orderFrees
