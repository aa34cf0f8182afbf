/- roundhouselaw6.PoolQuiet answers true for every row, any two numbers; no condition. -/
import Derived.Test.YtdobcdhdeagekaaPolMake
import Derived.BigQuiet
import Derived.Deep.RegionHeld3
import Derived.Deep.Cut
namespace Go.Proofs.Ytdobcdhdeagekaa.poolQuiet
set_option linter.unusedVariables false
set_option linter.unusedSimpArgs false
open Go.RowKit Go.ChangeShapes Go.WideShapes Go.ChangeAt

/-- Slot c is shut, and so many new keys have come. -/
def qk (p : Pl) (c : Nat) : Nat → Pl
  | 0 => nxP p ⟨4, (c : Int), 0, 0, 0, zKy⟩
  | j + 1 => nxP (qk p c j) ⟨6, 0, 0, 0, 0, kyN j⟩
theorem inR_c {c : Nat} (h : c < 64) : inR (c : Int) 0 63 = true := by unfold inR; simp; omega
theorem q_shut {p : Pl} {c : Nat} (hc : c < 64) (h : (p.s c).st = 1 ∨ (p.s c).st = 3) : apR p ⟨4, (c : Int), 0, 0, 0, zKy⟩ = (qk p c 0, 0) := by
  have hk : chk ⟨4, (c : Int), 0, 0, 0, zKy⟩ = 0 := by rw [chk_r]; simp only [inR_c hc]; rfl
  have hf : fitB p ⟨4, (c : Int), 0, 0, 0, zKy⟩ c = true := by
    unfold fitB
    rcases h with h | h <;> simp only [h] <;> rfl
  unfold apR
  rw [if_pos hk]
  simp only [Int.toNat_natCast]
  unfold refE
  rw [hf]
  rfl
theorem q_rot (p : Pl) (k : Ky) : apR p ⟨6, 0, 0, 0, 0, k⟩ = (nxP p ⟨6, 0, 0, 0, 0, k⟩, 0) := by
  have hk : chk ⟨6, 0, 0, 0, 0, k⟩ = 0 := by rw [chk_r]; rfl
  unfold apR
  rw [if_pos hk]
  rfl
theorem qk_s (p : Pl) {c : Nat} : ∀ j : Nat, (qk p c j).s = setS p.s c { p.s c with st := 4, si := p.r.e } ∧ (qk p c j).r.e = p.r.e + j
  | 0 => by
    unfold qk nxP chS
    simp only [Int.toNat_natCast]
    exact ⟨rfl, by show p.r.e = p.r.e + ((0 : Nat) : Int); omega⟩
  | j + 1 => by
    obtain ⟨h1, h2⟩ := qk_s p (c := c) j
    unfold qk
    refine ⟨h1, ?_⟩
    show (qk p c j).r.e + 1 = p.r.e + ((j + 1 : Nat) : Int)
    rw [h2]
    omega
theorem qk_inv {p : Pl} {c : Nat} (hc : c < 64) {K : Int} (h : Pinv p K) : ∀ j : Nat, Pinv (qk p c j) (K + 1 + j)
  | 0 => (nxP_inv h _ (by simpa using hc)).mono (by omega)
  | j + 1 => (nxP_inv (qk_inv hc h j) _ (by show (0 : Int).toNat < 64; decide)).mono (by omega)
theorem q_free {c : Nat} (hc : c < 64) (p : Pl) (j : Nat) : apR (qk p c j) ⟨5, (c : Int), 0, 0, 0, zKy⟩ = if (j : Int) < 3 then (zPl, 13) else (nxP (qk p c j) ⟨5, (c : Int), 0, 0, 0, zKy⟩, 0) := by
  have hk : chk ⟨5, (c : Int), 0, 0, 0, zKy⟩ = 0 := by rw [chk_r]; simp only [inR_c hc]; rfl
  obtain ⟨h1, h2⟩ := qk_s p (c := c) j
  have hs : (qk p c j).s c = { p.s c with st := 4, si := p.r.e } := by rw [h1]; unfold setS; simp
  have hf : fitB (qk p c j) ⟨5, (c : Int), 0, 0, 0, zKy⟩ c = true := by
    unfold fitB
    simp only [hs]
    rfl
  unfold apR
  rw [if_pos hk]
  simp only [Int.toNat_natCast]
  unfold refE
  rw [hf, hs, h2]
  by_cases h3 : (j : Int) < 3
  · have hd : decide (p.r.e + (j : Int) < p.r.e + 3) = true := by simp; omega
    simp only [hd, h3, if_true]
    rfl
  · have hd : decide (p.r.e + (j : Int) < p.r.e + 3) = false := by simp; omega
    simp only [hd, h3, if_false]
    rfl
attribute [local irreducible] PA
set_option maxRecDepth 100000 in
set_option maxHeartbeats 8000000 in
theorem walk (W : World) (A1 : Option Addr) (n1 c1 : Nat) (g1 : Nat → Int) (hn1 : n1 ≤ c1) (hc1 : c1 ≤ maxLen) (hr1 : Is W A1 n1 g1) (hg1 : IsI g1) (hl1 : ∀ ad, A1 = some ad → 0 < n1 → ad.block < W.heap.size) (re1 : c1 * 8 ≤ 140737488351232) (a0 : Int) (r_a0 : -9223372036854775808 ≤ a0 ∧ a0 ≤ 9223372036854775807) (b0 : Int) (r_b0 : -9223372036854775808 ≤ b0 ∧ b0 ≤ 9223372036854775807) :
    Calls Try.prog 7 #[.slice A1 n1 c1, .int .i64 a0, .int .i64 b0] W fun e w' => e = .returned (.bool true) ∧ Below W.heap.size W w' := by
  have hz : ∀ w : World, (zeroValue 34).run Try.prog w = .ok (.agg (PA zPl)) w := fun w => zero_pl w
  have hz1 := pa_size zPl
  have hz2 := pa_ne zPl
  obtain ⟨s0, hs0⟩ : ∃ x, x = wi a0 6 := ⟨_, rfl⟩
  have bs0 := wi_bd a0 6 (by omega)
  rw [← hs0] at bs0
  have Ws0 := hid (fun w => re_i64 (within_any a0 6 w (by omega) (by omega)) hs0.symm)
  clear hs0
  obtain ⟨bs01, bs02⟩ := bs0
  obtain ⟨u, hu⟩ : ∃ x, x = wi b0 6 := ⟨_, rfl⟩
  have bu := wi_bd b0 6 (by omega)
  rw [← hu] at bu
  have Wu := hid (fun w => re_i64 (within_any b0 6 w (by omega) (by omega)) hu.symm)
  clear hu
  obtain ⟨bu1, bu2⟩ := bu
  unfold maxLen at hc1
  have hnm : (n1 : Int) ≤ 9223372036854775807 := by have := hn1; omega
  have HL := hid hl1
  clear hl1 re1
  obtain ⟨c, rfl⟩ : ∃ c : Nat, s0 = c := ⟨s0.toNat, by omega⟩
  obtain ⟨m, rfl⟩ : ∃ m : Nat, u = m := ⟨u.toNat, by omega⟩
  have c64 : c < 64 := by omega
  obtain ⟨p, hp⟩ : ∃ p, p = mkP g1 (min n1 40) := ⟨_, rfl⟩
  have HQ := hid (show Pinv p 40 from by rw [hp]; exact (mkP_inv g1 _).mono (by omega))
  have MK := hid (fun (w : World) (h : Is w A1 n1 g1) (hl : ∀ ad, A1 = some ad → 0 < n1 → ad.block < w.heap.size) => (show Calls Try.prog 24 #[.slice A1 n1 c1, .int .i64 40] w fun x w' => x = .returned (.agg (PA p)) ∧ Below w.heap.size w w' from by rw [hp]; exact make_any w A1 n1 c1 g1 h hl hnm 40 (by omega)))
  clear hp
  have i64 : (c : Int) < 64 := by omega
  have h6 : ((p.s c).st != 1) = true ∧ ((p.s c).st != 3) = true ∨ (p.s c).st = 1 ∨ (p.s c).st = 3 := by by_cases h1 : (p.s c).st = 1; (exact .inr (.inl h1)); (by_cases h3 : (p.s c).st = 3; exact .inr (.inr h3); exact .inl ⟨by simpa using h1, by simpa using h3⟩)
  have hS : (p.s c).st = 1 ∨ (p.s c).st = 3 → apR p ⟨4, (c : Int), 0, 0, 0, zKy⟩ = (qk p c 0, 0) := q_shut c64
  have hSP := hid hS
  clear hS
  rcases h6 with ⟨b1, b3⟩ | h13
  · go_enter Try.func7, Try.ntmps7
    go_wp2_with fail
    refine (known_any _).mono ?_
    rintro x w1 ⟨rfl, hB⟩
    have R1 := hid (hr1.below hB (Nat.le_refl _))
    have B1 := hid hB
    clear hr1 hB
    go_wp2_with fail
    refine (MK.out _ R1.out (fun ad e h => Nat.lt_of_lt_of_le (HL.out ad e h) B1.out.size)).mono ?_
    rintro x w2 ⟨rfl, hb⟩
    have B2 := hid (B1.out.trans (hb.mono B1.out.size))
    clear hb R1 B1 MK
    have ST := hid ((PoolAt.made (w := w2) (p := zPl) (T := 34) rfl).storeA p)
    have P3 := hid ((PoolAt.made (w := w2) (p := zPl) (T := 34) rfl).whole p)
    have B3 := hid ((B2.out.alloc B2.out.size (.cells (PA zPl) 34)).trans (keeps_setCells w2.heap.size (PA p).toList 0 _ W.heap.size B2.out.size))
    go_upto_region 4 with ((with_reducible refine wl_id ?_); refine wl_store rfl rfl rfl rfl ST.out ?_)
    clear ST B2
    generalize (w2.alloc (.cells (PA zPl) 34)).setCells w2.heap.size 0 (PA p).toList = w3 at *
    generalize w2.heap.size = P at *
    go_wp2_with fail
    refine (Ws0.out _).mono ?_
    rintro x w' ⟨rfl, rfl⟩
    have cst : w3.cell? ⟨P, 3 + c * 5, none⟩ = some (.int .i64 (p.s c).st) := P3.out.cs c 0 c64 (by omega)
    go_wp2_with fail
    go_ret
    exact ⟨rfl, B3.out⟩
  · have HSh := hid (hSP.out h13)
    have AS := hid (show ∀ w, Calls Try.prog 19 #[.agg (PA p), .agg #[.int .i64 4, .int .i64 (c : Int), .int .i64 0, .int .i64 0, .int .i64 0, .int .u64 0, .int .u64 0]] w fun x w' => x = .returned (.tuple #[.agg (PA (qk p c 0)), .int .i64 0]) ∧ Below w.heap.size w w' from fun w => re_v (apply_any p ⟨4, (c : Int), 0, 0, 0, zKy⟩ (HQ.out.pb (by omega)) w) (by rw [HSh.out]; rfl))
    have b13 : ((p.s c).st != 1) = true ∧ ((p.s c).st != 3) = false ∨ ((p.s c).st != 1) = false := by rcases h13 with h | h; (right; rw [h]; rfl); (left; rw [h]; exact ⟨rfl, rfl⟩)
    have H13 := hid h13
    clear h13
    rcases b13 with ⟨b1, b3⟩ | b1
    all_goals
      go_enter Try.func7, Try.ntmps7
      go_wp2_with fail
      refine (known_any _).mono ?_
      rintro x w1 ⟨rfl, hB⟩
      have R1 := hid (hr1.below hB (Nat.le_refl _))
      have B1 := hid hB
      clear hr1 hB
      go_wp2_with fail
      refine (MK.out _ R1.out (fun ad e h => Nat.lt_of_lt_of_le (HL.out ad e h) B1.out.size)).mono ?_
      rintro x w2 ⟨rfl, hb⟩
      have B2 := hid (B1.out.trans (hb.mono B1.out.size))
      clear hb R1 B1 MK
      have ST := hid ((PoolAt.made (w := w2) (p := zPl) (T := 34) rfl).storeA p)
      have P3 := hid ((PoolAt.made (w := w2) (p := zPl) (T := 34) rfl).whole p)
      have B3 := hid ((B2.out.alloc B2.out.size (.cells (PA zPl) 34)).trans (keeps_setCells w2.heap.size (PA p).toList 0 _ W.heap.size B2.out.size))
      go_upto_region 4 with ((with_reducible refine wl_id ?_); refine wl_store rfl rfl rfl rfl ST.out ?_)
      clear ST B2
      generalize (w2.alloc (.cells (PA zPl) 34)).setCells w2.heap.size 0 (PA p).toList = w3 at *
      generalize w2.heap.size = P at *
      go_wp2_with fail
      refine (Ws0.out _).mono ?_
      rintro x w' ⟨rfl, rfl⟩
      have cst : w3.cell? ⟨P, 3 + c * 5, none⟩ = some (.int .i64 (p.s c).st) := P3.out.cs c 0 c64 (by omega)
      have LP := P3.out.loadA
      go_wp2_with ((with_reducible refine wl_id ?_); refine wl_load rfl rfl rfl LP ?_)
      refine (AS.out _).mono ?_
      rintro x w4 ⟨rfl, hb⟩
      clear LP cst AS
      have B4 := hid (B3.out.trans (hb.mono B3.out.size))
      clear hb P3 B3
      obtain ⟨q0, hq0⟩ : ∃ q0, q0 = qk p c 0 := ⟨_, rfl⟩
      rw [← hq0]
      have HQ0 := hid hq0
      clear hq0
      have ST := hid ((PoolAt.made (w := w4) (p := zPl) (T := 34) rfl).storeA q0)
      have N5 := hid ((PoolAt.made (w := w4) (p := zPl) (T := 34) rfl).whole q0)
      have lN := B4.out.size
      have B5 := hid ((B4.out.alloc B4.out.size (.cells (PA zPl) 34)).trans (keeps_setCells w4.heap.size (PA q0).toList 0 _ W.heap.size B4.out.size))
      go_upto_region 8 with ((with_reducible refine wl_id ?_); refine wl_store rfl rfl rfl rfl ST.out ?_)
      clear ST B4
      generalize (w4.alloc (.cells (PA zPl) 34)).setCells w4.heap.size 0 (PA q0).toList = w5 at *
      generalize w4.heap.size = N at *
      go_wp2_with fail
      refine (Wu.out _).mono ?_
      rintro x w' ⟨rfl, rfl⟩
      go_wp2_with fail
      go_loopw [12, 10] (fun i e wr => ∃ j : Nat, j ≤ m ∧ i = .int .i64 (j : Int) ∧ e = .int .i64 0 ∧ PoolAt wr N (qk p c j) ∧ Below W.heap.size W wr) (fun i _ _ => m - (intOf i).toNat)
      case atStart => exact ⟨0, by omega, rfl, rfl, by have h := N5.out; rw [HQ0.out] at h; exact h, B5.out⟩
      case round =>
        clear N5 B5
        obtain ⟨j, hj, rfl, rfl, hN, hB⟩ := hrel
        have N6 := hid hN
        have B6 := hid hB
        clear hN hB
        by_cases hlt : j < m
        · have i0 : (0 : Int) ≤ j := by omega
          have i1 : (j : Int) < m := by omega
          obtain ⟨ky, hky⟩ : ∃ ky, ky = kyN (j : Int) := ⟨_, rfl⟩
          have LK := fun w => lkey_any (j : Int) w
          rw [← hky] at LK
          unfold kyV at LK
          replace LK := hid LK
          have AR := hid (show ∀ w, Calls Try.prog 19 #[.agg (PA (qk p c j)), .agg #[.int .i64 6, .int .i64 0, .int .i64 0, .int .i64 0, .int .i64 0, .int .u64 ky.a, .int .u64 ky.b]] w fun x w' => x = .returned (.tuple #[.agg (PA (qk p c (j + 1))), .int .i64 0]) ∧ Below w.heap.size w w' from fun w => re_v (apply_any (qk p c j) ⟨6, 0, 0, 0, 0, ky⟩ ((qk_inv c64 HQ.out j).pb (by omega)) w) (by rw [q_rot, hky]; rfl))
          clear hky
          obtain ⟨q, hq⟩ : ∃ q, q = qk p c j := ⟨_, rfl⟩
          obtain ⟨q2, hq2⟩ : ∃ q2, q2 = qk p c (j + 1) := ⟨_, rfl⟩
          rw [← hq, ← hq2] at AR
          rw [← hq] at N6
          have HQ2 := hid hq2
          clear hq hq2
          go_upto_region 14 with (fail)
          refine wp_region_held_drew (S := fun w' => Below W.heap.size W w') (by kernel_rfl) ?_ (fun hHeld => ?_)
          · exact B6.out.drew
          refine tk 1 (v := ?_) rfl (by kernel_rfl) (by kernel_rfl) (by kernel_rfl) (fun _ _ _ h => h) rfl ?_ hHeld ?_; rotate_left; (focus (intro w hSw; (try dsimp only at hSw); go_simp; (try with_reducible rfl))); (try simp only [Act.put, List.setIfInBounds_toArray, List.set_cons_zero, List.set_cons_succ])
          refine twoUp 0 2 rfl rfl (by kernel_rfl) rfl rfl (fun K hK => ?_) (fun K hK => ?_)
          · refine ov_val (ex_load rfl rfl N6.out.drew.loadA) ?_
            refine hK.out _ _ hHeld (fun _ => ?_)
            clear hK
            try simp only [Act.put, List.setIfInBounds_toArray, List.set_cons_zero, List.set_cons_succ]
            refine only 2 rfl (by kernel_rfl) rfl (fun K hK => ?_)
            go_simp
            refine (LK.out _).mono ?_
            rintro e' w' ⟨rfl, hb⟩
            try go_wp2_with fail
            have P7 := (N6.out.drew).below hb
            refine hK.out _ _ (Below.trans hHeld (hb.mono hHeld.size)) (fun h7 => ?_)
            clear hK hb
            try simp only [Act.put, List.setIfInBounds_toArray, List.set_cons_zero, List.set_cons_succ]
            refine tk 3 (v := ?_) rfl (by kernel_rfl) (by kernel_rfl) (by kernel_rfl) (fun _ _ _ h => h) rfl ?_ h7 ?_; rotate_left; (focus (intro w hSw; (try dsimp only at hSw); go_simp; (try with_reducible rfl))); (try simp only [Act.put, List.setIfInBounds_toArray, List.set_cons_zero, List.set_cons_succ])
            refine only 4 rfl (by kernel_rfl) rfl (fun K hK => ?_)
            go_simp
            refine (AR.out _).mono ?_
            rintro e' w' ⟨rfl, hb⟩
            try go_wp2_with fail
            have P8 := P7.below hb
            refine hK.out _ _ (Below.trans h7 (hb.mono h7.size)) (fun h8 => ?_)
            clear hK hb
            try simp only [Act.put, List.setIfInBounds_toArray, List.set_cons_zero, List.set_cons_succ]
            refine tk 5 (v := ?_) rfl (by kernel_rfl) (by kernel_rfl) (by kernel_rfl) (fun _ _ _ h => h) rfl ?_ h8 ?_; rotate_left; (focus (intro w hSw; (try dsimp only at hSw); go_simp; (try with_reducible rfl))); (try simp only [Act.put, List.setIfInBounds_toArray, List.set_cons_zero, List.set_cons_succ])
            refine tk 6 (v := ?_) rfl (by kernel_rfl) (by kernel_rfl) (by kernel_rfl) (fun _ _ _ h => h) rfl ?_ h8 ?_; rotate_left; (focus (intro w hSw; (try dsimp only at hSw); go_simp; (try with_reducible rfl))); (try simp only [Act.put, List.setIfInBounds_toArray, List.set_cons_zero, List.set_cons_succ])
            refine tk 7 (v := ?_) rfl (by kernel_rfl) (by kernel_rfl) (by kernel_rfl) (fun _ _ _ h => h) rfl ?_ h8 ?_; rotate_left; (focus (intro w hSw; (try dsimp only at hSw); go_simp; (try with_reducible rfl))); (try simp only [Act.put, List.setIfInBounds_toArray, List.set_cons_zero, List.set_cons_succ])
            have P9 := P8.whole q2
            refine only 8 rfl (by kernel_rfl) rfl (fun K hK => ?_)
            refine ov_store rfl rfl rfl (P8.storeA q2) ?_
            refine hK.out _ _ (h8.trans (keeps_setCells N (PA q2).toList 0 _ W.heap.size lN)) (fun h9 => ?_)
            clear hK
            try simp only [Act.put, List.setIfInBounds_toArray, List.set_cons_zero, List.set_cons_succ]
            refine tk 9 (v := ?_) rfl (by kernel_rfl) (by kernel_rfl) (by kernel_rfl) (fun _ _ _ h => h) rfl ?_ h9 ?_; rotate_left; (focus (intro w hSw; (try dsimp only at hSw); go_simp; (try with_reducible rfl))); (try simp only [Act.put, List.setIfInBounds_toArray, List.set_cons_zero, List.set_cons_succ])
            refine wpAnyH_done (by kernel_rfl) ?_ _
            have P10 := hid P9
            have B10 := hid h9
            clear P9 h9 P8 h8
            generalize w'.setCells N 0 (PA q2).toList = wz at *
            go_wp2_with fail
            go_roundw
            case rel => exact ⟨j + 1, by omega, by go_num, rfl, by rw [← HQ2.out]; exact P10.out, B10.out⟩
            case measure => simp [intOf]; omega
          · go_simp
            refine (LK.out _).mono ?_
            rintro e' w' ⟨rfl, hb⟩
            try go_wp2_with fail
            have P7 := (N6.out.drew).below hb
            refine hK.out _ _ (Below.trans hHeld (hb.mono hHeld.size)) (fun h7 => ?_)
            clear hK hb
            try simp only [Act.put, List.setIfInBounds_toArray, List.set_cons_zero, List.set_cons_succ]
            refine tk 3 (v := ?_) rfl (by kernel_rfl) (by kernel_rfl) (by kernel_rfl) (fun _ _ _ h => h) rfl ?_ h7 ?_; rotate_left; (focus (intro w hSw; (try dsimp only at hSw); go_simp; (try with_reducible rfl))); (try simp only [Act.put, List.setIfInBounds_toArray, List.set_cons_zero, List.set_cons_succ])
            refine only 0 rfl (by kernel_rfl) rfl (fun K hK => ?_)
            refine ov_val (ex_load rfl rfl P7.loadA) ?_
            refine hK.out _ _ h7 (fun _ => ?_)
            clear hK
            try simp only [Act.put, List.setIfInBounds_toArray, List.set_cons_zero, List.set_cons_succ]
            refine only 4 rfl (by kernel_rfl) rfl (fun K hK => ?_)
            go_simp
            refine (AR.out _).mono ?_
            rintro e' w' ⟨rfl, hb⟩
            try go_wp2_with fail
            have P8 := P7.below hb
            refine hK.out _ _ (Below.trans h7 (hb.mono h7.size)) (fun h8 => ?_)
            clear hK hb
            try simp only [Act.put, List.setIfInBounds_toArray, List.set_cons_zero, List.set_cons_succ]
            refine tk 5 (v := ?_) rfl (by kernel_rfl) (by kernel_rfl) (by kernel_rfl) (fun _ _ _ h => h) rfl ?_ h8 ?_; rotate_left; (focus (intro w hSw; (try dsimp only at hSw); go_simp; (try with_reducible rfl))); (try simp only [Act.put, List.setIfInBounds_toArray, List.set_cons_zero, List.set_cons_succ])
            refine tk 6 (v := ?_) rfl (by kernel_rfl) (by kernel_rfl) (by kernel_rfl) (fun _ _ _ h => h) rfl ?_ h8 ?_; rotate_left; (focus (intro w hSw; (try dsimp only at hSw); go_simp; (try with_reducible rfl))); (try simp only [Act.put, List.setIfInBounds_toArray, List.set_cons_zero, List.set_cons_succ])
            refine tk 7 (v := ?_) rfl (by kernel_rfl) (by kernel_rfl) (by kernel_rfl) (fun _ _ _ h => h) rfl ?_ h8 ?_; rotate_left; (focus (intro w hSw; (try dsimp only at hSw); go_simp; (try with_reducible rfl))); (try simp only [Act.put, List.setIfInBounds_toArray, List.set_cons_zero, List.set_cons_succ])
            have P9 := P8.whole q2
            refine only 8 rfl (by kernel_rfl) rfl (fun K hK => ?_)
            refine ov_store rfl rfl rfl (P8.storeA q2) ?_
            refine hK.out _ _ (h8.trans (keeps_setCells N (PA q2).toList 0 _ W.heap.size lN)) (fun h9 => ?_)
            clear hK
            try simp only [Act.put, List.setIfInBounds_toArray, List.set_cons_zero, List.set_cons_succ]
            refine tk 9 (v := ?_) rfl (by kernel_rfl) (by kernel_rfl) (by kernel_rfl) (fun _ _ _ h => h) rfl ?_ h9 ?_; rotate_left; (focus (intro w hSw; (try dsimp only at hSw); go_simp; (try with_reducible rfl))); (try simp only [Act.put, List.setIfInBounds_toArray, List.set_cons_zero, List.set_cons_succ])
            refine wpAnyH_done (by kernel_rfl) ?_ _
            have P10 := hid P9
            have B10 := hid h9
            clear P9 h9 P8 h8
            generalize w'.setCells N 0 (PA q2).toList = wz at *
            go_wp2_with fail
            go_roundw
            case rel => exact ⟨j + 1, by omega, by go_num, rfl, by rw [← HQ2.out]; exact P10.out, B10.out⟩
            case measure => simp [intOf]; omega
        · have e : j = m := by omega
          subst e
          have AF0 := fun w => apply_any (qk p c j) ⟨5, (c : Int), 0, 0, 0, zKy⟩ ((qk_inv c64 HQ.out j).pb (by omega)) w
          cases b4 : decide ((j : Int) < 3)
          · have hf := hid (show apR (qk p c j) ⟨5, (c : Int), 0, 0, 0, zKy⟩ = ((nxP (qk p c j) ⟨5, (c : Int), 0, 0, 0, zKy⟩), 0) from by rw [q_free c64 p j, if_neg (by simpa using b4)])
            obtain ⟨q3, hq3⟩ : ∃ q3, q3 = (nxP (qk p c j) ⟨5, (c : Int), 0, 0, 0, zKy⟩) := ⟨_, rfl⟩
            have AF := hid (show ∀ w, Calls Try.prog 19 #[.agg (PA (qk p c j)), .agg #[.int .i64 5, .int .i64 (c : Int), .int .i64 0, .int .i64 0, .int .i64 0, .int .u64 0, .int .u64 0]] w fun x w' => x = .returned (.tuple #[.agg (PA q3), .int .i64 0]) ∧ Below w.heap.size w w' from fun w => re_v (AF0 w) (by rw [hf.out, hq3]; rfl))
            have HZS := hid (show q3.s c = zSp from by rw [hq3]; unfold nxP setS chS; simp)
            clear hq3 hf AF0
            have LP := N6.out.loadA
            go_wp2_with ((with_reducible refine wl_id ?_); refine wl_load rfl rfl rfl LP ?_)
            refine (AF.out _).mono ?_
            rintro x w7 ⟨rfl, hb⟩
            clear LP AF
            have B7 := hid (B6.out.trans (hb.mono B6.out.size))
            clear hb N6 B6
            have ST := hid ((PoolAt.made (w := w7) (p := zPl) (T := 34) rfl).storeA q3)
            have N8 := hid ((PoolAt.made (w := w7) (p := zPl) (T := 34) rfl).whole q3)
            have B8 := hid ((B7.out.alloc B7.out.size (.cells (PA zPl) 34)).trans (keeps_setCells w7.heap.size (PA q3).toList 0 _ W.heap.size B7.out.size))
            go_upto_region 18 with ((with_reducible refine wl_id ?_); refine wl_store rfl rfl rfl rfl ST.out ?_)
            clear ST B7
            generalize (w7.alloc (.cells (PA zPl) 34)).setCells w7.heap.size 0 (PA q3).toList = w8 at *
            generalize w7.heap.size = M at *
            have i3 : ¬ (j : Int) < 3 := by simpa using b4
            clear b4
            have LK := N8.out.loadK c c64
            rw [HZS.out] at LK
            unfold spV zSp at LK
            simp only at LK
            go_wp2_with ((with_reducible refine wl_id ?_); refine wl_load rfl rfl rfl LK ?_)
            go_ret
            exact ⟨rfl, B8.out⟩
          · have hf := hid (show apR (qk p c j) ⟨5, (c : Int), 0, 0, 0, zKy⟩ = (zPl, 13) from by rw [q_free c64 p j, if_pos (by simpa using b4)])
            obtain ⟨q3, hq3⟩ : ∃ q3, q3 = zPl := ⟨_, rfl⟩
            have AF := hid (show ∀ w, Calls Try.prog 19 #[.agg (PA (qk p c j)), .agg #[.int .i64 5, .int .i64 (c : Int), .int .i64 0, .int .i64 0, .int .i64 0, .int .u64 0, .int .u64 0]] w fun x w' => x = .returned (.tuple #[.agg (PA q3), .int .i64 13]) ∧ Below w.heap.size w w' from fun w => re_v (AF0 w) (by rw [hf.out, hq3]; rfl))
            subst hq3
            clear hf AF0
            have LP := N6.out.loadA
            go_wp2_with ((with_reducible refine wl_id ?_); refine wl_load rfl rfl rfl LP ?_)
            refine (AF.out _).mono ?_
            rintro x w7 ⟨rfl, hb⟩
            clear LP AF
            have B7 := hid (B6.out.trans (hb.mono B6.out.size))
            clear hb N6 B6
            have ST := hid ((PoolAt.made (w := w7) (p := zPl) (T := 34) rfl).storeA zPl)
            have N8 := hid ((PoolAt.made (w := w7) (p := zPl) (T := 34) rfl).whole zPl)
            have B8 := hid ((B7.out.alloc B7.out.size (.cells (PA zPl) 34)).trans (keeps_setCells w7.heap.size (PA zPl).toList 0 _ W.heap.size B7.out.size))
            go_upto_region 18 with ((with_reducible refine wl_id ?_); refine wl_store rfl rfl rfl rfl ST.out ?_)
            clear ST B7
            generalize (w7.alloc (.cells (PA zPl) 34)).setCells w7.heap.size 0 (PA zPl).toList = w8 at *
            generalize w7.heap.size = M at *
            have i3 : (j : Int) < 3 := by simpa using b4
            clear b4
            have LR := N8.out.loadA
            go_wp2_with (first | ((with_reducible refine wl_id ?_); refine wl_load rfl rfl rfl LR ?_) | ((with_reducible refine wl_id ?_); refine wl_build0 rfl rfl (build_zz _) ?_) | ((with_reducible refine wl_id ?_); refine wl_val rfl (ex_eql _ _ rfl zPl rfl rfl _) ?_))
            go_ret
            exact ⟨rfl, B8.out⟩

set_option maxRecDepth 100000 in
theorem lifted (os : Os) (started : os.Started) (H : Type) (enc : TypeId × Value → H) :
    ReturnsInHanded {} Try.checked os 7 .any (Rows.poolQuietSpec.pre6 enc Try.prog Try.f7 [] false) (Rows.poolQuietSpec.post enc Try.prog Try.f7 false true false false) :=
  law_step (s := Rows.poolQuietSpec) started (by kernel_rfl) Try.func7
    (ChangeSpec.witness6 (s := Rows.poolQuietSpec) (enc := enc) (C := Try.checked) false ⟨#[], #[.slice none 0 0, .int .i64 0, .int .i64 0], []⟩ 8 (by kernel_rfl) (by kernel_rfl) (by kernel_rfl) (by kernel_rfl))
    rfl (by rw [Try.params7]; decide +kernel) rfl Try.underlying4
    (fun ds h => by
      rw [Try.params7] at h
      match ds, h with
      | [_, _, _], _ => rfl)
    (fun W base args ds ps hval hA hsz => by
      rw [Try.params7] at hA hval hsz
      obtain ⟨v0, vs0, d0, ds0, p0, q0, hargs, rfl, rfl, h0, r0⟩ := trodAll_cons hA
      obtain ⟨v1, vs1, d1, ds1, p1, q1, rfl, rfl, rfl, h1, r1⟩ := trodAll_cons r0
      obtain ⟨v2, vs2, d2, ds2, p2, q2, rfl, rfl, rfl, h2, r2⟩ := trodAll_cons r1
      obtain ⟨rfl, rfl, rfl⟩ := trodAll_nil r2
      obtain rfl : args = #[v0, v1, v2] := by cases args; simp_all
      obtain ⟨A0, n0, c0, g0, rfl, hn0, hc0, hs0, hw0, hl0, hd0⟩ := open_row Try.underlying22 Try.underlying3 (by kernel_rfl) (hval 0 22 v0 rfl rfl) h0
      have re0 : c0 * 8 ≤ 140737488351232 := by
        rcases hd0 with ⟨_, h0⟩ | ⟨xs, ys, h1, h2⟩
        · omega
        · have := sized_slice hsz (j := 0) (t := 22) (e := 3) rfl (by rw [h1]; rfl) Try.underlying22
          rw [h2, show Try.prog.bytesOf 3 = 8 from by kernel_rfl] at this
          simpa [reachBytes] using this
      obtain ⟨a1, rfl, rfl, rfl, w1⟩ := open_int Try.underlying3 (hval 1 3 v1 rfl rfl) h1
      obtain ⟨a2, rfl, rfl, rfl, w2⟩ := open_int Try.underlying3 (hval 2 3 v2 rfl rfl) h2
      exact walk W A0 n0 c0 g0 hn0 hc0 hs0 (fun j => bounds_i64 (hw0 j)) hl0 re0 a1 (bounds_i64 w1) a2 (bounds_i64 w2))

theorem proved : Rows.PoolQuietSaid :=
  OpenClaim.holds_of_wide 7 Try.f7 rfl rfl rfl rfl rfl rfl rfl ⟨rfl, rfl, rfl, rfl, rfl⟩ rfl rfl rfl rfl rfl (by kernel_rfl) Try.func7 (by kernel_rfl)
    (of_decide_eq_true (by kernel_rfl)) (by unfold Func.isWrapper; first | (rw [if_pos (by decide +kernel)]; kernel_rfl) | (rw [if_neg (by decide +kernel)]; exact ⟨rfl, rfl⟩))
    (fun os started H enc _ => lifted os started H enc)
end Go.Proofs.Ytdobcdhdeagekaa.poolQuiet
