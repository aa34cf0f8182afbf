/- roundhouselaw6.PoolCounts answers true for every row, any number; no condition. -/
import Derived.Test.YtdobcdhdeagekaaPolMake
import Derived.BigQuiet
import Derived.Deep.RegionHeld3
import Derived.Deep.Cut
namespace Go.Proofs.Ytdobcdhdeagekaa.poolCounts
set_option linter.unusedVariables false
set_option linter.unusedSimpArgs false
open Go.RowKit Go.ChangeShapes Go.WideShapes Go.ChangeAt

theorem nx_facts (p : Pl) (e : En) : (nxP p e).v = p.v + 1 ∧ (nxP p e).a = p.a ∧ (nxP p e).p = p.p ∧ (∀ k : Nat, ((k : Int) ≠ (e.s.toNat : Int) ∨ e.k = 6) → (nxP p e).s k = p.s k) ∧ (bif e.k == 6 then (nxP p e).r.e = p.r.e + 1 else (nxP p e).r = p.r) := by
  unfold nxP
  cases b6 : (e.k == 6)
  · refine ⟨rfl, rfl, rfl, fun k h => ?_, rfl⟩
    have h6 : ¬ e.k = 6 := by simpa using b6
    rcases h with h | h
    · simp only [cond_false, setS]
      rw [if_neg (by omega)]
    · exact absurd h h6
  · exact ⟨rfl, rfl, rfl, fun k _ => rfl, rfl⟩
attribute [local irreducible] PA
set_option maxRecDepth 100000 in
set_option maxHeartbeats 8000000 in
theorem walk (W : World) (A1 : Option Addr) (n1 c1 : Nat) (g1 : Nat → Int) (hn1 : n1 ≤ c1) (hc1 : c1 ≤ maxLen) (hr1 : Is W A1 n1 g1) (hg1 : IsI g1) (hl1 : ∀ ad, A1 = some ad → 0 < n1 → ad.block < W.heap.size) (re1 : c1 * 8 ≤ 140737488351232) (a0 : Int) (r_a0 : -9223372036854775808 ≤ a0 ∧ a0 ≤ 9223372036854775807) :
    Calls Try.prog 10 #[.slice A1 n1 c1, .int .i64 a0] W fun e w' => e = .returned (.bool true) ∧ Below W.heap.size W w' := by
  have hz : ∀ w : World, (zeroValue 34).run Try.prog w = .ok (.agg (PA zPl)) w := fun w => zero_pl w
  have hz1 := pa_size zPl
  have hz2 := pa_ne zPl
  unfold maxLen at hc1
  have hnm : (n1 : Int) ≤ 9223372036854775807 := by have := hn1; omega
  have HL := hid hl1
  clear hl1 re1
  obtain ⟨p, hp⟩ : ∃ p, p = mkP g1 (min n1 60) := ⟨_, rfl⟩
  have HQ := hid (show Pinv p 60 from by rw [hp]; exact (mkP_inv g1 _).mono (by omega))
  have MK := hid (fun (w : World) (h : Is w A1 n1 g1) (hl : ∀ ad, A1 = some ad → 0 < n1 → ad.block < w.heap.size) => (show Calls Try.prog 24 #[.slice A1 n1 c1, .int .i64 60] w fun x w' => x = .returned (.agg (PA p)) ∧ Below w.heap.size w w' from by rw [hp]; exact make_any w A1 n1 c1 g1 h hl hnm 60 (by omega)))
  clear hp
  have EN0 := fun w => entry_any a0 w
  obtain ⟨en, hen⟩ : ∃ en, en = enN a0 := ⟨_, rfl⟩
  rw [← hen] at EN0
  clear hen
  obtain ⟨e1, e2, e3, e4, e5, e6, e7⟩ := en
  unfold enV at EN0
  simp only at EN0
  have EN := hid EN0
  clear EN0
  obtain ⟨ar, har⟩ : ∃ ar, ar = apR p ⟨e1, e2, e3, e4, e5, ⟨e6, e7⟩⟩ := ⟨_, rfl⟩
  have AP := hid (show ∀ w, Calls Try.prog 19 #[.agg (PA p), .agg #[.int .i64 e1, .int .i64 e2, .int .i64 e3, .int .i64 e4, .int .i64 e5, .int .u64 e6, .int .u64 e7]] w fun x w' => x = .returned (.tuple #[.agg (PA ar.1), .int .i64 ar.2]) ∧ Below w.heap.size w w' from by rw [har]; exact fun w => apply_any p ⟨e1, e2, e3, e4, e5, ⟨e6, e7⟩⟩ (HQ.out.pb (by omega)) w)
  have HAR := hid har
  clear har
  obtain ⟨q, er⟩ := ar
  simp only at AP
  cases be : (er != 0)
  · have he0 : er = 0 := by simpa using be
    subst he0
    obtain ⟨ch, _, hq⟩ := apR_ok (p := p) (e := ⟨e1, e2, e3, e4, e5, ⟨e6, e7⟩⟩) (by rw [← HAR.out])
    rw [← HAR.out] at hq
    simp only at hq
    obtain ⟨_, _, s0, s1, _⟩ := chk_ok ch
    simp only at s0 s1
    obtain ⟨c, rfl⟩ : ∃ c : Nat, e2 = c := ⟨e2.toNat, by omega⟩
    have c64 : c < 64 := by omega
    clear ch s0 s1
    have HNQ := hid hq
    clear hq
    have hup := nx_facts p ⟨e1, (c : Int), e3, e4, e5, ⟨e6, e7⟩⟩
    rw [← HNQ.out] at hup
    obtain ⟨u1, u2, u3, u4, u5⟩ := hup
    simp only [Int.toNat_natCast] at u4 u5
    have hpv := HQ.out.1
    have hpe := HQ.out.2.1
    obtain ⟨pv1, pv2⟩ := hpv
    obtain ⟨pe1, pe2⟩ := hpe
    have U4 := hid u4
    have U5 := hid u5
    have U1 := hid u1
    have U2 := hid u2
    have U3 := hid u3
    clear u1 u2 u3 u4 u5 HNQ HAR
    go_enter Try.func10, Try.ntmps10
    go_wp2_with fail
    refine (known_any _).mono ?_
    rintro x w1 ⟨rfl, hB⟩
    have R1 := hid (hr1.below hB (Nat.le_refl _))
    have B1 := hid hB
    clear hr1 hB
    go_wp2_with fail
    refine (MK.out _ R1.out (fun ad e h => Nat.lt_of_lt_of_le (HL.out ad e h) B1.out.size)).mono ?_
    rintro x w2 ⟨rfl, hb⟩
    have B2 := hid (B1.out.trans (hb.mono B1.out.size))
    clear hb R1 B1 MK
    have ST := hid ((PoolAt.made (w := w2) (p := zPl) (T := 34) rfl).storeA p)
    have P3 := hid ((PoolAt.made (w := w2) (p := zPl) (T := 34) rfl).whole p)
    have B3 := hid ((B2.out.alloc B2.out.size (.cells (PA zPl) 34)).trans (keeps_setCells w2.heap.size (PA p).toList 0 _ W.heap.size B2.out.size))
    go_upto_region 4 with ((with_reducible refine wl_id ?_); refine wl_store rfl rfl rfl rfl ST.out ?_)
    clear ST B2
    generalize (w2.alloc (.cells (PA zPl) 34)).setCells w2.heap.size 0 (PA p).toList = w3 at *
    generalize w2.heap.size = P at *
    go_wp2_with fail
    refine (EN.out _).mono ?_
    rintro x w4 ⟨rfl, hb⟩
    have P4 := hid (P3.out.below hb)
    have B4 := hid (B3.out.trans (hb.mono B3.out.size))
    clear hb P3 B3 EN
    go_upto_region 5 with (fail)
    have P5 := hid (P4.out.alloc (.cells #[.int .i64 e1, .int .i64 (c : Int), .int .i64 e3, .int .i64 e4, .int .i64 e5, .int .u64 e6, .int .u64 e7] 43))
    have C5 := hid (Ce.made (w := w4) (l := [.int .i64 e1, .int .i64 (c : Int), .int .i64 e3, .int .i64 e4, .int .i64 e5, .int .u64 e6, .int .u64 e7]) (T := 43) (g := w4.heap.size) rfl)
    have B5 := hid (B4.out.alloc B4.out.size (.cells #[.int .i64 e1, .int .i64 (c : Int), .int .i64 e3, .int .i64 e4, .int .i64 e5, .int .u64 e6, .int .u64 e7] 43))
    have dEP : w4.heap.size ≠ P := Nat.ne_of_gt P4.out.1
    clear P4 B4
    generalize w4.alloc (.cells #[.int .i64 e1, .int .i64 (c : Int), .int .i64 e3, .int .i64 e4, .int .i64 e5, .int .u64 e6, .int .u64 e7] 43) = w5 at *
    generalize w4.heap.size = E at *
    have c0 := C5.out.2.1 0 _ rfl
    have c1 := C5.out.2.1 1 _ rfl
    have c2 := C5.out.2.1 2 _ rfl
    have c3 := C5.out.2.1 3 _ rfl
    have c4 := C5.out.2.1 4 _ rfl
    have c5 := C5.out.2.1 5 _ rfl
    have c6 := C5.out.2.1 6 _ rfl
    have LP := P5.out.loadA
    go_wp2_with ((with_reducible refine wl_id ?_); refine wl_load rfl rfl rfl LP ?_)
    refine (AP.out _).mono ?_
    rintro x w6 ⟨rfl, hb⟩
    clear LP c0 c1 c2 c3 c4 c5 c6 AP
    have P6 := hid (P5.out.below hb)
    have C6 := hid (C5.out.below hb)
    have B6 := hid (B5.out.trans (hb.mono B5.out.size))
    clear hb P5 C5 B5
    have ST := hid ((PoolAt.made (w := w6) (p := zPl) (T := 34) rfl).storeA q)
    have N7 := hid ((PoolAt.made (w := w6) (p := zPl) (T := 34) rfl).whole q)
    have dN : w6.heap.size ≠ P := Nat.ne_of_gt P6.out.1
    have dNE : w6.heap.size ≠ E := Nat.ne_of_gt C6.out.1
    have P7 := hid ((P6.out.alloc (.cells (PA zPl) 34)).others (c := w6.heap.size) (o := 0) (vs := (PA q).toList) dN)
    have C7 := hid ((C6.out.alloc (.cells (PA zPl) 34)).oths (c := w6.heap.size) (o := 0) (vs := (PA q).toList) dNE)
    have B7 := hid ((B6.out.alloc B6.out.size (.cells (PA zPl) 34)).trans (keeps_setCells w6.heap.size (PA q).toList 0 _ W.heap.size B6.out.size))
    go_upto_region 6 with ((with_reducible refine wl_id ?_); refine wl_store rfl rfl rfl rfl ST.out ?_)
    clear ST P6 C6 B6
    generalize (w6.alloc (.cells (PA zPl) 34)).setCells w6.heap.size 0 (PA q).toList = w7 at *
    generalize w6.heap.size = N at *
    go_wp2_with fail
    go_loopw [9] (fun i wr => ∃ k : Nat, k ≤ 64 ∧ i = .int .i64 (k : Int) ∧ PoolAt wr P p ∧ PoolAt wr N q ∧ Ce wr E [.int .i64 e1, .int .i64 (c : Int), .int .i64 e3, .int .i64 e4, .int .i64 e5, .int .u64 e6, .int .u64 e7] ∧ Below W.heap.size W wr) (fun i _ => 64 - (intOf i).toNat)
    case atStart => exact ⟨0, by omega, rfl, P7.out, N7.out, C7.out, B7.out⟩
    case round =>
      clear P7 N7 C7 B7
      obtain ⟨k, hk, rfl, hP, hN, hC, hB⟩ := hrel
      have P8 := hid hP
      have N8 := hid hN
      have C8 := hid hC
      have B8 := hid hB
      clear hP hN hC hB
      by_cases hlt : k < 64
      · have i0 : (0 : Int) ≤ k := by omega
        have i1 : (k : Int) < 64 := by omega
        cases bk : ((k : Int) != (c : Int))
        · cases b6 : (e1 == 6)
          · go_upto_region 11 with (fail)
            refine wp_region_held_drew (S := fun w' => PoolAt w' P p ∧ PoolAt w' N q ∧ Ce w' E [.int .i64 e1, .int .i64 (c : Int), .int .i64 e3, .int .i64 e4, .int .i64 e5, .int .u64 e6, .int .u64 e7] ∧ Below W.heap.size W w') (by kernel_rfl) ?_ (fun hHeld => ?_)
            · exact ⟨P8.out.drew, N8.out.drew, C8.out, B8.out.drew⟩
            refine tk 0 (v := ?_) rfl (by kernel_rfl) (by kernel_rfl) (by kernel_rfl) (fun _ _ _ h => h) rfl ?_ hHeld ?_; rotate_left; (focus (intro w hSw; (try dsimp only at hSw);  go_simp; (try with_reducible rfl))); (try simp only [Act.put, List.setIfInBounds_toArray, List.set_cons_zero, List.set_cons_succ])
            refine tk 1 (v := ?_) rfl (by kernel_rfl) (by kernel_rfl) (by kernel_rfl) (fun _ _ _ h => h) rfl ?_ hHeld ?_; rotate_left; (focus (intro w hSw; (try dsimp only at hSw);  go_simp; (try with_reducible rfl))); (try simp only [Act.put, List.setIfInBounds_toArray, List.set_cons_zero, List.set_cons_succ])
            refine tk 2 (v := ?_) rfl (by kernel_rfl) (by kernel_rfl) (by kernel_rfl) (fun _ _ _ h => h) rfl ?_ hHeld ?_; rotate_left; (focus (intro w hSw; (try dsimp only at hSw); obtain ⟨_, _, hC, _⟩ := hSw; have x0 := hC.2.1 0 _ rfl; have x1 := hC.2.1 1 _ rfl; go_simp; (try with_reducible rfl))); (try simp only [Act.put, List.setIfInBounds_toArray, List.set_cons_zero, List.set_cons_succ])
            refine tk 3 (v := ?_) rfl (by kernel_rfl) (by kernel_rfl) (by kernel_rfl) (fun _ _ _ h => h) rfl ?_ hHeld ?_; rotate_left; (focus (intro w hSw; (try dsimp only at hSw);  go_simp; (try with_reducible rfl))); (try simp only [Act.put, List.setIfInBounds_toArray, List.set_cons_zero, List.set_cons_succ])
            refine tk 4 (v := ?_) rfl (by kernel_rfl) (by kernel_rfl) (by kernel_rfl) (fun _ _ _ h => h) rfl ?_ hHeld ?_; rotate_left; (focus (intro w hSw; (try dsimp only at hSw);  go_simp; (try with_reducible rfl))); (try simp only [Act.put, List.setIfInBounds_toArray, List.set_cons_zero, List.set_cons_succ])
            refine tk 5 (v := ?_) rfl (by kernel_rfl) (by kernel_rfl) (by kernel_rfl) (fun _ _ _ h => h) rfl ?_ hHeld ?_; rotate_left; (focus (intro w hSw; (try dsimp only at hSw);  go_simp; (try with_reducible rfl))); (try simp only [Act.put, List.setIfInBounds_toArray, List.set_cons_zero, List.set_cons_succ])
            refine tk 6 (v := ?_) rfl (by kernel_rfl) (by kernel_rfl) (by kernel_rfl) (fun _ _ _ h => h) rfl ?_ hHeld ?_; rotate_left; (focus (intro w hSw; (try dsimp only at hSw); obtain ⟨_, _, hC, _⟩ := hSw; have x0 := hC.2.1 0 _ rfl; have x1 := hC.2.1 1 _ rfl; go_simp; (try with_reducible rfl))); (try simp only [Act.put, List.setIfInBounds_toArray, List.set_cons_zero, List.set_cons_succ])
            refine tk 7 (v := ?_) rfl (by kernel_rfl) (by kernel_rfl) (by kernel_rfl) (fun _ _ _ h => h) rfl ?_ hHeld ?_; rotate_left; (focus (intro w hSw; (try dsimp only at hSw);  go_simp; (try with_reducible rfl))); (try simp only [Act.put, List.setIfInBounds_toArray, List.set_cons_zero, List.set_cons_succ])
            refine tk 8 (v := ?_) rfl (by kernel_rfl) (by kernel_rfl) (by kernel_rfl) (fun _ _ _ h => h) rfl ?_ hHeld ?_; rotate_left; (focus (intro w hSw; (try dsimp only at hSw);  go_simp; (try with_reducible rfl))); (try simp only [Act.put, List.setIfInBounds_toArray, List.set_cons_zero, List.set_cons_succ])
            refine tk 9 (v := ?_) rfl (by kernel_rfl) (by kernel_rfl) (by kernel_rfl) (fun _ _ _ h => h) rfl ?_ hHeld ?_; rotate_left; (focus (intro w hSw; (try dsimp only at hSw);  go_simp; (try with_reducible rfl))); (try simp only [Act.put, List.setIfInBounds_toArray, List.set_cons_zero, List.set_cons_succ])
            refine tu 10 rfl (by kernel_rfl) (by kernel_rfl) (by kernel_rfl) (fun _ _ _ h => h) rfl hHeld ?_; (try simp only [Act.put, List.setIfInBounds_toArray, List.set_cons_zero, List.set_cons_succ])
            refine tu 11 rfl (by kernel_rfl) (by kernel_rfl) (by kernel_rfl) (fun _ _ _ h => h) rfl hHeld ?_; (try simp only [Act.put, List.setIfInBounds_toArray, List.set_cons_zero, List.set_cons_succ])
            refine tu 12 rfl (by kernel_rfl) (by kernel_rfl) (by kernel_rfl) (fun _ _ _ h => h) rfl hHeld ?_; (try simp only [Act.put, List.setIfInBounds_toArray, List.set_cons_zero, List.set_cons_succ])
            refine tu 13 rfl (by kernel_rfl) (by kernel_rfl) (by kernel_rfl) (fun _ _ _ h => h) rfl hHeld ?_; (try simp only [Act.put, List.setIfInBounds_toArray, List.set_cons_zero, List.set_cons_succ])
            refine tu 14 rfl (by kernel_rfl) (by kernel_rfl) (by kernel_rfl) (fun _ _ _ h => h) rfl hHeld ?_; (try simp only [Act.put, List.setIfInBounds_toArray, List.set_cons_zero, List.set_cons_succ])
            refine tu 15 rfl (by kernel_rfl) (by kernel_rfl) (by kernel_rfl) (fun _ _ _ h => h) rfl hHeld ?_; (try simp only [Act.put, List.setIfInBounds_toArray, List.set_cons_zero, List.set_cons_succ])
            refine tu 16 rfl (by kernel_rfl) (by kernel_rfl) (by kernel_rfl) (fun _ _ _ h => h) rfl hHeld ?_; (try simp only [Act.put, List.setIfInBounds_toArray, List.set_cons_zero, List.set_cons_succ])
            refine tu 17 rfl (by kernel_rfl) (by kernel_rfl) (by kernel_rfl) (fun _ _ _ h => h) rfl hHeld ?_; (try simp only [Act.put, List.setIfInBounds_toArray, List.set_cons_zero, List.set_cons_succ])
            refine tu 18 rfl (by kernel_rfl) (by kernel_rfl) (by kernel_rfl) (fun _ _ _ h => h) rfl hHeld ?_; (try simp only [Act.put, List.setIfInBounds_toArray, List.set_cons_zero, List.set_cons_succ])
            refine tk 19 (v := ?_) rfl (by kernel_rfl) (by kernel_rfl) (by kernel_rfl) (fun _ _ _ h => h) rfl ?_ hHeld ?_; rotate_left; (focus (intro w hSw; (try dsimp only at hSw);  go_simp; (try with_reducible rfl))); (try simp only [Act.put, List.setIfInBounds_toArray, List.set_cons_zero, List.set_cons_succ])
            refine wpAnyH_done (by kernel_rfl) ?_ _
            have P9 := hid hHeld.1
            have N9 := hid hHeld.2.1
            have C9 := hid hHeld.2.2.1
            have B9 := hid hHeld.2.2.2
            clear hHeld P8 N8 C8 B8
            generalize wr.drew = wz at *
            go_wp2_with fail
            go_roundw
            case rel => exact ⟨k + 1, by omega, by go_num, P9.out, N9.out, C9.out, B9.out⟩
            case measure => simp [intOf]; omega
          · obtain ⟨sl, hsl⟩ : ∃ sl, sl = p.s k := ⟨_, rfl⟩
            have HPK := hid hsl.symm
            have HQK := hid (show q.s k = sl from by rw [hsl]; exact U4.out k (.inr (by simpa using b6)))
            clear hsl
            obtain ⟨st, ad, po, we, si⟩ := sl
            go_upto_region 11 with (fail)
            refine wp_region_held_drew (S := fun w' => PoolAt w' P p ∧ PoolAt w' N q ∧ Ce w' E [.int .i64 e1, .int .i64 (c : Int), .int .i64 e3, .int .i64 e4, .int .i64 e5, .int .u64 e6, .int .u64 e7] ∧ Below W.heap.size W w') (by kernel_rfl) ?_ (fun hHeld => ?_)
            · exact ⟨P8.out.drew, N8.out.drew, C8.out, B8.out.drew⟩
            refine tk 0 (v := ?_) rfl (by kernel_rfl) (by kernel_rfl) (by kernel_rfl) (fun _ _ _ h => h) rfl ?_ hHeld ?_; rotate_left; (focus (intro w hSw; (try dsimp only at hSw);  go_simp; (try with_reducible rfl))); (try simp only [Act.put, List.setIfInBounds_toArray, List.set_cons_zero, List.set_cons_succ])
            refine tk 1 (v := ?_) rfl (by kernel_rfl) (by kernel_rfl) (by kernel_rfl) (fun _ _ _ h => h) rfl ?_ hHeld ?_; rotate_left; (focus (intro w hSw; (try dsimp only at hSw);  go_simp; (try with_reducible rfl))); (try simp only [Act.put, List.setIfInBounds_toArray, List.set_cons_zero, List.set_cons_succ])
            refine tk 2 (v := ?_) rfl (by kernel_rfl) (by kernel_rfl) (by kernel_rfl) (fun _ _ _ h => h) rfl ?_ hHeld ?_; rotate_left; (focus (intro w hSw; (try dsimp only at hSw); obtain ⟨_, _, hC, _⟩ := hSw; have x0 := hC.2.1 0 _ rfl; have x1 := hC.2.1 1 _ rfl; go_simp; (try with_reducible rfl))); (try simp only [Act.put, List.setIfInBounds_toArray, List.set_cons_zero, List.set_cons_succ])
            refine tk 3 (v := ?_) rfl (by kernel_rfl) (by kernel_rfl) (by kernel_rfl) (fun _ _ _ h => h) rfl ?_ hHeld ?_; rotate_left; (focus (intro w hSw; (try dsimp only at hSw);  go_simp; (try with_reducible rfl))); (try simp only [Act.put, List.setIfInBounds_toArray, List.set_cons_zero, List.set_cons_succ])
            refine tk 4 (v := ?_) rfl (by kernel_rfl) (by kernel_rfl) (by kernel_rfl) (fun _ _ _ h => h) rfl ?_ hHeld ?_; rotate_left; (focus (intro w hSw; (try dsimp only at hSw);  go_simp; (try with_reducible rfl))); (try simp only [Act.put, List.setIfInBounds_toArray, List.set_cons_zero, List.set_cons_succ])
            refine tk 5 (v := ?_) rfl (by kernel_rfl) (by kernel_rfl) (by kernel_rfl) (fun _ _ _ h => h) rfl ?_ hHeld ?_; rotate_left; (focus (intro w hSw; (try dsimp only at hSw);  go_simp; (try with_reducible rfl))); (try simp only [Act.put, List.setIfInBounds_toArray, List.set_cons_zero, List.set_cons_succ])
            refine tk 6 (v := ?_) rfl (by kernel_rfl) (by kernel_rfl) (by kernel_rfl) (fun _ _ _ h => h) rfl ?_ hHeld ?_; rotate_left; (focus (intro w hSw; (try dsimp only at hSw); obtain ⟨_, _, hC, _⟩ := hSw; have x0 := hC.2.1 0 _ rfl; have x1 := hC.2.1 1 _ rfl; go_simp; (try with_reducible rfl))); (try simp only [Act.put, List.setIfInBounds_toArray, List.set_cons_zero, List.set_cons_succ])
            refine tk 7 (v := ?_) rfl (by kernel_rfl) (by kernel_rfl) (by kernel_rfl) (fun _ _ _ h => h) rfl ?_ hHeld ?_; rotate_left; (focus (intro w hSw; (try dsimp only at hSw);  go_simp; (try with_reducible rfl))); (try simp only [Act.put, List.setIfInBounds_toArray, List.set_cons_zero, List.set_cons_succ])
            refine tk 8 (v := ?_) rfl (by kernel_rfl) (by kernel_rfl) (by kernel_rfl) (fun _ _ _ h => h) rfl ?_ hHeld ?_; rotate_left; (focus (intro w hSw; (try dsimp only at hSw);  go_simp; (try with_reducible rfl))); (try simp only [Act.put, List.setIfInBounds_toArray, List.set_cons_zero, List.set_cons_succ])
            refine tk 9 (v := ?_) rfl (by kernel_rfl) (by kernel_rfl) (by kernel_rfl) (fun _ _ _ h => h) rfl ?_ hHeld ?_; rotate_left; (focus (intro w hSw; (try dsimp only at hSw);  go_simp; (try with_reducible rfl))); (try simp only [Act.put, List.setIfInBounds_toArray, List.set_cons_zero, List.set_cons_succ])
            refine tk 10 (v := ?_) rfl (by kernel_rfl) (by kernel_rfl) (by kernel_rfl) (fun _ _ _ h => h) rfl ?_ hHeld ?_; rotate_left; (focus (intro w hSw; (try dsimp only at hSw);  go_simp; (try with_reducible rfl))); (try simp only [Act.put, List.setIfInBounds_toArray, List.set_cons_zero, List.set_cons_succ])
            refine tk 11 (v := ?_) rfl (by kernel_rfl) (by kernel_rfl) (by kernel_rfl) (fun _ _ _ h => h) rfl ?_ hHeld ?_; rotate_left; (focus (intro w hSw; (try dsimp only at hSw);  go_simp; (try with_reducible rfl))); (try simp only [Act.put, List.setIfInBounds_toArray, List.set_cons_zero, List.set_cons_succ])
            refine tk 12 (v := ?_) rfl (by kernel_rfl) (by kernel_rfl) (by kernel_rfl) (fun _ _ _ h => h) rfl ?_ hHeld ?_; rotate_left; (focus (intro w hSw; (try dsimp only at hSw);  go_simp; (try with_reducible rfl))); (try simp only [Act.put, List.setIfInBounds_toArray, List.set_cons_zero, List.set_cons_succ])
            refine tk 13 (v := .agg #[.int .i64 st, .int .i64 ad, .int .i64 po, .int .i64 we, .int .i64 si]) rfl (by kernel_rfl) (by kernel_rfl) (by kernel_rfl) (fun _ _ _ h => h) rfl (fun w hSw => by have h := PoolAt.loadK hSw.2.1 k hlt; rw [HQK.out] at h; exact ex_load rfl rfl h) hHeld ?_
            try simp only [Act.put, List.setIfInBounds_toArray, List.set_cons_zero, List.set_cons_succ]
            refine tk 14 (v := ?_) rfl (by kernel_rfl) (by kernel_rfl) (by kernel_rfl) (fun _ _ _ h => h) rfl ?_ hHeld ?_; rotate_left; (focus (intro w hSw; (try dsimp only at hSw);  go_simp; (try with_reducible rfl))); (try simp only [Act.put, List.setIfInBounds_toArray, List.set_cons_zero, List.set_cons_succ])
            refine tk 15 (v := ?_) rfl (by kernel_rfl) (by kernel_rfl) (by kernel_rfl) (fun _ _ _ h => h) rfl ?_ hHeld ?_; rotate_left; (focus (intro w hSw; (try dsimp only at hSw);  go_simp; (try with_reducible rfl))); (try simp only [Act.put, List.setIfInBounds_toArray, List.set_cons_zero, List.set_cons_succ])
            refine tk 16 (v := ?_) rfl (by kernel_rfl) (by kernel_rfl) (by kernel_rfl) (fun _ _ _ h => h) rfl ?_ hHeld ?_; rotate_left; (focus (intro w hSw; (try dsimp only at hSw);  go_simp; (try with_reducible rfl))); (try simp only [Act.put, List.setIfInBounds_toArray, List.set_cons_zero, List.set_cons_succ])
            refine tk 17 (v := .agg #[.int .i64 st, .int .i64 ad, .int .i64 po, .int .i64 we, .int .i64 si]) rfl (by kernel_rfl) (by kernel_rfl) (by kernel_rfl) (fun _ _ _ h => h) rfl (fun w hSw => by have h := PoolAt.loadK hSw.1 k hlt; rw [HPK.out] at h; exact ex_load rfl rfl h) hHeld ?_
            try simp only [Act.put, List.setIfInBounds_toArray, List.set_cons_zero, List.set_cons_succ]
            refine tk 18 (v := ?_) rfl (by kernel_rfl) (by kernel_rfl) (by kernel_rfl) (fun _ _ _ h => h) rfl ?_ hHeld ?_; rotate_left; (focus (intro w hSw; (try dsimp only at hSw);  go_simp; (try with_reducible rfl))); (try simp only [Act.put, List.setIfInBounds_toArray, List.set_cons_zero, List.set_cons_succ])
            refine tk 19 (v := ?_) rfl (by kernel_rfl) (by kernel_rfl) (by kernel_rfl) (fun _ _ _ h => h) rfl ?_ hHeld ?_; rotate_left; (focus (intro w hSw; (try dsimp only at hSw);  go_simp; (try with_reducible rfl))); (try simp only [Act.put, List.setIfInBounds_toArray, List.set_cons_zero, List.set_cons_succ])
            refine wpAnyH_done (by kernel_rfl) ?_ _
            have P9 := hid hHeld.1
            have N9 := hid hHeld.2.1
            have C9 := hid hHeld.2.2.1
            have B9 := hid hHeld.2.2.2
            clear hHeld P8 N8 C8 B8
            generalize wr.drew = wz at *
            go_wp2_with fail
            go_roundw
            case rel => exact ⟨k + 1, by omega, by go_num, P9.out, N9.out, C9.out, B9.out⟩
            case measure => simp [intOf]; omega
        · obtain ⟨sl, hsl⟩ : ∃ sl, sl = p.s k := ⟨_, rfl⟩
          have HPK := hid hsl.symm
          have HQK := hid (show q.s k = sl from by rw [hsl]; exact U4.out k (.inl (by simpa using bk)))
          clear hsl
          obtain ⟨st, ad, po, we, si⟩ := sl
          go_upto_region 11 with (fail)
          refine wp_region_held_drew (S := fun w' => PoolAt w' P p ∧ PoolAt w' N q ∧ Ce w' E [.int .i64 e1, .int .i64 (c : Int), .int .i64 e3, .int .i64 e4, .int .i64 e5, .int .u64 e6, .int .u64 e7] ∧ Below W.heap.size W w') (by kernel_rfl) ?_ (fun hHeld => ?_)
          · exact ⟨P8.out.drew, N8.out.drew, C8.out, B8.out.drew⟩
          refine tk 0 (v := ?_) rfl (by kernel_rfl) (by kernel_rfl) (by kernel_rfl) (fun _ _ _ h => h) rfl ?_ hHeld ?_; rotate_left; (focus (intro w hSw; (try dsimp only at hSw);  go_simp; (try with_reducible rfl))); (try simp only [Act.put, List.setIfInBounds_toArray, List.set_cons_zero, List.set_cons_succ])
          refine tk 1 (v := ?_) rfl (by kernel_rfl) (by kernel_rfl) (by kernel_rfl) (fun _ _ _ h => h) rfl ?_ hHeld ?_; rotate_left; (focus (intro w hSw; (try dsimp only at hSw);  go_simp; (try with_reducible rfl))); (try simp only [Act.put, List.setIfInBounds_toArray, List.set_cons_zero, List.set_cons_succ])
          refine tk 2 (v := ?_) rfl (by kernel_rfl) (by kernel_rfl) (by kernel_rfl) (fun _ _ _ h => h) rfl ?_ hHeld ?_; rotate_left; (focus (intro w hSw; (try dsimp only at hSw); obtain ⟨_, _, hC, _⟩ := hSw; have x0 := hC.2.1 0 _ rfl; have x1 := hC.2.1 1 _ rfl; go_simp; (try with_reducible rfl))); (try simp only [Act.put, List.setIfInBounds_toArray, List.set_cons_zero, List.set_cons_succ])
          refine tk 3 (v := ?_) rfl (by kernel_rfl) (by kernel_rfl) (by kernel_rfl) (fun _ _ _ h => h) rfl ?_ hHeld ?_; rotate_left; (focus (intro w hSw; (try dsimp only at hSw);  go_simp; (try with_reducible rfl))); (try simp only [Act.put, List.setIfInBounds_toArray, List.set_cons_zero, List.set_cons_succ])
          refine tk 4 (v := ?_) rfl (by kernel_rfl) (by kernel_rfl) (by kernel_rfl) (fun _ _ _ h => h) rfl ?_ hHeld ?_; rotate_left; (focus (intro w hSw; (try dsimp only at hSw);  go_simp; (try with_reducible rfl))); (try simp only [Act.put, List.setIfInBounds_toArray, List.set_cons_zero, List.set_cons_succ])
          refine tu 5 rfl (by kernel_rfl) (by kernel_rfl) (by kernel_rfl) (fun _ _ _ h => h) rfl hHeld ?_; (try simp only [Act.put, List.setIfInBounds_toArray, List.set_cons_zero, List.set_cons_succ])
          refine tu 6 rfl (by kernel_rfl) (by kernel_rfl) (by kernel_rfl) (fun _ _ _ h => h) rfl hHeld ?_; (try simp only [Act.put, List.setIfInBounds_toArray, List.set_cons_zero, List.set_cons_succ])
          refine tu 7 rfl (by kernel_rfl) (by kernel_rfl) (by kernel_rfl) (fun _ _ _ h => h) rfl hHeld ?_; (try simp only [Act.put, List.setIfInBounds_toArray, List.set_cons_zero, List.set_cons_succ])
          refine tk 8 (v := ?_) rfl (by kernel_rfl) (by kernel_rfl) (by kernel_rfl) (fun _ _ _ h => h) rfl ?_ hHeld ?_; rotate_left; (focus (intro w hSw; (try dsimp only at hSw);  go_simp; (try with_reducible rfl))); (try simp only [Act.put, List.setIfInBounds_toArray, List.set_cons_zero, List.set_cons_succ])
          refine tk 9 (v := ?_) rfl (by kernel_rfl) (by kernel_rfl) (by kernel_rfl) (fun _ _ _ h => h) rfl ?_ hHeld ?_; rotate_left; (focus (intro w hSw; (try dsimp only at hSw);  go_simp; (try with_reducible rfl))); (try simp only [Act.put, List.setIfInBounds_toArray, List.set_cons_zero, List.set_cons_succ])
          refine tk 10 (v := ?_) rfl (by kernel_rfl) (by kernel_rfl) (by kernel_rfl) (fun _ _ _ h => h) rfl ?_ hHeld ?_; rotate_left; (focus (intro w hSw; (try dsimp only at hSw);  go_simp; (try with_reducible rfl))); (try simp only [Act.put, List.setIfInBounds_toArray, List.set_cons_zero, List.set_cons_succ])
          refine tk 11 (v := ?_) rfl (by kernel_rfl) (by kernel_rfl) (by kernel_rfl) (fun _ _ _ h => h) rfl ?_ hHeld ?_; rotate_left; (focus (intro w hSw; (try dsimp only at hSw);  go_simp; (try with_reducible rfl))); (try simp only [Act.put, List.setIfInBounds_toArray, List.set_cons_zero, List.set_cons_succ])
          refine tk 12 (v := ?_) rfl (by kernel_rfl) (by kernel_rfl) (by kernel_rfl) (fun _ _ _ h => h) rfl ?_ hHeld ?_; rotate_left; (focus (intro w hSw; (try dsimp only at hSw);  go_simp; (try with_reducible rfl))); (try simp only [Act.put, List.setIfInBounds_toArray, List.set_cons_zero, List.set_cons_succ])
          refine tk 13 (v := .agg #[.int .i64 st, .int .i64 ad, .int .i64 po, .int .i64 we, .int .i64 si]) rfl (by kernel_rfl) (by kernel_rfl) (by kernel_rfl) (fun _ _ _ h => h) rfl (fun w hSw => by have h := PoolAt.loadK hSw.2.1 k hlt; rw [HQK.out] at h; exact ex_load rfl rfl h) hHeld ?_
          try simp only [Act.put, List.setIfInBounds_toArray, List.set_cons_zero, List.set_cons_succ]
          refine tk 14 (v := ?_) rfl (by kernel_rfl) (by kernel_rfl) (by kernel_rfl) (fun _ _ _ h => h) rfl ?_ hHeld ?_; rotate_left; (focus (intro w hSw; (try dsimp only at hSw);  go_simp; (try with_reducible rfl))); (try simp only [Act.put, List.setIfInBounds_toArray, List.set_cons_zero, List.set_cons_succ])
          refine tk 15 (v := ?_) rfl (by kernel_rfl) (by kernel_rfl) (by kernel_rfl) (fun _ _ _ h => h) rfl ?_ hHeld ?_; rotate_left; (focus (intro w hSw; (try dsimp only at hSw);  go_simp; (try with_reducible rfl))); (try simp only [Act.put, List.setIfInBounds_toArray, List.set_cons_zero, List.set_cons_succ])
          refine tk 16 (v := ?_) rfl (by kernel_rfl) (by kernel_rfl) (by kernel_rfl) (fun _ _ _ h => h) rfl ?_ hHeld ?_; rotate_left; (focus (intro w hSw; (try dsimp only at hSw);  go_simp; (try with_reducible rfl))); (try simp only [Act.put, List.setIfInBounds_toArray, List.set_cons_zero, List.set_cons_succ])
          refine tk 17 (v := .agg #[.int .i64 st, .int .i64 ad, .int .i64 po, .int .i64 we, .int .i64 si]) rfl (by kernel_rfl) (by kernel_rfl) (by kernel_rfl) (fun _ _ _ h => h) rfl (fun w hSw => by have h := PoolAt.loadK hSw.1 k hlt; rw [HPK.out] at h; exact ex_load rfl rfl h) hHeld ?_
          try simp only [Act.put, List.setIfInBounds_toArray, List.set_cons_zero, List.set_cons_succ]
          refine tk 18 (v := ?_) rfl (by kernel_rfl) (by kernel_rfl) (by kernel_rfl) (fun _ _ _ h => h) rfl ?_ hHeld ?_; rotate_left; (focus (intro w hSw; (try dsimp only at hSw);  go_simp; (try with_reducible rfl))); (try simp only [Act.put, List.setIfInBounds_toArray, List.set_cons_zero, List.set_cons_succ])
          refine tk 19 (v := ?_) rfl (by kernel_rfl) (by kernel_rfl) (by kernel_rfl) (fun _ _ _ h => h) rfl ?_ hHeld ?_; rotate_left; (focus (intro w hSw; (try dsimp only at hSw);  go_simp; (try with_reducible rfl))); (try simp only [Act.put, List.setIfInBounds_toArray, List.set_cons_zero, List.set_cons_succ])
          refine wpAnyH_done (by kernel_rfl) ?_ _
          have P9 := hid hHeld.1
          have N9 := hid hHeld.2.1
          have C9 := hid hHeld.2.2.1
          have B9 := hid hHeld.2.2.2
          clear hHeld P8 N8 C8 B8
          generalize wr.drew = wz at *
          go_wp2_with fail
          go_roundw
          case rel => exact ⟨k + 1, by omega, by go_num, P9.out, N9.out, C9.out, B9.out⟩
          case measure => simp [intOf]; omega
      · have e : k = 64 := by omega
        subst e
        have x0 := C8.out.2.1 0 _ rfl
        have pv := P8.out.c0
        have pa := P8.out.c1
        have pp := P8.out.c2
        have pe : wr.cell? ⟨P, 323, none⟩ = some (.int .i64 p.r.e) := P8.out.cr 0 (by omega)
        have qv := N8.out.c0
        have qa := N8.out.c1
        have qp := N8.out.c2
        have qe : wr.cell? ⟨N, 323, none⟩ = some (.int .i64 q.r.e) := N8.out.cr 0 (by omega)
        rw [U1.out] at qv
        rw [U2.out] at qa
        rw [U3.out] at qp
        cases b6 : (e1 == 6)
        · have hr : q.r = p.r := by have h := U5.out; rw [b6] at h; exact h
          rw [hr] at qe
          have LRP := P8.out.loadR
          have LRQ := N8.out.loadR
          rw [hr] at LRQ
          clear hr
          unfold rgV at LRP LRQ
          go_wp2_with (first | ((with_reducible refine wl_id ?_); refine wl_load rfl rfl rfl LRP ?_) | ((with_reducible refine wl_id ?_); refine wl_load rfl rfl rfl LRQ ?_))
          go_ret
          exact ⟨rfl, B8.out⟩
        · have hr : q.r.e = p.r.e + 1 := by have h := U5.out; rw [b6] at h; exact h
          rw [hr] at qe
          clear hr
          go_wp2_with fail
          go_ret
          exact ⟨rfl, B8.out⟩
  · have hz0 : q = zPl := by have h := apR_no (p := p) (e := ⟨e1, e2, e3, e4, e5, ⟨e6, e7⟩⟩) (by rw [← HAR.out]; simpa using be); rw [← HAR.out] at h; exact h
    have HZ0 := hid hz0
    clear hz0
    go_enter Try.func10, Try.ntmps10
    go_wp2_with fail
    refine (known_any _).mono ?_
    rintro x w1 ⟨rfl, hB⟩
    have R1 := hid (hr1.below hB (Nat.le_refl _))
    have B1 := hid hB
    clear hr1 hB
    go_wp2_with fail
    refine (MK.out _ R1.out (fun ad e h => Nat.lt_of_lt_of_le (HL.out ad e h) B1.out.size)).mono ?_
    rintro x w2 ⟨rfl, hb⟩
    have B2 := hid (B1.out.trans (hb.mono B1.out.size))
    clear hb R1 B1 MK
    have ST := hid ((PoolAt.made (w := w2) (p := zPl) (T := 34) rfl).storeA p)
    have P3 := hid ((PoolAt.made (w := w2) (p := zPl) (T := 34) rfl).whole p)
    have B3 := hid ((B2.out.alloc B2.out.size (.cells (PA zPl) 34)).trans (keeps_setCells w2.heap.size (PA p).toList 0 _ W.heap.size B2.out.size))
    go_upto_region 4 with ((with_reducible refine wl_id ?_); refine wl_store rfl rfl rfl rfl ST.out ?_)
    clear ST B2
    generalize (w2.alloc (.cells (PA zPl) 34)).setCells w2.heap.size 0 (PA p).toList = w3 at *
    generalize w2.heap.size = P at *
    go_wp2_with fail
    refine (EN.out _).mono ?_
    rintro x w4 ⟨rfl, hb⟩
    have P4 := hid (P3.out.below hb)
    have B4 := hid (B3.out.trans (hb.mono B3.out.size))
    clear hb P3 B3 EN
    go_upto_region 5 with (fail)
    have P5 := hid (P4.out.alloc (.cells #[.int .i64 e1, .int .i64 e2, .int .i64 e3, .int .i64 e4, .int .i64 e5, .int .u64 e6, .int .u64 e7] 43))
    have C5 := hid (Ce.made (w := w4) (l := [.int .i64 e1, .int .i64 e2, .int .i64 e3, .int .i64 e4, .int .i64 e5, .int .u64 e6, .int .u64 e7]) (T := 43) (g := w4.heap.size) rfl)
    have B5 := hid (B4.out.alloc B4.out.size (.cells #[.int .i64 e1, .int .i64 e2, .int .i64 e3, .int .i64 e4, .int .i64 e5, .int .u64 e6, .int .u64 e7] 43))
    have dEP : w4.heap.size ≠ P := Nat.ne_of_gt P4.out.1
    clear P4 B4
    generalize w4.alloc (.cells #[.int .i64 e1, .int .i64 e2, .int .i64 e3, .int .i64 e4, .int .i64 e5, .int .u64 e6, .int .u64 e7] 43) = w5 at *
    generalize w4.heap.size = E at *
    have c0 := C5.out.2.1 0 _ rfl
    have c1 := C5.out.2.1 1 _ rfl
    have c2 := C5.out.2.1 2 _ rfl
    have c3 := C5.out.2.1 3 _ rfl
    have c4 := C5.out.2.1 4 _ rfl
    have c5 := C5.out.2.1 5 _ rfl
    have c6 := C5.out.2.1 6 _ rfl
    have LP := P5.out.loadA
    go_wp2_with ((with_reducible refine wl_id ?_); refine wl_load rfl rfl rfl LP ?_)
    refine (AP.out _).mono ?_
    rintro x w6 ⟨rfl, hb⟩
    clear LP c0 c1 c2 c3 c4 c5 c6 AP
    have P6 := hid (P5.out.below hb)
    have C6 := hid (C5.out.below hb)
    have B6 := hid (B5.out.trans (hb.mono B5.out.size))
    clear hb P5 C5 B5
    have ST := hid ((PoolAt.made (w := w6) (p := zPl) (T := 34) rfl).storeA q)
    have N7 := hid ((PoolAt.made (w := w6) (p := zPl) (T := 34) rfl).whole q)
    have dN : w6.heap.size ≠ P := Nat.ne_of_gt P6.out.1
    have dNE : w6.heap.size ≠ E := Nat.ne_of_gt C6.out.1
    have P7 := hid ((P6.out.alloc (.cells (PA zPl) 34)).others (c := w6.heap.size) (o := 0) (vs := (PA q).toList) dN)
    have C7 := hid ((C6.out.alloc (.cells (PA zPl) 34)).oths (c := w6.heap.size) (o := 0) (vs := (PA q).toList) dNE)
    have B7 := hid ((B6.out.alloc B6.out.size (.cells (PA zPl) 34)).trans (keeps_setCells w6.heap.size (PA q).toList 0 _ W.heap.size B6.out.size))
    go_upto_region 6 with ((with_reducible refine wl_id ?_); refine wl_store rfl rfl rfl rfl ST.out ?_)
    clear ST P6 C6 B6
    generalize (w6.alloc (.cells (PA zPl) 34)).setCells w6.heap.size 0 (PA q).toList = w7 at *
    generalize w6.heap.size = N at *
    have LR := N7.out.loadA
    rw [HZ0.out] at LR
    go_wp2_with (first | ((with_reducible refine wl_id ?_); refine wl_load rfl rfl rfl LR ?_) | ((with_reducible refine wl_id ?_); refine wl_build0 rfl rfl (build_zz _) ?_) | ((with_reducible refine wl_id ?_); refine wl_val rfl (ex_eql _ _ rfl zPl rfl rfl _) ?_))
    go_ret
    exact ⟨rfl, B7.out⟩

set_option maxRecDepth 100000 in
theorem lifted (os : Os) (started : os.Started) (H : Type) (enc : TypeId × Value → H) :
    ReturnsInHanded {} Try.checked os 10 .any (Rows.poolCountsSpec.pre6 enc Try.prog Try.f10 [] false) (Rows.poolCountsSpec.post enc Try.prog Try.f10 false true false false) :=
  law_step (s := Rows.poolCountsSpec) started (by kernel_rfl) Try.func10
    (ChangeSpec.witness6 (s := Rows.poolCountsSpec) (enc := enc) (C := Try.checked) false ⟨#[], #[.slice none 0 0, .int .i64 0], []⟩ 8 (by kernel_rfl) (by kernel_rfl) (by kernel_rfl) (by kernel_rfl))
    rfl (by rw [Try.params10]; decide +kernel) rfl Try.underlying4
    (fun ds h => by
      rw [Try.params10] at h
      match ds, h with
      | [_, _], _ => rfl)
    (fun W base args ds ps hval hA hsz => by
      rw [Try.params10] at hA hval hsz
      obtain ⟨v0, vs0, d0, ds0, p0, q0, hargs, rfl, rfl, h0, r0⟩ := trodAll_cons hA
      obtain ⟨v1, vs1, d1, ds1, p1, q1, rfl, rfl, rfl, h1, r1⟩ := trodAll_cons r0
      obtain ⟨rfl, rfl, rfl⟩ := trodAll_nil r1
      obtain rfl : args = #[v0, v1] := by cases args; simp_all
      obtain ⟨A0, n0, c0, g0, rfl, hn0, hc0, hs0, hw0, hl0, hd0⟩ := open_row Try.underlying22 Try.underlying3 (by kernel_rfl) (hval 0 22 v0 rfl rfl) h0
      have re0 : c0 * 8 ≤ 140737488351232 := by
        rcases hd0 with ⟨_, h0⟩ | ⟨xs, ys, h1, h2⟩
        · omega
        · have := sized_slice hsz (j := 0) (t := 22) (e := 3) rfl (by rw [h1]; rfl) Try.underlying22
          rw [h2, show Try.prog.bytesOf 3 = 8 from by kernel_rfl] at this
          simpa [reachBytes] using this
      obtain ⟨a1, rfl, rfl, rfl, w1⟩ := open_int Try.underlying3 (hval 1 3 v1 rfl rfl) h1
      exact walk W A0 n0 c0 g0 hn0 hc0 hs0 (fun j => bounds_i64 (hw0 j)) hl0 re0 a1 (bounds_i64 w1))

theorem proved : Rows.PoolCountsSaid :=
  OpenClaim.holds_of_wide 10 Try.f10 rfl rfl rfl rfl rfl rfl rfl ⟨rfl, rfl, rfl, rfl, rfl⟩ rfl rfl rfl rfl rfl (by kernel_rfl) Try.func10 (by kernel_rfl)
    (of_decide_eq_true (by kernel_rfl)) (by unfold Func.isWrapper; first | (rw [if_pos (by decide +kernel)]; kernel_rfl) | (rw [if_neg (by decide +kernel)]; exact ⟨rfl, rfl⟩))
    (fun os started H enc _ => lifted os started H enc)
end Go.Proofs.Ytdobcdhdeagekaa.poolCounts
