/- roundhouselaw5.CookieParts answers true for every epoch, number, kind, flow and slot; no condition. -/
import Derived.Test.YtfokkmemjkfifaaCookLaw
namespace Go.Proofs.Ytfokkmemjkfifaa.cookieParts
set_option linter.unusedVariables false
set_option linter.unusedSimpArgs false
open Go.RowKit Go.ChangeShapes Go.WideShapes Go.ChangeAt

theorem uxor (s m : Int) (hs : 0 ≤ s ∧ s < 64) (hm : 0 ≤ m ∧ m < 64) : bits .xor .u64 s m = xr s m := by
  obtain ⟨a, rfl⟩ := Int.eq_ofNat_of_zero_le hs.1
  obtain ⟨b, rfl⟩ := Int.eq_ofNat_of_zero_le hm.1
  have h4 : a ^^^ b < 2 ^ 6 := Nat.xor_lt_two_pow (by omega) (by omega)
  show IntKind.u64.wrap ((BitVec.ofInt 64 (a : Int) ^^^ BitVec.ofInt 64 (b : Int)).toNat : Int) = _
  rw [BitVec.toNat_xor, BitVec.ofInt_natCast, BitVec.ofInt_natCast, BitVec.toNat_ofNat, BitVec.toNat_ofNat, Nat.mod_eq_of_lt (by omega), Nat.mod_eq_of_lt (by omega), IntKind.wrap_u64]
  unfold xr
  simp only [Int.toNat_natCast]
  omega

set_option maxRecDepth 100000 in
set_option maxHeartbeats 8000000 in
theorem walk (W : World) (ep : Int) (rep : -9223372036854775808 ≤ ep ∧ ep ≤ 9223372036854775807)
    (a : Int) (ra : -9223372036854775808 ≤ a ∧ a ≤ 9223372036854775807) (b : Bool) (f0 : Int) (rf0 : -9223372036854775808 ≤ f0 ∧ f0 ≤ 9223372036854775807)
    (g0 : Int) (rg0 : -9223372036854775808 ≤ g0 ∧ g0 ≤ 9223372036854775807) (s0 : Int) (rs0 : -9223372036854775808 ≤ s0 ∧ s0 ≤ 9223372036854775807) :
    Calls Try.prog 10 #[.int .i64 ep, .int .i64 a, .bool b, .int .i64 f0, .int .i64 g0, .int .i64 s0] W fun e w' => e = .returned (.bool true) ∧ Below W.heap.size W w' := by
  obtain ⟨r, hr⟩ : ∃ r, r = rgE ep a := ⟨_, rfl⟩
  have hE := rgE_ep ep a
  rw [← hr] at hE
  have LR := fun w => re_v (lring_any ep a rep ra w) (show _ = rgV r by rw [hr])
  obtain ⟨f, hf⟩ : ∃ f, f = flN f0 g0 := ⟨_, rfl⟩
  have hI : f.I := by rw [hf]; exact flN_I _ _
  have LF := fun w => re_v (lflow_any f0 g0 w rf0 rg0) (show _ = flV f by rw [hf])
  have wb := wi_bd s0 64 (by omega)
  obtain ⟨s, hs⟩ : ∃ s, s = wi s0 64 := ⟨_, rfl⟩
  rw [← hs] at wb
  have WS := fun w => re_i64 (within_any s0 64 w (by omega) (by omega)) hs.symm
  have hkI : I64 (kdB b) := by cases b <;> exact ⟨by simp [kdB], by simp [kdB]⟩
  obtain ⟨e, he⟩ : ∃ e, e = r.e % 4 := ⟨_, rfl⟩
  have heb : 0 ≤ e ∧ e < 4 := by omega
  obtain ⟨c, hc⟩ : ∃ c, c = cok (tB b) r.c (kdB b) f s e := ⟨_, rfl⟩
  have hp := cok_parts (tB b) r.c (kdB b) f s e (tB_T b) wb heb
  rw [← hc] at hp
  obtain ⟨tag, htag⟩ : ∃ tag, tag = W7 r.c (kdB b) f s e := ⟨_, rfl⟩
  obtain ⟨msk, hmsk⟩ : ∃ msk, msk = W7 r.c (kdB b) f 64 e := ⟨_, rfl⟩
  have u1 := W7_U r.c (kdB b) f s e
  have u2 := W7_U r.c (kdB b) f 64 e
  rw [← htag, ← hmsk] at hp
  rw [← htag] at u1
  rw [← hmsk] at u2
  obtain ⟨m, hm⟩ : ∃ m, m = xr s (msk % 64) := ⟨_, rfl⟩
  have hmb := xr_bd s (msk % 64) wb (by omega)
  rw [← hm] at hp hmb
  obtain ⟨hp1, hp2, hp3, hp4, hp5⟩ := hp
  have MK := fun w => re_i64 (make_b b r f s hI wb w) (show _ = c by rw [hc, he])
  have I1 := seven_I hI hkI (x := s) (e := e) ⟨by omega, by omega⟩ ⟨by omega, by omega⟩
  have I2 := seven_I hI hkI (x := 64) (e := e) ⟨by omega, by omega⟩ ⟨by omega, by omega⟩
  have WD := fun A w h => re_u64 (rwords_any r.c.a r.c.b A 7 7 (fun j => [kdB b, f.a, f.p, f.ta, f.tp, s, e].getD j 0) w h I1 (by omega)) htag.symm
  have WM := fun A w h => re_u64 (rwords_any r.c.a r.c.b A 7 7 (fun j => [kdB b, f.a, f.p, f.ta, f.tp, 64, e].getD j 0) w h I2 (by omega)) hmsk.symm
  have x1 := uxor s (msk % 64) wb (by omega)
  rw [← hm] at x1
  have x2 : bits .and .u64 msk 63 = msk % 64 := uand msk 6 (by omega) u2
  have x3 : IntKind.u64.wrap c = c := by rw [IntKind.wrap_u64]; rcases tB_T b with h | h <;> rw [h] at hp5 <;> omega
  have x4 : IntKind.u64.wrap m = m := by rw [IntKind.wrap_u64]; omega
  have x5 : IntKind.u64.wrap s = s := by rw [IntKind.wrap_u64]; omega
  have q2 : r.e.tmod 4 = e := by rw [he]; exact Int.tmod_eq_emod_of_nonneg hE.2
  have q3 := he.symm
  have kv := fun w => lkind_any b w
  have z1 := mand63 (c / tB b)
  have z2 : U c := by refine ⟨hp4, ?_⟩; rcases tB_T b with h | h <;> rw [h] at hp5 <;> omega
  obtain ⟨e1, e2⟩ := heb
  obtain ⟨m1, m2⟩ := hmb
  obtain ⟨s1, s2⟩ := wb
  obtain ⟨u11, u12⟩ := u1
  have hbits : bits .and .u64 c (tB b - 1) = tag % tB b ∧ bits .and .u64 tag (tB b - 1) = tag % tB b := by
    rw [← hp3]
    cases b
    · exact ⟨uand c 8 (by omega) z2, (uand tag 8 (by omega) ⟨u11, u12⟩).trans hp3.symm⟩
    · exact ⟨uand c 12 (by omega) z2, (uand tag 12 (by omega) ⟨u11, u12⟩).trans hp3.symm⟩
  rw [hp2] at z1
  clear hc htag hmsk hm he hr hf hs I1 I2 hp2 hp3 u2 z2 hkI
  cases b
  · simp only [tB, kdB, if_true, Bool.false_eq_true, if_false] at *
    have y1 : c / 16384 = e := by rw [show (16384 : Int) = 64 * 256 from rfl]; exact hp1
    change bits .and .i64 (c / 256) 63 = m at z1
    obtain ⟨y2, y3⟩ := hbits
    change bits .and .u64 c 255 = tag % 256 at y2
    change bits .and .u64 tag 255 = tag % 256 at y3
    unfold rgV flV at *
    replace LR := hid LR
    replace LF := hid LF
    replace WS := hid WS
    replace MK := hid MK
    replace WD := hid WD
    replace WM := hid WM
    replace kv := hid kv
    clear hp1
    go_enter Try.func10, Try.ntmps10
    go_wp2_with fail
    refine (known_any _).mono ?_
    rintro e' w ⟨rfl, hb1⟩
    have B := hb1
    clear hb1
    go_wp2_with fail
    refine (LR.out _).mono ?_
    rintro e' w1 ⟨rfl, hb⟩
    replace B := B.trans (hb.mono B.size)
    clear hb
    go_wp2_with fail
    have CA := Ce.made (w := w1) (l := [.int .i64 r.e, .int .u64 r.p.a, .int .u64 r.p.b, .int .u64 r.c.a, .int .u64 r.c.b, .int .u64 r.n.a, .int .u64 r.n.b]) (T := 27) (g := w1.heap.size) rfl
    replace B := B.alloc B.size (.cells #[.int .i64 r.e, .int .u64 r.p.a, .int .u64 r.p.b, .int .u64 r.c.a, .int .u64 r.c.b, .int .u64 r.n.a, .int .u64 r.n.b] 27)
    generalize w1.alloc (.cells #[.int .i64 r.e, .int .u64 r.p.a, .int .u64 r.p.b, .int .u64 r.c.a, .int .u64 r.c.b, .int .u64 r.n.a, .int .u64 r.n.b] 27) = w2 at *
    generalize w1.heap.size = A at *
    refine (kv.out _).mono ?_
    rintro e' w3 ⟨rfl, rfl⟩
    go_wp2_with fail
    refine (LF.out _).mono ?_
    rintro e' w4 ⟨rfl, hb⟩
    replace B := B.trans (hb.mono B.size)
    replace CA := CA.below hb
    clear hb
    go_upto_region 8 with fail
    have CF := Ce.made (w := w4) (l := [.int .i64 f.a, .int .i64 f.p, .int .i64 f.ta, .int .i64 f.tp]) (T := 32) (g := w4.heap.size) rfl
    replace B := B.alloc B.size (.cells #[.int .i64 f.a, .int .i64 f.p, .int .i64 f.ta, .int .i64 f.tp] 32)
    replace CA := CA.alloc (.cells #[.int .i64 f.a, .int .i64 f.p, .int .i64 f.ta, .int .i64 f.tp] 32)
    generalize w4.alloc (.cells #[.int .i64 f.a, .int .i64 f.p, .int .i64 f.ta, .int .i64 f.tp] 32) = w5 at *
    generalize w4.heap.size = F at *
    obtain ⟨kA, qA, zA⟩ := id CA
    have cA0 := qA 0 _ rfl
    have cA1 := qA 1 _ rfl
    have cA2 := qA 2 _ rfl
    have cA3 := qA 3 _ rfl
    have cA4 := qA 4 _ rfl
    have cA5 := qA 5 _ rfl
    have cA6 := qA 6 _ rfl
    clear qA zA
    obtain ⟨kF, qF, zF⟩ := id CF
    have cF0 := qF 0 _ rfl
    have cF1 := qF 1 _ rfl
    have cF2 := qF 2 _ rfl
    have cF3 := qF 3 _ rfl
    clear qF zF
    first
     | (go_region_held3 (fun w' => w'.cell? ⟨A, 0, none⟩ = some (.int .i64 r.e) ∧ w'.cell? ⟨A, 1, none⟩ = some (.int .u64 r.p.a) ∧ w'.cell? ⟨A, 2, none⟩ = some (.int .u64 r.p.b) ∧ w'.cell? ⟨A, 3, none⟩ = some (.int .u64 r.c.a) ∧ w'.cell? ⟨A, 4, none⟩ = some (.int .u64 r.c.b) ∧ w'.cell? ⟨A, 5, none⟩ = some (.int .u64 r.n.a) ∧ w'.cell? ⟨A, 6, none⟩ = some (.int .u64 r.n.b) ∧ w'.cell? ⟨F, 0, none⟩ = some (.int .i64 f.a) ∧ w'.cell? ⟨F, 1, none⟩ = some (.int .i64 f.p) ∧ w'.cell? ⟨F, 2, none⟩ = some (.int .i64 f.ta) ∧ w'.cell? ⟨F, 3, none⟩ = some (.int .i64 f.tp) ∧ A < w'.heap.size ∧ F < w'.heap.size ∧ Below W.heap.size W w')
      (first
        | (go_split_ands; refine ⟨?_, ?_, ?_, ?_, ?_, ?_, ?_, ?_, ?_, ?_, ?_, ?_, ?_, ?_⟩; exact (hb5.cell (p := ⟨A, 0, none⟩) (by assumption)).trans (by assumption); exact (hb5.cell (p := ⟨A, 1, none⟩) (by assumption)).trans (by assumption); exact (hb5.cell (p := ⟨A, 2, none⟩) (by assumption)).trans (by assumption); exact (hb5.cell (p := ⟨A, 3, none⟩) (by assumption)).trans (by assumption); exact (hb5.cell (p := ⟨A, 4, none⟩) (by assumption)).trans (by assumption); exact (hb5.cell (p := ⟨A, 5, none⟩) (by assumption)).trans (by assumption); exact (hb5.cell (p := ⟨A, 6, none⟩) (by assumption)).trans (by assumption); exact (hb5.cell (p := ⟨F, 0, none⟩) (by assumption)).trans (by assumption); exact (hb5.cell (p := ⟨F, 1, none⟩) (by assumption)).trans (by assumption); exact (hb5.cell (p := ⟨F, 2, none⟩) (by assumption)).trans (by assumption); exact (hb5.cell (p := ⟨F, 3, none⟩) (by assumption)).trans (by assumption); exact Nat.lt_of_lt_of_le (by assumption) hb5.size; exact Nat.lt_of_lt_of_le (by assumption) hb5.size; exact Below.trans (by assumption) (hb5.mono (by first | exact Nat.le_of_lt (by assumption) | exact Below.size (by assumption))))
        | (refine ⟨?_, ?_, ?_, ?_, ?_, ?_, ?_, ?_, ?_, ?_, ?_, ?_, ?_, ?_⟩; assumption; assumption; assumption; assumption; assumption; assumption; assumption; assumption; assumption; assumption; assumption; assumption; assumption; exact Below.drew (by assumption))
        | (go_split_ands; refine ⟨?_, ?_, ?_, ?_, ?_, ?_, ?_, ?_, ?_, ?_, ?_, ?_, ?_, ?_⟩; exact (World.cell?_alloc_lt _ _ ⟨A, 0, none⟩ (by assumption)).trans (by assumption); exact (World.cell?_alloc_lt _ _ ⟨A, 1, none⟩ (by assumption)).trans (by assumption); exact (World.cell?_alloc_lt _ _ ⟨A, 2, none⟩ (by assumption)).trans (by assumption); exact (World.cell?_alloc_lt _ _ ⟨A, 3, none⟩ (by assumption)).trans (by assumption); exact (World.cell?_alloc_lt _ _ ⟨A, 4, none⟩ (by assumption)).trans (by assumption); exact (World.cell?_alloc_lt _ _ ⟨A, 5, none⟩ (by assumption)).trans (by assumption); exact (World.cell?_alloc_lt _ _ ⟨A, 6, none⟩ (by assumption)).trans (by assumption); exact (World.cell?_alloc_lt _ _ ⟨F, 0, none⟩ (by assumption)).trans (by assumption); exact (World.cell?_alloc_lt _ _ ⟨F, 1, none⟩ (by assumption)).trans (by assumption); exact (World.cell?_alloc_lt _ _ ⟨F, 2, none⟩ (by assumption)).trans (by assumption); exact (World.cell?_alloc_lt _ _ ⟨F, 3, none⟩ (by assumption)).trans (by assumption); (simp; omega); (simp; omega); exact Below.alloc (by assumption) (by first | exact Nat.le_of_lt (by assumption) | exact Below.size (by assumption)) _)
        | (go_split_ands; refine ⟨?_, ?_, ?_, ?_, ?_, ?_, ?_, ?_, ?_, ?_, ?_, ?_, ?_, ?_⟩; exact (World.cell?_alloc_lt _ _ ⟨A, 0, none⟩ (by assumption)).trans (by assumption); exact (World.cell?_alloc_lt _ _ ⟨A, 1, none⟩ (by assumption)).trans (by assumption); exact (World.cell?_alloc_lt _ _ ⟨A, 2, none⟩ (by assumption)).trans (by assumption); exact (World.cell?_alloc_lt _ _ ⟨A, 3, none⟩ (by assumption)).trans (by assumption); exact (World.cell?_alloc_lt _ _ ⟨A, 4, none⟩ (by assumption)).trans (by assumption); exact (World.cell?_alloc_lt _ _ ⟨A, 5, none⟩ (by assumption)).trans (by assumption); exact (World.cell?_alloc_lt _ _ ⟨A, 6, none⟩ (by assumption)).trans (by assumption); exact (World.cell?_alloc_lt _ _ ⟨F, 0, none⟩ (by assumption)).trans (by assumption); exact (World.cell?_alloc_lt _ _ ⟨F, 1, none⟩ (by assumption)).trans (by assumption); exact (World.cell?_alloc_lt _ _ ⟨F, 2, none⟩ (by assumption)).trans (by assumption); exact (World.cell?_alloc_lt _ _ ⟨F, 3, none⟩ (by assumption)).trans (by assumption); exact Nat.lt_of_lt_of_le (by assumption) (Below.drew (Below.alloc (Below.refl _ _) (Nat.le_refl _) _)).size; exact Nat.lt_of_lt_of_le (by assumption) (Below.drew (Below.alloc (Below.refl _ _) (Nat.le_refl _) _)).size; exact Below.drew (Below.alloc (by assumption) (Below.size (by assumption)) _))
        | (go_split_ands; refine ⟨?_, ?_, ?_, ?_, ?_, ?_, ?_, ?_, ?_, ?_, ?_, ?_, ?_, ?_⟩; assumption; assumption; assumption; assumption; assumption; assumption; assumption; assumption; assumption; assumption; assumption; assumption; assumption; assumption)
        | go_keep)
      ((first
        | (go_at_call 17
           go_split_ands
           with_reducible refine (WS.out _).mono ?_
           rintro e w5 ⟨rfl, rfl⟩))))
     | fail "the region"
    go_split_ands
    go_wp2_with fail
    refine (MK.out _).mono ?_
    rintro e' w6 ⟨rfl, hb6⟩
    have B6 : Below W.heap.size W w6 := Below.trans (by assumption) (hb6.mono (Below.size (by assumption)))
    have dA0 := (hb6.cell (p := ⟨A, 0, none⟩) (by assumption)).trans (show _ = some (.int .i64 r.e) by assumption)
    have dA1 := (hb6.cell (p := ⟨A, 1, none⟩) (by assumption)).trans (show _ = some (.int .u64 r.p.a) by assumption)
    have dA2 := (hb6.cell (p := ⟨A, 2, none⟩) (by assumption)).trans (show _ = some (.int .u64 r.p.b) by assumption)
    have dA3 := (hb6.cell (p := ⟨A, 3, none⟩) (by assumption)).trans (show _ = some (.int .u64 r.c.a) by assumption)
    have dA4 := (hb6.cell (p := ⟨A, 4, none⟩) (by assumption)).trans (show _ = some (.int .u64 r.c.b) by assumption)
    have dA5 := (hb6.cell (p := ⟨A, 5, none⟩) (by assumption)).trans (show _ = some (.int .u64 r.n.a) by assumption)
    have dA6 := (hb6.cell (p := ⟨A, 6, none⟩) (by assumption)).trans (show _ = some (.int .u64 r.n.b) by assumption)
    have dA := Nat.lt_of_lt_of_le (show A < _ by assumption) hb6.size
    have dF0 := (hb6.cell (p := ⟨F, 0, none⟩) (by assumption)).trans (show _ = some (.int .i64 f.a) by assumption)
    have dF1 := (hb6.cell (p := ⟨F, 1, none⟩) (by assumption)).trans (show _ = some (.int .i64 f.p) by assumption)
    have dF2 := (hb6.cell (p := ⟨F, 2, none⟩) (by assumption)).trans (show _ = some (.int .i64 f.ta) by assumption)
    have dF3 := (hb6.cell (p := ⟨F, 3, none⟩) (by assumption)).trans (show _ = some (.int .i64 f.tp) by assumption)
    have dF := Nat.lt_of_lt_of_le (show F < _ by assumption) hb6.size
    go_wp2_with fail
    refine (WD.out _ _ (row_at .i64 [2, f.a, f.p, f.ta, f.tp, s, e] (by simp))).mono ?_
    rintro e' w7 ⟨rfl, hb7⟩
    have hq := ((Below.refl w6.heap.size w6).alloc (Nat.le_refl _) (.cells #[.int .i64 2, .int .i64 f.a, .int .i64 f.p, .int .i64 f.ta, .int .i64 f.tp, .int .i64 s, .int .i64 e] 3)).trans (hb7.mono (by simp))
    have B7 : Below W.heap.size W w7 := B6.trans (hq.mono B6.size)
    have gA0 := (hq.cell (p := ⟨A, 0, none⟩) dA).trans dA0
    have gA1 := (hq.cell (p := ⟨A, 1, none⟩) dA).trans dA1
    have gA2 := (hq.cell (p := ⟨A, 2, none⟩) dA).trans dA2
    have gA3 := (hq.cell (p := ⟨A, 3, none⟩) dA).trans dA3
    have gA4 := (hq.cell (p := ⟨A, 4, none⟩) dA).trans dA4
    have gA5 := (hq.cell (p := ⟨A, 5, none⟩) dA).trans dA5
    have gA6 := (hq.cell (p := ⟨A, 6, none⟩) dA).trans dA6
    have gA := Nat.lt_of_lt_of_le dA hq.size
    have gF0 := (hq.cell (p := ⟨F, 0, none⟩) dF).trans dF0
    have gF1 := (hq.cell (p := ⟨F, 1, none⟩) dF).trans dF1
    have gF2 := (hq.cell (p := ⟨F, 2, none⟩) dF).trans dF2
    have gF3 := (hq.cell (p := ⟨F, 3, none⟩) dF).trans dF3
    have gF := Nat.lt_of_lt_of_le dF hq.size
    go_wp2_with fail
    refine (WM.out _ _ (row_at .i64 [2, f.a, f.p, f.ta, f.tp, 64, e] (by simp))).mono ?_
    rintro e' w8 ⟨rfl, hb8⟩
    have hq8 := ((Below.refl w7.heap.size w7).alloc (Nat.le_refl _) (.cells #[.int .i64 2, .int .i64 f.a, .int .i64 f.p, .int .i64 f.ta, .int .i64 f.tp, .int .i64 64, .int .i64 e] 3)).trans (hb8.mono (by simp))
    have B8 : Below W.heap.size W w8 := B7.trans (hq8.mono B7.size)
    go_wp2
    go_ret
    exact ⟨rfl, B8⟩
  · simp only [tB, kdB, if_true, Bool.false_eq_true, if_false] at *
    have y1 : c / 262144 = e := by rw [show (262144 : Int) = 64 * 4096 from rfl]; exact hp1
    change bits .and .i64 (c / 4096) 63 = m at z1
    obtain ⟨y2, y3⟩ := hbits
    change bits .and .u64 c 4095 = tag % 4096 at y2
    change bits .and .u64 tag 4095 = tag % 4096 at y3
    unfold rgV flV at *
    replace LR := hid LR
    replace LF := hid LF
    replace WS := hid WS
    replace MK := hid MK
    replace WD := hid WD
    replace WM := hid WM
    replace kv := hid kv
    clear hp1
    go_enter Try.func10, Try.ntmps10
    go_wp2_with fail
    refine (known_any _).mono ?_
    rintro e' w ⟨rfl, hb1⟩
    have B := hb1
    clear hb1
    go_wp2_with fail
    refine (LR.out _).mono ?_
    rintro e' w1 ⟨rfl, hb⟩
    replace B := B.trans (hb.mono B.size)
    clear hb
    go_wp2_with fail
    have CA := Ce.made (w := w1) (l := [.int .i64 r.e, .int .u64 r.p.a, .int .u64 r.p.b, .int .u64 r.c.a, .int .u64 r.c.b, .int .u64 r.n.a, .int .u64 r.n.b]) (T := 27) (g := w1.heap.size) rfl
    replace B := B.alloc B.size (.cells #[.int .i64 r.e, .int .u64 r.p.a, .int .u64 r.p.b, .int .u64 r.c.a, .int .u64 r.c.b, .int .u64 r.n.a, .int .u64 r.n.b] 27)
    generalize w1.alloc (.cells #[.int .i64 r.e, .int .u64 r.p.a, .int .u64 r.p.b, .int .u64 r.c.a, .int .u64 r.c.b, .int .u64 r.n.a, .int .u64 r.n.b] 27) = w2 at *
    generalize w1.heap.size = A at *
    refine (kv.out _).mono ?_
    rintro e' w3 ⟨rfl, rfl⟩
    go_wp2_with fail
    refine (LF.out _).mono ?_
    rintro e' w4 ⟨rfl, hb⟩
    replace B := B.trans (hb.mono B.size)
    replace CA := CA.below hb
    clear hb
    go_upto_region 8 with fail
    have CF := Ce.made (w := w4) (l := [.int .i64 f.a, .int .i64 f.p, .int .i64 f.ta, .int .i64 f.tp]) (T := 32) (g := w4.heap.size) rfl
    replace B := B.alloc B.size (.cells #[.int .i64 f.a, .int .i64 f.p, .int .i64 f.ta, .int .i64 f.tp] 32)
    replace CA := CA.alloc (.cells #[.int .i64 f.a, .int .i64 f.p, .int .i64 f.ta, .int .i64 f.tp] 32)
    generalize w4.alloc (.cells #[.int .i64 f.a, .int .i64 f.p, .int .i64 f.ta, .int .i64 f.tp] 32) = w5 at *
    generalize w4.heap.size = F at *
    obtain ⟨kA, qA, zA⟩ := id CA
    have cA0 := qA 0 _ rfl
    have cA1 := qA 1 _ rfl
    have cA2 := qA 2 _ rfl
    have cA3 := qA 3 _ rfl
    have cA4 := qA 4 _ rfl
    have cA5 := qA 5 _ rfl
    have cA6 := qA 6 _ rfl
    clear qA zA
    obtain ⟨kF, qF, zF⟩ := id CF
    have cF0 := qF 0 _ rfl
    have cF1 := qF 1 _ rfl
    have cF2 := qF 2 _ rfl
    have cF3 := qF 3 _ rfl
    clear qF zF
    first
     | (go_region_held3 (fun w' => w'.cell? ⟨A, 0, none⟩ = some (.int .i64 r.e) ∧ w'.cell? ⟨A, 1, none⟩ = some (.int .u64 r.p.a) ∧ w'.cell? ⟨A, 2, none⟩ = some (.int .u64 r.p.b) ∧ w'.cell? ⟨A, 3, none⟩ = some (.int .u64 r.c.a) ∧ w'.cell? ⟨A, 4, none⟩ = some (.int .u64 r.c.b) ∧ w'.cell? ⟨A, 5, none⟩ = some (.int .u64 r.n.a) ∧ w'.cell? ⟨A, 6, none⟩ = some (.int .u64 r.n.b) ∧ w'.cell? ⟨F, 0, none⟩ = some (.int .i64 f.a) ∧ w'.cell? ⟨F, 1, none⟩ = some (.int .i64 f.p) ∧ w'.cell? ⟨F, 2, none⟩ = some (.int .i64 f.ta) ∧ w'.cell? ⟨F, 3, none⟩ = some (.int .i64 f.tp) ∧ A < w'.heap.size ∧ F < w'.heap.size ∧ Below W.heap.size W w')
      (first
        | (go_split_ands; refine ⟨?_, ?_, ?_, ?_, ?_, ?_, ?_, ?_, ?_, ?_, ?_, ?_, ?_, ?_⟩; exact (hb5.cell (p := ⟨A, 0, none⟩) (by assumption)).trans (by assumption); exact (hb5.cell (p := ⟨A, 1, none⟩) (by assumption)).trans (by assumption); exact (hb5.cell (p := ⟨A, 2, none⟩) (by assumption)).trans (by assumption); exact (hb5.cell (p := ⟨A, 3, none⟩) (by assumption)).trans (by assumption); exact (hb5.cell (p := ⟨A, 4, none⟩) (by assumption)).trans (by assumption); exact (hb5.cell (p := ⟨A, 5, none⟩) (by assumption)).trans (by assumption); exact (hb5.cell (p := ⟨A, 6, none⟩) (by assumption)).trans (by assumption); exact (hb5.cell (p := ⟨F, 0, none⟩) (by assumption)).trans (by assumption); exact (hb5.cell (p := ⟨F, 1, none⟩) (by assumption)).trans (by assumption); exact (hb5.cell (p := ⟨F, 2, none⟩) (by assumption)).trans (by assumption); exact (hb5.cell (p := ⟨F, 3, none⟩) (by assumption)).trans (by assumption); exact Nat.lt_of_lt_of_le (by assumption) hb5.size; exact Nat.lt_of_lt_of_le (by assumption) hb5.size; exact Below.trans (by assumption) (hb5.mono (by first | exact Nat.le_of_lt (by assumption) | exact Below.size (by assumption))))
        | (refine ⟨?_, ?_, ?_, ?_, ?_, ?_, ?_, ?_, ?_, ?_, ?_, ?_, ?_, ?_⟩; assumption; assumption; assumption; assumption; assumption; assumption; assumption; assumption; assumption; assumption; assumption; assumption; assumption; exact Below.drew (by assumption))
        | (go_split_ands; refine ⟨?_, ?_, ?_, ?_, ?_, ?_, ?_, ?_, ?_, ?_, ?_, ?_, ?_, ?_⟩; exact (World.cell?_alloc_lt _ _ ⟨A, 0, none⟩ (by assumption)).trans (by assumption); exact (World.cell?_alloc_lt _ _ ⟨A, 1, none⟩ (by assumption)).trans (by assumption); exact (World.cell?_alloc_lt _ _ ⟨A, 2, none⟩ (by assumption)).trans (by assumption); exact (World.cell?_alloc_lt _ _ ⟨A, 3, none⟩ (by assumption)).trans (by assumption); exact (World.cell?_alloc_lt _ _ ⟨A, 4, none⟩ (by assumption)).trans (by assumption); exact (World.cell?_alloc_lt _ _ ⟨A, 5, none⟩ (by assumption)).trans (by assumption); exact (World.cell?_alloc_lt _ _ ⟨A, 6, none⟩ (by assumption)).trans (by assumption); exact (World.cell?_alloc_lt _ _ ⟨F, 0, none⟩ (by assumption)).trans (by assumption); exact (World.cell?_alloc_lt _ _ ⟨F, 1, none⟩ (by assumption)).trans (by assumption); exact (World.cell?_alloc_lt _ _ ⟨F, 2, none⟩ (by assumption)).trans (by assumption); exact (World.cell?_alloc_lt _ _ ⟨F, 3, none⟩ (by assumption)).trans (by assumption); (simp; omega); (simp; omega); exact Below.alloc (by assumption) (by first | exact Nat.le_of_lt (by assumption) | exact Below.size (by assumption)) _)
        | (go_split_ands; refine ⟨?_, ?_, ?_, ?_, ?_, ?_, ?_, ?_, ?_, ?_, ?_, ?_, ?_, ?_⟩; exact (World.cell?_alloc_lt _ _ ⟨A, 0, none⟩ (by assumption)).trans (by assumption); exact (World.cell?_alloc_lt _ _ ⟨A, 1, none⟩ (by assumption)).trans (by assumption); exact (World.cell?_alloc_lt _ _ ⟨A, 2, none⟩ (by assumption)).trans (by assumption); exact (World.cell?_alloc_lt _ _ ⟨A, 3, none⟩ (by assumption)).trans (by assumption); exact (World.cell?_alloc_lt _ _ ⟨A, 4, none⟩ (by assumption)).trans (by assumption); exact (World.cell?_alloc_lt _ _ ⟨A, 5, none⟩ (by assumption)).trans (by assumption); exact (World.cell?_alloc_lt _ _ ⟨A, 6, none⟩ (by assumption)).trans (by assumption); exact (World.cell?_alloc_lt _ _ ⟨F, 0, none⟩ (by assumption)).trans (by assumption); exact (World.cell?_alloc_lt _ _ ⟨F, 1, none⟩ (by assumption)).trans (by assumption); exact (World.cell?_alloc_lt _ _ ⟨F, 2, none⟩ (by assumption)).trans (by assumption); exact (World.cell?_alloc_lt _ _ ⟨F, 3, none⟩ (by assumption)).trans (by assumption); exact Nat.lt_of_lt_of_le (by assumption) (Below.drew (Below.alloc (Below.refl _ _) (Nat.le_refl _) _)).size; exact Nat.lt_of_lt_of_le (by assumption) (Below.drew (Below.alloc (Below.refl _ _) (Nat.le_refl _) _)).size; exact Below.drew (Below.alloc (by assumption) (Below.size (by assumption)) _))
        | (go_split_ands; refine ⟨?_, ?_, ?_, ?_, ?_, ?_, ?_, ?_, ?_, ?_, ?_, ?_, ?_, ?_⟩; assumption; assumption; assumption; assumption; assumption; assumption; assumption; assumption; assumption; assumption; assumption; assumption; assumption; assumption)
        | go_keep)
      ((first
        | (go_at_call 17
           go_split_ands
           with_reducible refine (WS.out _).mono ?_
           rintro e w5 ⟨rfl, rfl⟩))))
     | fail "the region"
    go_split_ands
    go_wp2_with fail
    refine (MK.out _).mono ?_
    rintro e' w6 ⟨rfl, hb6⟩
    have B6 : Below W.heap.size W w6 := Below.trans (by assumption) (hb6.mono (Below.size (by assumption)))
    have dA0 := (hb6.cell (p := ⟨A, 0, none⟩) (by assumption)).trans (show _ = some (.int .i64 r.e) by assumption)
    have dA1 := (hb6.cell (p := ⟨A, 1, none⟩) (by assumption)).trans (show _ = some (.int .u64 r.p.a) by assumption)
    have dA2 := (hb6.cell (p := ⟨A, 2, none⟩) (by assumption)).trans (show _ = some (.int .u64 r.p.b) by assumption)
    have dA3 := (hb6.cell (p := ⟨A, 3, none⟩) (by assumption)).trans (show _ = some (.int .u64 r.c.a) by assumption)
    have dA4 := (hb6.cell (p := ⟨A, 4, none⟩) (by assumption)).trans (show _ = some (.int .u64 r.c.b) by assumption)
    have dA5 := (hb6.cell (p := ⟨A, 5, none⟩) (by assumption)).trans (show _ = some (.int .u64 r.n.a) by assumption)
    have dA6 := (hb6.cell (p := ⟨A, 6, none⟩) (by assumption)).trans (show _ = some (.int .u64 r.n.b) by assumption)
    have dA := Nat.lt_of_lt_of_le (show A < _ by assumption) hb6.size
    have dF0 := (hb6.cell (p := ⟨F, 0, none⟩) (by assumption)).trans (show _ = some (.int .i64 f.a) by assumption)
    have dF1 := (hb6.cell (p := ⟨F, 1, none⟩) (by assumption)).trans (show _ = some (.int .i64 f.p) by assumption)
    have dF2 := (hb6.cell (p := ⟨F, 2, none⟩) (by assumption)).trans (show _ = some (.int .i64 f.ta) by assumption)
    have dF3 := (hb6.cell (p := ⟨F, 3, none⟩) (by assumption)).trans (show _ = some (.int .i64 f.tp) by assumption)
    have dF := Nat.lt_of_lt_of_le (show F < _ by assumption) hb6.size
    go_wp2_with fail
    refine (WD.out _ _ (row_at .i64 [1, f.a, f.p, f.ta, f.tp, s, e] (by simp))).mono ?_
    rintro e' w7 ⟨rfl, hb7⟩
    have hq := ((Below.refl w6.heap.size w6).alloc (Nat.le_refl _) (.cells #[.int .i64 1, .int .i64 f.a, .int .i64 f.p, .int .i64 f.ta, .int .i64 f.tp, .int .i64 s, .int .i64 e] 3)).trans (hb7.mono (by simp))
    have B7 : Below W.heap.size W w7 := B6.trans (hq.mono B6.size)
    have gA0 := (hq.cell (p := ⟨A, 0, none⟩) dA).trans dA0
    have gA1 := (hq.cell (p := ⟨A, 1, none⟩) dA).trans dA1
    have gA2 := (hq.cell (p := ⟨A, 2, none⟩) dA).trans dA2
    have gA3 := (hq.cell (p := ⟨A, 3, none⟩) dA).trans dA3
    have gA4 := (hq.cell (p := ⟨A, 4, none⟩) dA).trans dA4
    have gA5 := (hq.cell (p := ⟨A, 5, none⟩) dA).trans dA5
    have gA6 := (hq.cell (p := ⟨A, 6, none⟩) dA).trans dA6
    have gA := Nat.lt_of_lt_of_le dA hq.size
    have gF0 := (hq.cell (p := ⟨F, 0, none⟩) dF).trans dF0
    have gF1 := (hq.cell (p := ⟨F, 1, none⟩) dF).trans dF1
    have gF2 := (hq.cell (p := ⟨F, 2, none⟩) dF).trans dF2
    have gF3 := (hq.cell (p := ⟨F, 3, none⟩) dF).trans dF3
    have gF := Nat.lt_of_lt_of_le dF hq.size
    go_wp2_with fail
    refine (WM.out _ _ (row_at .i64 [1, f.a, f.p, f.ta, f.tp, 64, e] (by simp))).mono ?_
    rintro e' w8 ⟨rfl, hb8⟩
    have hq8 := ((Below.refl w7.heap.size w7).alloc (Nat.le_refl _) (.cells #[.int .i64 1, .int .i64 f.a, .int .i64 f.p, .int .i64 f.ta, .int .i64 f.tp, .int .i64 64, .int .i64 e] 3)).trans (hb8.mono (by simp))
    have B8 : Below W.heap.size W w8 := B7.trans (hq8.mono B7.size)
    go_wp2
    go_ret
    exact ⟨rfl, B8⟩

set_option maxRecDepth 100000 in
theorem lifted (os : Os) (started : os.Started) (H : Type) (enc : TypeId × Value → H) :
    ReturnsInHanded {} Try.checked os 10 .any (Rows.cookiePartsSpec.pre6 enc Try.prog Try.f10 [] false) (Rows.cookiePartsSpec.post enc Try.prog Try.f10 false true false false) :=
  law_step (s := Rows.cookiePartsSpec) started (by kernel_rfl) Try.func10
    (ChangeSpec.witness6 (s := Rows.cookiePartsSpec) (enc := enc) (C := Try.checked) false ⟨#[], #[.int .i64 0, .int .i64 0, .bool false, .int .i64 0, .int .i64 0, .int .i64 0], []⟩ 8 (by kernel_rfl) (by kernel_rfl) (by kernel_rfl) (by kernel_rfl))
    rfl (by rw [Try.params10]; decide +kernel) rfl Try.underlying4
    (fun ds h => by
      rw [Try.params10] at h
      match ds, h with
      | [_, _, _, _, _, _], _ => rfl)
    (fun W base args ds ps hval hA hsz => by
      rw [Try.params10] at hA hval hsz
      obtain ⟨v0, vs0, d0, ds0, p0, q0, hargs, rfl, rfl, h0, r0⟩ := trodAll_cons hA
      obtain ⟨v1, vs1, d1, ds1, p1, q1, rfl, rfl, rfl, h1, r1⟩ := trodAll_cons r0
      obtain ⟨v2, vs2, d2, ds2, p2, q2, rfl, rfl, rfl, h2, r2⟩ := trodAll_cons r1
      obtain ⟨v3, vs3, d3, ds3, p3, q3, rfl, rfl, rfl, h3, r3⟩ := trodAll_cons r2
      obtain ⟨v4, vs4, d4, ds4, p4, q4, rfl, rfl, rfl, h4, r4⟩ := trodAll_cons r3
      obtain ⟨v5, vs5, d5, ds5, p5, q5, rfl, rfl, rfl, h5, r5⟩ := trodAll_cons r4
      obtain ⟨rfl, rfl, rfl⟩ := trodAll_nil r5
      obtain rfl : args = #[v0, v1, v2, v3, v4, v5] := by cases args; simp_all
      obtain ⟨a0, rfl, rfl, rfl, w0⟩ := open_int Try.underlying3 (hval 0 3 v0 rfl rfl) h0
      obtain ⟨a1, rfl, rfl, rfl, w1⟩ := open_int Try.underlying3 (hval 1 3 v1 rfl rfl) h1
      obtain ⟨a2, rfl, rfl, rfl⟩ := open_bool Try.underlying4 (hval 2 4 v2 rfl rfl) h2
      obtain ⟨a3, rfl, rfl, rfl, w3⟩ := open_int Try.underlying3 (hval 3 3 v3 rfl rfl) h3
      obtain ⟨a4, rfl, rfl, rfl, w4⟩ := open_int Try.underlying3 (hval 4 3 v4 rfl rfl) h4
      obtain ⟨a5, rfl, rfl, rfl, w5⟩ := open_int Try.underlying3 (hval 5 3 v5 rfl rfl) h5
      exact walk W a0 (bounds_i64 w0) a1 (bounds_i64 w1) a2 a3 (bounds_i64 w3) a4 (bounds_i64 w4) a5 (bounds_i64 w5))

theorem proved : Rows.CookiePartsSaid :=
  OpenClaim.holds_of_wide 10 Try.f10 rfl rfl rfl rfl rfl rfl rfl ⟨rfl, rfl, rfl, rfl, rfl⟩ rfl rfl rfl rfl rfl (by kernel_rfl) Try.func10 (by kernel_rfl)
    (of_decide_eq_true (by kernel_rfl)) (by unfold Func.isWrapper; first | (rw [if_pos (by decide +kernel)]; kernel_rfl) | (rw [if_neg (by decide +kernel)]; exact ⟨rfl, rfl⟩))
    (fun os started H enc _ => lifted os started H enc)
end Go.Proofs.Ytfokkmemjkfifaa.cookieParts
