/- roundhouselaw8.PulseSteady answers true for every length, slot, number, answer; no condition. -/
import Derived.Test.YtcbnebabeekegaaPulKnown
import Derived.BigQuiet
import Derived.Deep.RegionHeld3
import Derived.Deep.Cut
namespace Go.Proofs.Ytcbnebabeekegaa.pulseSteady
set_option linter.unusedVariables false
set_option linter.unusedSimpArgs false
open Go.RowKit Go.ChangeShapes Go.WideShapes Go.ChangeAt

theorem cur_upd (M : Int → Option Life) (s : Int) (l : Life) : cur (upd M s (some l)) s = l := by simp [cur, upd]
theorem rowUp_bd (wh : Bool) (lo : Int) (x : Bool) (k : Nat) (h0 : 0 ≤ lo) (h1 : lo ≤ k) : 0 ≤ rowUp wh lo x ∧ rowUp wh lo x ≤ (k + 1 : Nat) := by
  unfold rowUp
  split <;> omega
theorem st_ff (r f la lo now : Int) (wh : Bool) : toldV r f (false, la, wh, lo) now false = 0 ∧ toldL r f (false, la, wh, lo) now false = (false, now, false, rowUp wh lo false) := by
  simp [toldV, toldL, verd, lifeUp]
theorem st_tt (r f la lo now : Int) (wh : Bool) : toldV r f (true, la, wh, lo) now true = 0 ∧ toldL r f (true, la, wh, lo) now true = (true, now, true, rowUp wh lo true) := by
  simp [toldV, toldL, verd, lifeUp]
theorem st_ft (r f la lo now : Int) (wh : Bool) (h : rowUp wh lo true < r) : toldV r f (false, la, wh, lo) now true = 0 ∧ toldL r f (false, la, wh, lo) now true = (false, now, true, rowUp wh lo true) := by
  have h := Int.not_le.mpr h
  simp [toldV, toldL, verd, lifeUp, h]
theorem st_ft1 (r f la lo now : Int) (wh : Bool) (h : r ≤ rowUp wh lo true) : toldV r f (false, la, wh, lo) now true = 1 ∧ toldL r f (false, la, wh, lo) now true = (true, now, false, 0) := by
  simp [toldV, toldL, verd, lifeUp, h]
theorem bit_any (x : Bool) (w : World) : Calls Try.prog 25 #[.bool x] w fun e w' => e = .returned (.int .i64 (if x = true then 1 else 0)) ∧ w = w' := by
  cases x
  all_goals
    go_enter Try.func25, Try.ntmps25
    go_wp2
    go_ret
    exact ⟨rfl, rfl⟩
set_option maxRecDepth 100000 in
set_option maxHeartbeats 4000000 in
theorem walk (W : World) (e0 : Int) (r_e0 : -9223372036854775808 ≤ e0 ∧ e0 ≤ 9223372036854775807) (g0 : Int) (r_g0 : -9223372036854775808 ≤ g0 ∧ g0 ≤ 9223372036854775807)
    (s0 : Int) (r_s0 : -9223372036854775808 ≤ s0 ∧ s0 ≤ 9223372036854775807) (n0 : Int) (r_n0 : -9223372036854775808 ≤ n0 ∧ n0 ≤ 9223372036854775807) (ok : Bool) :
    Calls Try.prog 11 #[.int .i64 e0, .int .i64 g0, .int .i64 s0, .int .i64 n0, .bool ok] W fun e w' => e = .returned (.bool true) ∧ Below W.heap.size W w' := by
  obtain ⟨c, hc⟩ : ∃ x, x = wi e0 10 := ⟨_, rfl⟩
  have bc := wi_bd e0 10 (by omega)
  rw [← hc] at bc
  have Wc := hid (fun w => re_i64 (within_any e0 10 w (by omega) (by omega)) hc.symm)
  clear hc
  obtain ⟨bc1, bc2⟩ := bc
  obtain ⟨f, hf⟩ : ∃ x, x = wi g0 10 := ⟨_, rfl⟩
  have bf := wi_bd g0 10 (by omega)
  rw [← hf] at bf
  have Wf := hid (fun w => re_i64 (within_any g0 10 w (by omega) (by omega)) hf.symm)
  clear hf
  obtain ⟨bf1, bf2⟩ := bf
  obtain ⟨s, hs⟩ : ∃ x, x = wi s0 64 := ⟨_, rfl⟩
  have bs := wi_bd s0 64 (by omega)
  rw [← hs] at bs
  have Ws := hid (fun w => re_i64 (within_any s0 64 w (by omega) (by omega)) hs.symm)
  clear hs
  obtain ⟨bs1, bs2⟩ := bs
  obtain ⟨d, hd⟩ : ∃ x, x = wi n0 40 := ⟨_, rfl⟩
  have bd := wi_bd n0 40 (by omega)
  rw [← hd] at bd
  have Wd := hid (fun w => re_i64 (within_any n0 40 w (by omega) (by omega)) hd.symm)
  clear hd
  obtain ⟨bd1, bd2⟩ := bd
  have hs : I64 s := by unfold I64; omega
  have hsl : 0 ≤ s ∧ s < 64 := ⟨bs1, bs2⟩
  have q1 : IntKind.i64.wrap (1 + c) = 1 + c := IntWalk.i64_in _ (by omega)
  have q2 : IntKind.i64.wrap (1 + f) = 1 + f := IntWalk.i64_in _ (by omega)
  have q3 : IntKind.i64.wrap (10 + d) = 10 + d := IntWalk.i64_in _ (by omega)
  cases ok
  · go_enter Try.func11, Try.ntmps11
    go_wp2_with fail
    refine (known_any _).mono ?_
    rintro x w ⟨rfl, hB⟩
    try go_simp
    have B := hid hB
    clear hB
    go_wp2_with fail
    refine (Wc.out _).mono ?_
    rintro x w' ⟨rfl, rfl⟩
    try go_simp
    go_wp2_with fail
    refine (Wf.out _).mono ?_
    rintro x w' ⟨rfl, rfl⟩
    try go_simp
    go_wp2_with fail
    refine (new_ok (1 + c) (1 + f) 1 (by omega) (by omega) (by omega) _).mono ?_
    rintro x w1 ⟨p, b, rfl, hP, hp, hb, hB1⟩
    try go_simp
    have P1 := hid hP
    have B1 := hid (B.out.trans (hB1.mono B.out.size))
    have hb' : W.heap.size ≤ b := Nat.le_trans B.out.size hb
    clear hP hB1 B
    go_wp2_with fail
    refine (Ws.out _).mono ?_
    rintro x w' ⟨rfl, rfl⟩
    try go_simp
    go_wp2_with fail
    go_loopw [16, 17] (fun o i wr => ∃ (k : Nat) (t : Int) (M : Int → Option Life) (u : Bool) (la : Int) (wh : Bool) (lo : Int), (k : Int) ≤ 10 + d ∧ i = .int .i64 (k : Int) ∧ o = .int .i64 t ∧ PulseAt wr p b k (1 + c) (1 + f) 1 M ∧ cur M s = (u, la, wh, lo) ∧ Below W.heap.size W wr ∧ (u = false ∧ t = 0) ∧ 0 ≤ lo ∧ lo ≤ (k : Int)) (fun _ i _ => (10 + d).toNat - (intOf i).toNat)
    case atStart => exact ⟨0, 0, _, _, _, _, _, by omega, rfl, rfl, P1.out, rfl, B1.out, ⟨rfl, rfl⟩, by decide, by decide⟩
    case round =>
      clear P1 B1
      obtain ⟨k, t, M, u, la, wh, lo, hk, rfl, rfl, hP, hcur, hB, hc, h0, h1⟩ := hrel
      replace hP := hid hP
      replace hB := hid hB
      by_cases hlt : (k : Int) < 10 + d
      · have k0 : (0 : Int) ≤ k := by omega
        obtain ⟨rfl, rfl⟩ := hc
        go_wp2_with fail
        refine (Wd.out _).mono ?_
        rintro x w' ⟨rfl, rfl⟩
        try go_simp
        go_wp2_with fail
        refine (told_ok hP.out s k false (false, la, wh, lo) (false, (k : Int), false, rowUp wh lo false) 0 hsl (by omega) hcur (by omega) (by show lo ≤ 1000000; omega) (st_ff _ _ _ _ _ _).1 (st_ff _ _ _ _ _ _).2).mono ?_
        rintro x w3 ⟨rfl, hP3, hg⟩
        try go_simp
        have P3 := hid hP3
        have B3 := hid (below_step hB.out hg hb' (Nat.le_refl _))
        clear hP3 hg hP hB
        go_wp2_with fail
        go_roundw
        case rel => exact ⟨k + 1, _, _, _, _, _, _, by omega, by go_num, rfl, P3.out, cur_upd _ _ _, B3.out, ⟨rfl, rfl⟩, (rowUp_bd wh lo false k h0 h1).1, (rowUp_bd wh lo false k h0 h1).2⟩
        case measure => simp [intOf]; omega
      · have BT := hid (bit_any false)
        obtain ⟨rfl, rfl⟩ := hc
        go_wp2_with fail
        refine (Wd.out _).mono ?_
        rintro x w' ⟨rfl, rfl⟩
        try go_simp
        go_wp2_with fail
        refine (BT.out _).mono ?_
        rintro x w' ⟨rfl, rfl⟩
        try go_simp
        go_wp2_with fail
        refine (up_ok hP.out s false hs (by rw [hcur])).mono ?_
        rintro x w' ⟨rfl, rfl⟩
        try go_simp
        go_wp2_with fail
        go_ret
        exact ⟨rfl, hB.out⟩
  · go_enter Try.func11, Try.ntmps11
    go_wp2_with fail
    refine (known_any _).mono ?_
    rintro x w ⟨rfl, hB⟩
    try go_simp
    have B := hid hB
    clear hB
    go_wp2_with fail
    refine (Wc.out _).mono ?_
    rintro x w' ⟨rfl, rfl⟩
    try go_simp
    go_wp2_with fail
    refine (Wf.out _).mono ?_
    rintro x w' ⟨rfl, rfl⟩
    try go_simp
    go_wp2_with fail
    refine (new_ok (1 + c) (1 + f) 1 (by omega) (by omega) (by omega) _).mono ?_
    rintro x w1 ⟨p, b, rfl, hP, hp, hb, hB1⟩
    try go_simp
    have P1 := hid hP
    have B1 := hid (B.out.trans (hB1.mono B.out.size))
    have hb' : W.heap.size ≤ b := Nat.le_trans B.out.size hb
    clear hP hB1 B
    go_wp2_with fail
    refine (Ws.out _).mono ?_
    rintro x w' ⟨rfl, rfl⟩
    try go_simp
    go_wp2_with fail
    go_loopw [16, 17] (fun o i wr => ∃ (k : Nat) (t : Int) (M : Int → Option Life) (u : Bool) (la : Int) (wh : Bool) (lo : Int), (k : Int) ≤ 10 + d ∧ i = .int .i64 (k : Int) ∧ o = .int .i64 t ∧ PulseAt wr p b k (1 + c) (1 + f) 1 M ∧ cur M s = (u, la, wh, lo) ∧ Below W.heap.size W wr ∧ (u = false ∧ t = 0 ∧ (k : Int) < 1 + c ∧ rowUp wh lo true = k + 1 ∨ u = true ∧ t = 1 ∧ 1 + c ≤ (k : Int)) ∧ 0 ≤ lo ∧ lo ≤ (k : Int)) (fun _ i _ => (10 + d).toNat - (intOf i).toNat)
    case atStart => exact ⟨0, 0, _, _, _, _, _, by omega, rfl, rfl, P1.out, rfl, B1.out, .inl ⟨rfl, rfl, by omega, rfl⟩, by decide, by decide⟩
    case round =>
      clear P1 B1
      obtain ⟨k, t, M, u, la, wh, lo, hk, rfl, rfl, hP, hcur, hB, hc, h0, h1⟩ := hrel
      replace hP := hid hP
      replace hB := hid hB
      by_cases hlt : (k : Int) < 10 + d
      · have k0 : (0 : Int) ≤ k := by omega
        rcases hc with ⟨rfl, rfl, hkc, hru⟩ | ⟨rfl, rfl, hkc⟩
        · by_cases hr : 1 + c ≤ rowUp wh lo true
          · have HR := hid hr
            go_wp2_with fail
            refine (Wd.out _).mono ?_
            rintro x w' ⟨rfl, rfl⟩
            try go_simp
            go_wp2_with fail
            refine (told_ok hP.out s k true (false, la, wh, lo) (true, (k : Int), false, 0) 1 hsl (by omega) hcur (by omega) (by show lo ≤ 1000000; omega) (st_ft1 _ _ _ _ _ _ HR.out).1 (st_ft1 _ _ _ _ _ _ HR.out).2).mono ?_
            rintro x w3 ⟨rfl, hP3, hg⟩
            try go_simp
            have P3 := hid hP3
            have B3 := hid (below_step hB.out hg hb' (Nat.le_refl _))
            clear hP3 hg hP hB
            go_wp2_with fail
            go_roundw
            case rel => exact ⟨k + 1, _, _, _, _, _, _, by omega, by go_num, rfl, P3.out, cur_upd _ _ _, B3.out, .inr ⟨rfl, by go_num, by omega⟩, by decide, by omega⟩
            case measure => simp [intOf]; omega
          · have hru1 : rowUp true (rowUp wh lo true) true = ((k + 1 : Nat) : Int) + 1 := by rw [hru]; unfold rowUp; simp
            have HK : Hid (((k + 1 : Nat) : Int) < 1 + c) := hid (by omega)
            have HU := hid hru1
            clear hru1
            have HR := hid (Int.not_le.mp hr)
            clear hr
            go_wp2_with fail
            refine (Wd.out _).mono ?_
            rintro x w' ⟨rfl, rfl⟩
            try go_simp
            go_wp2_with fail
            refine (told_ok hP.out s k true (false, la, wh, lo) (false, (k : Int), true, rowUp wh lo true) 0 hsl (by omega) hcur (by omega) (by show lo ≤ 1000000; omega) (st_ft _ _ _ _ _ _ HR.out).1 (st_ft _ _ _ _ _ _ HR.out).2).mono ?_
            rintro x w3 ⟨rfl, hP3, hg⟩
            try go_simp
            have P3 := hid hP3
            have B3 := hid (below_step hB.out hg hb' (Nat.le_refl _))
            clear hP3 hg hP hB
            go_wp2_with fail
            go_roundw
            case rel => exact ⟨k + 1, _, _, _, _, _, _, by omega, by go_num, rfl, P3.out, cur_upd _ _ _, B3.out, .inl ⟨rfl, rfl, HK.out, HU.out⟩, (rowUp_bd wh lo true k h0 h1).1, (rowUp_bd wh lo true k h0 h1).2⟩
            case measure => simp [intOf]; omega
        · go_wp2_with fail
          refine (Wd.out _).mono ?_
          rintro x w' ⟨rfl, rfl⟩
          try go_simp
          go_wp2_with fail
          refine (told_ok hP.out s k true (true, la, wh, lo) (true, (k : Int), true, rowUp wh lo true) 0 hsl (by omega) hcur (by omega) (by show lo ≤ 1000000; omega) (st_tt _ _ _ _ _ _).1 (st_tt _ _ _ _ _ _).2).mono ?_
          rintro x w3 ⟨rfl, hP3, hg⟩
          try go_simp
          have P3 := hid hP3
          have B3 := hid (below_step hB.out hg hb' (Nat.le_refl _))
          clear hP3 hg hP hB
          go_wp2_with fail
          go_roundw
          case rel => exact ⟨k + 1, _, _, _, _, _, _, by omega, by go_num, rfl, P3.out, cur_upd _ _ _, B3.out, .inr ⟨rfl, rfl, by omega⟩, (rowUp_bd wh lo true k h0 h1).1, (rowUp_bd wh lo true k h0 h1).2⟩
          case measure => simp [intOf]; omega
      · have BT := hid (bit_any true)
        rcases hc with ⟨rfl, rfl, hkc, hru⟩ | ⟨rfl, rfl, hkc⟩
        · omega
        go_wp2_with fail
        refine (Wd.out _).mono ?_
        rintro x w' ⟨rfl, rfl⟩
        try go_simp
        go_wp2_with fail
        refine (BT.out _).mono ?_
        rintro x w' ⟨rfl, rfl⟩
        try go_simp
        go_wp2_with fail
        refine (up_ok hP.out s true hs (by rw [hcur])).mono ?_
        rintro x w' ⟨rfl, rfl⟩
        try go_simp
        go_wp2_with fail
        go_ret
        exact ⟨rfl, hB.out⟩

set_option maxRecDepth 100000 in
theorem lifted (os : Os) (started : os.Started) (H : Type) (enc : TypeId × Value → H) :
    ReturnsInHanded {} Try.checked os 11 .any (Rows.pulseSteadySpec.pre6 enc Try.prog Try.f11 [] false) (Rows.pulseSteadySpec.post enc Try.prog Try.f11 false true false false) :=
  law_step (s := Rows.pulseSteadySpec) started (by kernel_rfl) Try.func11
    (ChangeSpec.witness6 (s := Rows.pulseSteadySpec) (enc := enc) (C := Try.checked) false ⟨#[], #[.int .i64 0, .int .i64 0, .int .i64 0, .int .i64 0, .bool false], []⟩ 8 (by kernel_rfl) (by kernel_rfl) (by kernel_rfl) (by kernel_rfl))
    rfl (by rw [Try.params11]; decide +kernel) rfl Try.underlying4
    (fun ds h => by
      rw [Try.params11] at h
      match ds, h with
      | [_, _, _, _, _], _ => rfl)
    (fun W base args ds ps hval hA hsz => by
      rw [Try.params11] at hA hval hsz
      obtain ⟨v0, vs0, d0, ds0, p0, q0, hargs, rfl, rfl, h0, r0⟩ := trodAll_cons hA
      obtain ⟨v1, vs1, d1, ds1, p1, q1, rfl, rfl, rfl, h1, r1⟩ := trodAll_cons r0
      obtain ⟨v2, vs2, d2, ds2, p2, q2, rfl, rfl, rfl, h2, r2⟩ := trodAll_cons r1
      obtain ⟨v3, vs3, d3, ds3, p3, q3, rfl, rfl, rfl, h3, r3⟩ := trodAll_cons r2
      obtain ⟨v4, vs4, d4, ds4, p4, q4, rfl, rfl, rfl, h4, r4⟩ := trodAll_cons r3
      obtain ⟨rfl, rfl, rfl⟩ := trodAll_nil r4
      obtain rfl : args = #[v0, v1, v2, v3, v4] := by cases args; simp_all
      obtain ⟨a0, rfl, rfl, rfl, w0⟩ := open_int Try.underlying3 (hval 0 3 v0 rfl rfl) h0
      obtain ⟨a1, rfl, rfl, rfl, w1⟩ := open_int Try.underlying3 (hval 1 3 v1 rfl rfl) h1
      obtain ⟨a2, rfl, rfl, rfl, w2⟩ := open_int Try.underlying3 (hval 2 3 v2 rfl rfl) h2
      obtain ⟨a3, rfl, rfl, rfl, w3⟩ := open_int Try.underlying3 (hval 3 3 v3 rfl rfl) h3
      obtain ⟨a4, rfl, rfl, rfl⟩ := open_bool Try.underlying4 (hval 4 4 v4 rfl rfl) h4
      exact walk W a0 (bounds_i64 w0) a1 (bounds_i64 w1) a2 (bounds_i64 w2) a3 (bounds_i64 w3) a4)

theorem proved : Rows.PulseSteadySaid :=
  OpenClaim.holds_of_wide 11 Try.f11 rfl rfl rfl rfl rfl rfl rfl ⟨rfl, rfl, rfl, rfl, rfl⟩ rfl rfl rfl rfl rfl (by kernel_rfl) Try.func11 (by kernel_rfl)
    (of_decide_eq_true (by kernel_rfl)) (by unfold Func.isWrapper; first | (rw [if_pos (by decide +kernel)]; kernel_rfl) | (rw [if_neg (by decide +kernel)]; exact ⟨rfl, rfl⟩))
    (fun os started H enc _ => lifted os started H enc)
end Go.Proofs.Ytcbnebabeekegaa.pulseSteady
