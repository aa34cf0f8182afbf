/- roundhouselaw8.PulseMixed answers true for every length, slot, number; no condition. -/
import Derived.Test.YtcbnebabeekegaaPulTwo
import Derived.BigQuiet
import Derived.Deep.RegionHeld3
import Derived.Deep.Cut
namespace Go.Proofs.Ytcbnebabeekegaa.pulseMixed
set_option linter.unusedVariables false
set_option linter.unusedSimpArgs false
open Go.RowKit Go.ChangeShapes Go.WideShapes Go.ChangeAt

set_option maxRecDepth 100000 in
set_option maxHeartbeats 4000000 in
theorem walk (W : World) (e0 : Int) (r_e0 : -9223372036854775808 ≤ e0 ∧ e0 ≤ 9223372036854775807) (s0 : Int) (r_s0 : -9223372036854775808 ≤ s0 ∧ s0 ≤ 9223372036854775807) (n0 : Int) (r_n0 : -9223372036854775808 ≤ n0 ∧ n0 ≤ 9223372036854775807) :
    Calls Try.prog 12 #[.int .i64 e0, .int .i64 s0, .int .i64 n0] W fun e w' => e = .returned (.bool true) ∧ Below W.heap.size W w' := by
  obtain ⟨c, hc⟩ : ∃ x, x = wi e0 9 := ⟨_, rfl⟩
  have bc := wi_bd e0 9 (by omega)
  rw [← hc] at bc
  have Wc := hid (fun w => re_i64 (within_any e0 9 w (by omega) (by omega)) hc.symm)
  clear hc
  obtain ⟨bc1, bc2⟩ := bc
  obtain ⟨s, hs⟩ : ∃ x, x = wi s0 64 := ⟨_, rfl⟩
  have bs := wi_bd s0 64 (by omega)
  rw [← hs] at bs
  have Ws := hid (fun w => re_i64 (within_any s0 64 w (by omega) (by omega)) hs.symm)
  clear hs
  obtain ⟨bs1, bs2⟩ := bs
  obtain ⟨d, hd⟩ : ∃ x, x = wi n0 60 := ⟨_, rfl⟩
  have bd := wi_bd n0 60 (by omega)
  rw [← hd] at bd
  have Wd := hid (fun w => re_i64 (within_any n0 60 w (by omega) (by omega)) hd.symm)
  clear hd
  obtain ⟨bd1, bd2⟩ := bd
  have hs : I64 s := by unfold I64; omega
  have hsl : isSl s = true := by unfold isSl; simp; omega
  replace hsl := hid hsl
  have q1 : IntKind.i64.wrap (2 + c) = 2 + c := IntWalk.i64_in _ (by omega)
  go_enter Try.func12, Try.ntmps12
  go_wp2_with fail
  refine (known_any _).mono ?_
  rintro x w ⟨rfl, hB⟩
  try go_simp
  have B := hid hB
  clear hB
  go_wp2_with fail
  refine (Wc.out _).mono ?_
  rintro x w' ⟨rfl, rfl⟩
  try go_simp
  go_wp2_with fail
  refine (new_ok (2 + c) 1 1 (by omega) (by omega) (by omega) _).mono ?_
  rintro x w1 ⟨p, b, rfl, hP, hp, hb, hB1⟩
  try go_simp
  have P1 := hid hP
  have B1 := hid (B.out.trans (hB1.mono B.out.size))
  have hb' : W.heap.size ≤ b := Nat.le_trans B.out.size hb
  have lp := hP.1.1
  have lb := hP.2.1.lt
  clear hP hB1 B
  go_wp2_with fail
  refine (rnew_ok (2 + c) 1 1 (by omega) (by omega) (by omega) _).mono ?_
  rintro x w2 ⟨q, rfl, hQ, hq, hB2⟩
  try go_simp
  have P2 := hid (P1.out.below hB2)
  have Q2 := hid hQ
  have B2 := hid (B1.out.trans (hB2.mono B1.out.size))
  have hq' : W.heap.size ≤ q := Nat.le_trans B1.out.size hq
  have d1 : p ≠ q := by omega
  have d2 : b ≠ q := by omega
  clear hQ hB2 P1 B1
  go_wp2_with fail
  refine (Ws.out _).mono ?_
  rintro x w' ⟨rfl, rfl⟩
  try go_simp
  go_wp2_with fail
  go_loopw [13] (fun i wr => ∃ (k n : Nat) (M : Int → Option Life) (L : Int → RS), (k : Int) ≤ d ∧ n ≤ k ∧ i = .int .i64 (k : Int) ∧ PulseAt wr p b n (2 + c) 1 1 M ∧ RefAt wr q (2 + c) 1 1 L ∧ Rel M L k k ∧ (∃ wh lo la, cur M s = (false, la, wh, lo) ∧ 0 ≤ lo ∧ ((k : Int) % 2 = 0 → wh = false)) ∧ Below W.heap.size W wr) (fun i _ => d.toNat - (intOf i).toNat)
  case atStart => exact ⟨0, 0, _, _, by omega, by omega, rfl, P2.out, Q2.out, rel_0, ⟨false, 0, 0, rfl, by decide, fun _ => rfl⟩, B2.out⟩
  case round =>
    clear P2 Q2 B2
    obtain ⟨k, n, M, L, hk, hn, rfl, hP, hQ, hR, ⟨wh, lo, la, hcur, h0, hev⟩, hB⟩ := hrel
    replace hP := hid hP
    replace hQ := hid hQ
    replace hR := hid hR
    replace hB := hid hB
    replace hcur := hid hcur
    by_cases hlt : (k : Int) < d
    · have k0 : (0 : Int) ≤ k := by omega
      have HE := hid hev
      clear hev
      cases he : ((k : Int) % 2 == 0)
      · have hv : tv (2 + c) 1 M s k false = 0 := by unfold tv; rw [if_pos hsl.out, hcur.out]; exact (st_ff _ _ _ _ _ _).1
        have hl : cur (tM (2 + c) 1 M s k false) s = (false, (k : Int), false, rowUp wh lo false) := by unfold tM; rw [if_pos hsl.out, hcur.out, cur_upd]; exact (st_ff _ _ _ _ _ _).2
        have T1 := told2 hP.out hR.out s k false (by omega) (by omega)
        rw [hv] at T1
        replace T1 := hid T1
        have T2 := fun w (hQ : RefAt w q (2 + c) 1 1 L) => rtold2 hQ hR.out (by omega) (by omega) k0 s false (by omega)
        simp only [hv] at T2
        replace T2 := hid T2
        have R2 := hid (rel_up (rel2_told hR.out s (2 + c) 1 (by omega) (by omega) k0 false) (show (k : Int) ≤ ((k + 1 : Nat) : Int) by omega) (Nat.le_refl _))
        have HEV : Hid (∃ wh' lo' la', cur (tM (2 + c) 1 M s k false) s = (false, la', wh', lo') ∧ 0 ≤ lo' ∧ (((k + 1 : Nat) : Int) % 2 = 0 → wh' = false)) := hid ⟨_, _, _, hl, by unfold rowUp; split <;> omega, fun _ => rfl⟩
        have HU : Hid ((cur (tM (2 + c) 1 M s k false) s).1 = false) := hid (by rw [hl])
        clear hv hl
        go_wp2_with fail
        refine (Wd.out _).mono ?_
        rintro x w' ⟨rfl, rfl⟩
        try go_simp
        go_wp2_with fail
        refine (T1.out).mono ?_
        rintro x w3 ⟨rfl, ⟨n', hn', hP3⟩, hg⟩
        try go_simp
        have P3 := hid hP3
        have Q3 := hid (hQ.out.grown hg (fun e => d2 (by injection e)))
        have B3 := hid (below_step hB.out hg hb' (Nat.le_refl _))
        clear hP3 hg hP hQ hB T1
        go_wp2_with fail
        refine (T2.out _ Q3.out).mono ?_
        rintro x w4 ⟨rfl, hQ4, hg⟩
        try go_simp
        have Q4 := hid hQ4
        have P4 := hid (P3.out.other hg d1 d2)
        have B4 := hid (below_step B3.out hg hq' (Nat.le_refl _))
        clear hQ4 hg P3 Q3 B3 T2
        go_wp2_with fail
        refine (up_ok P4.out s false hs HU.out).mono ?_
        rintro x w' ⟨rfl, rfl⟩
        try go_simp
        go_wp2_with fail
        go_roundw
        case rel => exact ⟨k + 1, n', _, _, by omega, by omega, by go_num, P4.out, Q4.out, R2.out, HEV.out, B4.out⟩
        case measure => simp [intOf]; omega
      · obtain rfl : wh = false := HE.out (by simpa using he)
        have hv : tv (2 + c) 1 M s k true = 0 := by unfold tv; rw [if_pos hsl.out, hcur.out]; exact (st_ft (2 + c) 1 la lo k false (by show (1 : Int) < 2 + c; omega)).1
        have hl : cur (tM (2 + c) 1 M s k true) s = (false, (k : Int), true, rowUp false lo true) := by unfold tM; rw [if_pos hsl.out, hcur.out, cur_upd]; exact (st_ft (2 + c) 1 la lo k false (by show (1 : Int) < 2 + c; omega)).2
        have T1 := told2 hP.out hR.out s k true (by omega) (by omega)
        rw [hv] at T1
        replace T1 := hid T1
        have T2 := fun w (hQ : RefAt w q (2 + c) 1 1 L) => rtold2 hQ hR.out (by omega) (by omega) k0 s true (by omega)
        simp only [hv] at T2
        replace T2 := hid T2
        have R2 := hid (rel_up (rel2_told hR.out s (2 + c) 1 (by omega) (by omega) k0 true) (show (k : Int) ≤ ((k + 1 : Nat) : Int) by omega) (Nat.le_refl _))
        have HEV : Hid (∃ wh' lo' la', cur (tM (2 + c) 1 M s k true) s = (false, la', wh', lo') ∧ 0 ≤ lo' ∧ (((k + 1 : Nat) : Int) % 2 = 0 → wh' = false)) := hid ⟨_, _, _, hl, by unfold rowUp; split <;> omega, fun h => by have := (beq_iff_eq.1 he); omega⟩
        have HU : Hid ((cur (tM (2 + c) 1 M s k true) s).1 = false) := hid (by rw [hl])
        clear hv hl
        go_wp2_with fail
        refine (Wd.out _).mono ?_
        rintro x w' ⟨rfl, rfl⟩
        try go_simp
        go_wp2_with fail
        refine (T1.out).mono ?_
        rintro x w3 ⟨rfl, ⟨n', hn', hP3⟩, hg⟩
        try go_simp
        have P3 := hid hP3
        have Q3 := hid (hQ.out.grown hg (fun e => d2 (by injection e)))
        have B3 := hid (below_step hB.out hg hb' (Nat.le_refl _))
        clear hP3 hg hP hQ hB T1
        go_wp2_with fail
        refine (T2.out _ Q3.out).mono ?_
        rintro x w4 ⟨rfl, hQ4, hg⟩
        try go_simp
        have Q4 := hid hQ4
        have P4 := hid (P3.out.other hg d1 d2)
        have B4 := hid (below_step B3.out hg hq' (Nat.le_refl _))
        clear hQ4 hg P3 Q3 B3 T2
        go_wp2_with fail
        refine (up_ok P4.out s false hs HU.out).mono ?_
        rintro x w' ⟨rfl, rfl⟩
        try go_simp
        go_wp2_with fail
        go_roundw
        case rel => exact ⟨k + 1, n', _, _, by omega, by omega, by go_num, P4.out, Q4.out, R2.out, HEV.out, B4.out⟩
        case measure => simp [intOf]; omega
    · clear hev
      go_wp2_with fail
      refine (Wd.out _).mono ?_
      rintro x w' ⟨rfl, rfl⟩
      try go_simp
      go_wp2_with fail
      go_ret
      exact ⟨rfl, hB.out⟩

set_option maxRecDepth 100000 in
theorem lifted (os : Os) (started : os.Started) (H : Type) (enc : TypeId × Value → H) :
    ReturnsInHanded {} Try.checked os 12 .any (Rows.pulseMixedSpec.pre6 enc Try.prog Try.f12 [] false) (Rows.pulseMixedSpec.post enc Try.prog Try.f12 false true false false) :=
  law_step (s := Rows.pulseMixedSpec) started (by kernel_rfl) Try.func12
    (ChangeSpec.witness6 (s := Rows.pulseMixedSpec) (enc := enc) (C := Try.checked) false ⟨#[], #[.int .i64 0, .int .i64 0, .int .i64 0], []⟩ 8 (by kernel_rfl) (by kernel_rfl) (by kernel_rfl) (by kernel_rfl))
    rfl (by rw [Try.params12]; decide +kernel) rfl Try.underlying4
    (fun ds h => by
      rw [Try.params12] at h
      match ds, h with
      | [_, _, _], _ => rfl)
    (fun W base args ds ps hval hA hsz => by
      rw [Try.params12] at hA hval hsz
      obtain ⟨v0, vs0, d0, ds0, p0, q0, hargs, rfl, rfl, h0, r0⟩ := trodAll_cons hA
      obtain ⟨v1, vs1, d1, ds1, p1, q1, rfl, rfl, rfl, h1, r1⟩ := trodAll_cons r0
      obtain ⟨v2, vs2, d2, ds2, p2, q2, rfl, rfl, rfl, h2, r2⟩ := trodAll_cons r1
      obtain ⟨rfl, rfl, rfl⟩ := trodAll_nil r2
      obtain rfl : args = #[v0, v1, v2] := by cases args; simp_all
      obtain ⟨a0, rfl, rfl, rfl, w0⟩ := open_int Try.underlying3 (hval 0 3 v0 rfl rfl) h0
      obtain ⟨a1, rfl, rfl, rfl, w1⟩ := open_int Try.underlying3 (hval 1 3 v1 rfl rfl) h1
      obtain ⟨a2, rfl, rfl, rfl, w2⟩ := open_int Try.underlying3 (hval 2 3 v2 rfl rfl) h2
      exact walk W a0 (bounds_i64 w0) a1 (bounds_i64 w1) a2 (bounds_i64 w2))

theorem proved : Rows.PulseMixedSaid :=
  OpenClaim.holds_of_wide 12 Try.f12 rfl rfl rfl rfl rfl rfl rfl ⟨rfl, rfl, rfl, rfl, rfl⟩ rfl rfl rfl rfl rfl (by kernel_rfl) Try.func12 (by kernel_rfl)
    (of_decide_eq_true (by kernel_rfl)) (by unfold Func.isWrapper; first | (rw [if_pos (by decide +kernel)]; kernel_rfl) | (rw [if_neg (by decide +kernel)]; exact ⟨rfl, rfl⟩))
    (fun os started H enc _ => lifted os started H enc)
end Go.Proofs.Ytcbnebabeekegaa.pulseMixed
