/- roundhouselaw8.PulseErrs answers true for every three numbers; no condition. -/
import Derived.Test.YtcbnebabeekegaaPulRefT
import Derived.BigQuiet
import Derived.Deep.RegionHeld3
import Derived.Deep.Cut
namespace Go.Proofs.Ytcbnebabeekegaa.pulseErrs
set_option linter.unusedVariables false
set_option linter.unusedSimpArgs false
open Go.RowKit Go.ChangeShapes Go.WideShapes Go.ChangeAt

def okB (r f e : Int) : Bool := inB r 10 && inB f 10 && inB e 1000
theorem ok_bd {r f e : Int} (h : okB r f e = true) : (1 ≤ r ∧ r ≤ 10) ∧ (1 ≤ f ∧ f ≤ 10) ∧ 1 ≤ e ∧ e ≤ 1000 := by
  unfold okB inB at h
  simp at h
  omega
theorem new_bad_ (r f e : Int) (h : okB r f e = false) (w : World) : Calls Try.prog 15 #[.int .i64 r, .int .i64 f, .int .i64 e] w fun x w' => x = .returned (.tuple #[.pointer none, .int .i64 14]) ∧ w = w' := new_bad r f e h w
theorem newt (r f e : Int) (h : okB r f e = true) (w : World) : Calls Try.prog 15 #[.int .i64 r, .int .i64 f, .int .i64 e] w fun x w' => (∃ p : Nat, x = .returned (.tuple #[.pointer (some ⟨p, 0, none⟩), .int .i64 0])) ∧ Below w.heap.size w w' := by
  obtain ⟨h1, h2, h3⟩ := ok_bd h
  exact (new_ok r f e h1 h2 h3 w).mono fun _ _ ⟨p, _, hx, _, _, _, hb⟩ => ⟨⟨p, hx⟩, hb⟩
theorem rnewt (r f e : Int) (h : okB r f e = true) (w : World) : Calls Try.prog 16 #[.int .i64 r, .int .i64 f, .int .i64 e] w fun x w' => (∃ p : Nat, x = .returned (.tuple #[.pointer (some ⟨p, 0, none⟩), .int .i64 0])) ∧ Below w.heap.size w w' := by
  obtain ⟨h1, h2, h3⟩ := ok_bd h
  exact (rnew_ok r f e h1 h2 h3 w).mono fun _ _ ⟨p, hx, _, _, hb⟩ => ⟨⟨p, hx⟩, hb⟩
theorem rnewf (r f e : Int) (h : okB r f e = false) (w : World) : Calls Try.prog 16 #[.int .i64 r, .int .i64 f, .int .i64 e] w fun x w' => x = .returned (.tuple #[.pointer none, .int .i64 14]) ∧ w = w' := by
  have hh : r < 1 ∨ 10 < r ∨ f < 1 ∨ 10 < f ∨ e < 1 ∨ 1000 < e := by
    unfold okB inB at h
    simp at h
    omega
  clear h
  cases a1 : decide (r < 1)
  · cases a2 : decide (10 < r)
    · cases a3 : decide (f < 1)
      · cases a4 : decide (10 < f)
        · cases a5 : decide (e < 1)
          · cases a6 : decide (1000 < e)
            · simp at a1 a2 a3 a4 a5 a6
              omega
            · clear hh
              go_enter Try.func16, Try.ntmps16
              go_wp2_with fail
              go_ret2
              exact ⟨rfl, rfl⟩
          · clear hh
            go_enter Try.func16, Try.ntmps16
            go_wp2_with fail
            go_ret2
            exact ⟨rfl, rfl⟩
        · clear hh
          go_enter Try.func16, Try.ntmps16
          go_wp2_with fail
          go_ret2
          exact ⟨rfl, rfl⟩
      · clear hh
        go_enter Try.func16, Try.ntmps16
        go_wp2_with fail
        go_ret2
        exact ⟨rfl, rfl⟩
    · clear hh
      go_enter Try.func16, Try.ntmps16
      go_wp2_with fail
      go_ret2
      exact ⟨rfl, rfl⟩
  · clear hh
    go_enter Try.func16, Try.ntmps16
    go_wp2_with fail
    go_ret2
    exact ⟨rfl, rfl⟩
set_option maxRecDepth 100000 in
set_option maxHeartbeats 4000000 in
theorem walk (W : World) (a0 : Int) (r_a0 : -9223372036854775808 ≤ a0 ∧ a0 ≤ 9223372036854775807) (b0 : Int) (r_b0 : -9223372036854775808 ≤ b0 ∧ b0 ≤ 9223372036854775807) (c0 : Int) (r_c0 : -9223372036854775808 ≤ c0 ∧ c0 ≤ 9223372036854775807) :
    Calls Try.prog 4 #[.int .i64 a0, .int .i64 b0, .int .i64 c0] W fun e w' => e = .returned (.bool true) ∧ Below W.heap.size W w' := by
  have K0 := wi_bd a0 7 (by omega)
  obtain ⟨i0, j0⟩ := K0
  have k0 : (wi a0 7).toNat < 7 := by omega
  have K1 := wi_bd b0 7 (by omega)
  obtain ⟨i1, j1⟩ := K1
  have k1 : (wi b0 7).toNat < 7 := by omega
  have K2 := wi_bd c0 7 (by omega)
  obtain ⟨i2, j2⟩ := K2
  have k2 : (wi c0 7).toNat < 7 := by omega
  cases o2 : okB a0 b0 c0
  · go_enter Try.func4, Try.ntmps4
    go_wp2_with fail
    refine (known_any _).mono ?_
    rintro x w ⟨rfl, hB⟩
    try go_simp
    have B := hid hB
    clear hB
    go_wp2_with fail
    go_upto_region 4 with (fail)
    have R := row_at .i64 [-1, 0, 1, 10, 11, 1000, 1001] (w := w) (t := 3) (b := w.heap.size) rfl
    have B2 := hid (B.out.alloc B.out.size (.cells ([-1, 0, 1, 10, 11, 1000, 1001].map (Value.int .i64)).toArray 3))
    simp only [List.map_cons, List.map_nil, List.length_cons, List.length_nil] at R B2
    obtain ⟨v0, hv0⟩ : ∃ v : Int, v = [-1, 0, 1, 10, 11, 1000, 1001].getD (wi a0 7).toNat 0 := ⟨_, rfl⟩
    have q0 := R.at_ (j := (wi a0 7).toNat) k0
    rw [← hv0, Nat.zero_add] at q0
    clear hv0
    obtain ⟨v1, hv1⟩ : ∃ v : Int, v = [-1, 0, 1, 10, 11, 1000, 1001].getD (wi b0 7).toNat 0 := ⟨_, rfl⟩
    have q1 := R.at_ (j := (wi b0 7).toNat) k1
    rw [← hv1, Nat.zero_add] at q1
    clear hv1
    obtain ⟨v2, hv2⟩ : ∃ v : Int, v = [-1, 0, 1, 10, 11, 1000, 1001].getD (wi c0 7).toNat 0 := ⟨_, rfl⟩
    have q2 := R.at_ (j := (wi c0 7).toNat) k2
    rw [← hv2, Nat.zero_add] at q2
    clear hv2
    clear R B
    generalize w.alloc (.cells #[.int .i64 (-1), .int .i64 0, .int .i64 1, .int .i64 10, .int .i64 11, .int .i64 1000, .int .i64 1001] 3) = w2 at *
    go_quiet ((go_at_call 14; exact q0p (within_any _ _ _ (by omega) (by omega))))
    rename_i nq
    clear q0 q1 q2
    replace B2 := hid (below_drewN B2.out nq)
    generalize w2.drewN nq = w3 at *
    cases o1 : okB v0 v1 v2
    · go_wp2_with fail
      refine (new_bad_ v0 v1 v2 (by assumption) _).mono ?_
      rintro x w' ⟨rfl, rfl⟩
      try go_simp
      go_wp2_with fail
      refine (rnewf v0 v1 v2 (by assumption) _).mono ?_
      rintro x w' ⟨rfl, rfl⟩
      try go_simp
      go_wp2_with fail
      refine (new_bad_ a0 b0 c0 (by assumption) _).mono ?_
      rintro x w' ⟨rfl, rfl⟩
      try go_simp
      go_wp2_with fail
      refine (rnewf a0 b0 c0 (by assumption) _).mono ?_
      rintro x w' ⟨rfl, rfl⟩
      try go_simp
      go_wp2_with fail
      go_ret
      exact ⟨rfl, B2.out⟩
    · go_wp2_with fail
      refine (newt v0 v1 v2 (by assumption) _).mono ?_
      rintro x w4 ⟨⟨p1, rfl⟩, hb⟩
      try go_simp
      have B4 := hid (then_ B2.out hb)
      clear hb B2
      go_wp2_with fail
      refine (rnewt v0 v1 v2 (by assumption) _).mono ?_
      rintro x w5 ⟨⟨p2, rfl⟩, hb⟩
      try go_simp
      have B5 := hid (then_ B4.out hb)
      clear hb B4
      go_wp2_with fail
      refine (new_bad_ a0 b0 c0 (by assumption) _).mono ?_
      rintro x w' ⟨rfl, rfl⟩
      try go_simp
      go_wp2_with fail
      refine (rnewf a0 b0 c0 (by assumption) _).mono ?_
      rintro x w' ⟨rfl, rfl⟩
      try go_simp
      go_wp2_with fail
      go_ret
      exact ⟨rfl, B5.out⟩
  · go_enter Try.func4, Try.ntmps4
    go_wp2_with fail
    refine (known_any _).mono ?_
    rintro x w ⟨rfl, hB⟩
    try go_simp
    have B := hid hB
    clear hB
    go_wp2_with fail
    go_upto_region 4 with (fail)
    have R := row_at .i64 [-1, 0, 1, 10, 11, 1000, 1001] (w := w) (t := 3) (b := w.heap.size) rfl
    have B2 := hid (B.out.alloc B.out.size (.cells ([-1, 0, 1, 10, 11, 1000, 1001].map (Value.int .i64)).toArray 3))
    simp only [List.map_cons, List.map_nil, List.length_cons, List.length_nil] at R B2
    obtain ⟨v0, hv0⟩ : ∃ v : Int, v = [-1, 0, 1, 10, 11, 1000, 1001].getD (wi a0 7).toNat 0 := ⟨_, rfl⟩
    have q0 := R.at_ (j := (wi a0 7).toNat) k0
    rw [← hv0, Nat.zero_add] at q0
    clear hv0
    obtain ⟨v1, hv1⟩ : ∃ v : Int, v = [-1, 0, 1, 10, 11, 1000, 1001].getD (wi b0 7).toNat 0 := ⟨_, rfl⟩
    have q1 := R.at_ (j := (wi b0 7).toNat) k1
    rw [← hv1, Nat.zero_add] at q1
    clear hv1
    obtain ⟨v2, hv2⟩ : ∃ v : Int, v = [-1, 0, 1, 10, 11, 1000, 1001].getD (wi c0 7).toNat 0 := ⟨_, rfl⟩
    have q2 := R.at_ (j := (wi c0 7).toNat) k2
    rw [← hv2, Nat.zero_add] at q2
    clear hv2
    clear R B
    generalize w.alloc (.cells #[.int .i64 (-1), .int .i64 0, .int .i64 1, .int .i64 10, .int .i64 11, .int .i64 1000, .int .i64 1001] 3) = w2 at *
    go_quiet ((go_at_call 14; exact q0p (within_any _ _ _ (by omega) (by omega))))
    rename_i nq
    clear q0 q1 q2
    replace B2 := hid (below_drewN B2.out nq)
    generalize w2.drewN nq = w3 at *
    cases o1 : okB v0 v1 v2
    · go_wp2_with fail
      refine (new_bad_ v0 v1 v2 (by assumption) _).mono ?_
      rintro x w' ⟨rfl, rfl⟩
      try go_simp
      go_wp2_with fail
      refine (rnewf v0 v1 v2 (by assumption) _).mono ?_
      rintro x w' ⟨rfl, rfl⟩
      try go_simp
      go_wp2_with fail
      refine (newt a0 b0 c0 (by assumption) _).mono ?_
      rintro x w6 ⟨⟨p3, rfl⟩, hb⟩
      try go_simp
      have B6 := hid (then_ B2.out hb)
      clear hb B2
      go_wp2_with fail
      refine (rnewt a0 b0 c0 (by assumption) _).mono ?_
      rintro x w7 ⟨⟨p4, rfl⟩, hb⟩
      try go_simp
      have B7 := hid (then_ B6.out hb)
      clear hb B6
      go_wp2_with fail
      go_ret
      exact ⟨rfl, B7.out⟩
    · go_wp2_with fail
      refine (newt v0 v1 v2 (by assumption) _).mono ?_
      rintro x w4 ⟨⟨p1, rfl⟩, hb⟩
      try go_simp
      have B4 := hid (then_ B2.out hb)
      clear hb B2
      go_wp2_with fail
      refine (rnewt v0 v1 v2 (by assumption) _).mono ?_
      rintro x w5 ⟨⟨p2, rfl⟩, hb⟩
      try go_simp
      have B5 := hid (then_ B4.out hb)
      clear hb B4
      go_wp2_with fail
      refine (newt a0 b0 c0 (by assumption) _).mono ?_
      rintro x w6 ⟨⟨p3, rfl⟩, hb⟩
      try go_simp
      have B6 := hid (then_ B5.out hb)
      clear hb B5
      go_wp2_with fail
      refine (rnewt a0 b0 c0 (by assumption) _).mono ?_
      rintro x w7 ⟨⟨p4, rfl⟩, hb⟩
      try go_simp
      have B7 := hid (then_ B6.out hb)
      clear hb B6
      go_wp2_with fail
      go_ret
      exact ⟨rfl, B7.out⟩

set_option maxRecDepth 100000 in
theorem lifted (os : Os) (started : os.Started) (H : Type) (enc : TypeId × Value → H) :
    ReturnsInHanded {} Try.checked os 4 .any (Rows.pulseErrsSpec.pre6 enc Try.prog Try.f4 [] false) (Rows.pulseErrsSpec.post enc Try.prog Try.f4 false true false false) :=
  law_step (s := Rows.pulseErrsSpec) started (by kernel_rfl) Try.func4
    (ChangeSpec.witness6 (s := Rows.pulseErrsSpec) (enc := enc) (C := Try.checked) false ⟨#[], #[.int .i64 0, .int .i64 0, .int .i64 0], []⟩ 8 (by kernel_rfl) (by kernel_rfl) (by kernel_rfl) (by kernel_rfl))
    rfl (by rw [Try.params4]; decide +kernel) rfl Try.underlying4
    (fun ds h => by
      rw [Try.params4] at h
      match ds, h with
      | [_, _, _], _ => rfl)
    (fun W base args ds ps hval hA hsz => by
      rw [Try.params4] at hA hval hsz
      obtain ⟨v0, vs0, d0, ds0, p0, q0, hargs, rfl, rfl, h0, r0⟩ := trodAll_cons hA
      obtain ⟨v1, vs1, d1, ds1, p1, q1, rfl, rfl, rfl, h1, r1⟩ := trodAll_cons r0
      obtain ⟨v2, vs2, d2, ds2, p2, q2, rfl, rfl, rfl, h2, r2⟩ := trodAll_cons r1
      obtain ⟨rfl, rfl, rfl⟩ := trodAll_nil r2
      obtain rfl : args = #[v0, v1, v2] := by cases args; simp_all
      obtain ⟨a0, rfl, rfl, rfl, w0⟩ := open_int Try.underlying3 (hval 0 3 v0 rfl rfl) h0
      obtain ⟨a1, rfl, rfl, rfl, w1⟩ := open_int Try.underlying3 (hval 1 3 v1 rfl rfl) h1
      obtain ⟨a2, rfl, rfl, rfl, w2⟩ := open_int Try.underlying3 (hval 2 3 v2 rfl rfl) h2
      exact walk W a0 (bounds_i64 w0) a1 (bounds_i64 w1) a2 (bounds_i64 w2))

theorem proved : Rows.PulseErrsSaid :=
  OpenClaim.holds_of_wide 4 Try.f4 rfl rfl rfl rfl rfl rfl rfl ⟨rfl, rfl, rfl, rfl, rfl⟩ rfl rfl rfl rfl rfl (by kernel_rfl) Try.func4 (by kernel_rfl)
    (of_decide_eq_true (by kernel_rfl)) (by unfold Func.isWrapper; first | (rw [if_pos (by decide +kernel)]; kernel_rfl) | (rw [if_neg (by decide +kernel)]; exact ⟨rfl, rfl⟩))
    (fun os started H enc _ => lifted os started H enc)
end Go.Proofs.Ytcbnebabeekegaa.pulseErrs
