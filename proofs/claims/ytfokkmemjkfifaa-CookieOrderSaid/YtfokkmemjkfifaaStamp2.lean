/- Stamps brought back, ahead of each other. -/
import Derived.Test.YtfokkmemjkfifaaStamp1
namespace Go.Proofs.Ytfokkmemjkfifaa
set_option linter.unusedVariables false
set_option linter.unusedSimpArgs false
open Go.RowKit Go.ChangeShapes Go.WideShapes Go.ChangeAt

theorem and_high (k : Nat) (hk : k < 2 ^ 32) : k &&& 4294967040 = k / 256 * 256 := by
  have e1 : (4294967040 : Nat) = (2 ^ 24 - 1) <<< 8 := by decide
  have e2 : k / 256 * 256 = (k >>> 8) <<< 8 := by rw [Nat.shiftLeft_eq, Nat.shiftRight_eq_div_pow]
  rw [e1, e2]
  apply Nat.eq_of_testBit_eq
  intro i
  rw [Nat.testBit_and, Nat.testBit_shiftLeft, Nat.testBit_shiftLeft, Nat.testBit_two_pow_sub_one, Nat.testBit_shiftRight]
  by_cases h8 : 8 ≤ i
  · rw [show 8 + (i - 8) = i from by omega]
    by_cases h32 : i < 32
    · simp [h8, show i - 8 < 24 from by omega]
    · have : k.testBit i = false := Nat.testBit_lt_two_pow (Nat.lt_of_lt_of_le hk (Nat.pow_le_pow_right (by omega) (by omega)))
      simp [this]
  · simp [h8]
theorem andNot255 (n : Int) (h : U32 n) : bits .andNot .u32 n 255 = near8 n := by
  obtain ⟨k, rfl⟩ := Int.eq_ofNat_of_zero_le h.1
  have hk : k < 2 ^ 32 := by have := h.2; omega
  show IntKind.u32.wrap ((BitVec.ofInt 32 (k : Int) &&& ~~~ BitVec.ofInt 32 255).toNat : Int) = _
  rw [BitVec.toNat_and, BitVec.ofInt_natCast, BitVec.toNat_ofNat, Nat.mod_eq_of_lt hk, show (~~~ BitVec.ofInt 32 255).toNat = 4294967040 from by decide, and_high k hk, IntKind.wrap_u32]
  unfold near8
  omega
def farV (a b : Int) : Int := (b - a + 2147483648) % 4294967296 - 2147483648
theorem far_any (a b : Int) (ha : U32 a) (hb : U32 b) (w : World) : Calls Try.prog 56 #[.int .u32 a, .int .u32 b] w fun e w' => e = .returned (.int .i64 (farV a b)) ∧ w = w' := by
  obtain ⟨ha1, ha2⟩ := ha
  obtain ⟨hb1, hb2⟩ := hb
  go_enter Try.func56, Try.ntmps56
  go_wp2
  go_ret
  refine ⟨ret_i64 ?_, rfl⟩
  unfold farV
  unfold wrap64 wrap32
  omega
theorem rfar_any (a b : Int) (ha : U32 a) (hb : U32 b) (w : World) : Calls Try.prog 39 #[.int .u32 a, .int .u32 b] w fun e w' => e = .returned (.int .i64 (farV a b)) ∧ w = w' := by
  obtain ⟨ha1, ha2⟩ := ha
  obtain ⟨hb1, hb2⟩ := hb
  go_enter Try.func39, Try.ntmps39
  go_wp2
  go_ret
  refine ⟨ret_i64 ?_, rfl⟩
  unfold farV
  unfold wrap64 wrap32
  omega
theorem rless_any (a b : Int) (ha : U32 a) (hb : U32 b) (w : World) : Calls Try.prog 36 #[.int .u32 a, .int .u32 b] w fun e w' => e = .returned (.bool (decide (farV a b > 0))) ∧ w = w' := by
  go_enter Try.func36, Try.ntmps36
  go_wp2_with fail
  refine (rfar_any a b ha hb _).mono ?_
  rintro e w' ⟨rfl, rfl⟩
  go_wp2
  all_goals go_ret
  all_goals exact ⟨ret_bool (by simp; try omega), rfl⟩
theorem rget_any (v : Int) (hv : U32 v) (w : World) : Calls Try.prog 32 #[.int .u32 v] w fun e w' => e = .returned (.tuple #[.int .i64 (v / 1048576), .int .i64 (v % 1048576)]) ∧ w = w' := by
  have h1 : bits .and .u32 v 1048575 = v % 1048576 := uand32 v 20 (by omega) hv
  obtain ⟨hv1, hv2⟩ := hv
  have r1 : IntKind.i64.wrap (v / 1048576) = v / 1048576 := IntWalk.i64_in _ (by omega)
  have r2 : IntKind.i64.wrap (v % 1048576) = v % 1048576 := IntWalk.i64_in _ (by omega)
  go_enter Try.func32, Try.ntmps32
  go_wp2
  refine bodyPost_ret (by simp [results, Try.results32, go_sem]) rfl ⟨rfl, rfl⟩
theorem rput_any (v c : Int) (hv : U32 v) (hc : 0 ≤ c ∧ c < 1048576) (w : World) : Calls Try.prog 33 #[.int .u32 v, .int .i64 c] w fun e w' => e = .returned (.int .u32 (putV v c)) ∧ w = w' := by
  have h1 : bits .and .u32 (v / 256) 4095 = v / 256 % 4096 := uand32 (v / 256) 12 (by omega) ⟨by have := hv.1; omega, by have := hv.2; omega⟩
  have q1 : bits .or .u32 (v / 256 % 4096 * 1048576) c = putV v c := or_u32 (v / 256 % 4096) c (by omega) hc
  obtain ⟨hc1, hc2⟩ := hc
  have q4 : IntKind.u32.wrap c = c := by rw [IntKind.wrap_u32]; omega
  have q5 : IntKind.u32.wrap (v / 256 % 4096 * 1048576) = v / 256 % 4096 * 1048576 := by rw [IntKind.wrap_u32]; omega
  go_enter Try.func33, Try.ntmps33
  go_wp2
  go_ret
  exact ⟨rfl, rfl⟩
theorem back_bd (v n : Int) (hv : U32 v) (hn : U32 n) : U32 (near8 n) ∧ U32 (v / 1048576 * 256) ∧ farV (near8 n) (v / 1048576 * 256) % 1048576 = backD v n ∧ 0 ≤ backD v n ∧ backD v n < 1048576 := by
  obtain ⟨hv1, hv2⟩ := hv
  obtain ⟨hn1, hn2⟩ := hn
  unfold U32 farV backD near8
  omega
theorem back_any (v n : Int) (hv : U32 v) (hn : U32 n) (w : World) : Calls Try.prog 34 #[.int .u32 v, .int .u32 n] w fun e w' => e = .returned (.int .u32 (backV v n)) ∧ Below w.heap.size w w' := by
  obtain ⟨hb1, hb2, hb3, hb4, hb5⟩ := back_bd v n hv hn
  have h1 := andNot255 n hn
  have h2 := mand20 (farV (near8 n) (v / 1048576 * 256))
  rw [hb3] at h2
  have hfin : Hid ((near8 n + (if backD v n < 524288 then backD v n else backD v n - 1048576)) % 4294967296 = backV v n) := rfl
  have hg := fun w => get_any v hv w
  have hfr := fun w => far_any _ _ hb1 hb2 w
  obtain ⟨hv1, hv2⟩ := hv
  have r1 : IntKind.u32.wrap (v / 1048576) = v / 1048576 := by rw [IntKind.wrap_u32]; omega
  have r2 : IntKind.u32.wrap (v / 1048576 * 256) = v / 1048576 * 256 := by rw [IntKind.wrap_u32]; omega
  generalize backD v n = d at *
  generalize near8 n = b at *
  obtain ⟨hb11, hb12⟩ := hb1
  replace hg := hid hg
  replace hfr := hid hfr
  clear hb2 hb3 hn
  by_cases hd : d < 524288
  · rw [if_pos hd] at hfin
    have i1 : ¬ d ≥ 524288 := by omega
    go_enter Try.func34, Try.ntmps34
    go_wp2_with fail
    refine (hg.out _).mono ?_
    rintro e w2 ⟨rfl, hbw⟩
    go_wp2_with fail
    refine (hfr.out _).mono ?_
    rintro e w3 ⟨rfl, rfl⟩
    go_wp2
    go_ret
    refine ⟨ret_u32 (Eq.trans ?_ hfin.out), hbw⟩
    all_goals (first | omega | (simp only [IntKind.wrap_u32]; omega) | trace_state)
  · rw [if_neg hd] at hfin
    have i1 : d ≥ 524288 := by omega
    go_enter Try.func34, Try.ntmps34
    go_wp2_with fail
    refine (hg.out _).mono ?_
    rintro e w2 ⟨rfl, hbw⟩
    go_wp2_with fail
    refine (hfr.out _).mono ?_
    rintro e w3 ⟨rfl, rfl⟩
    go_wp2
    go_ret
    refine ⟨ret_u32 (Eq.trans ?_ hfin.out), hbw⟩
    all_goals (first | omega | (simp only [IntKind.wrap_u32]; omega) | trace_state)
theorem rback_any (v n : Int) (hv : U32 v) (hn : U32 n) (w : World) : Calls Try.prog 35 #[.int .u32 v, .int .u32 n] w fun e w' => e = .returned (.int .u32 (backV v n)) ∧ w = w' := by
  obtain ⟨hb1, hb2, hb3, hb4, hb5⟩ := back_bd v n hv hn
  have h1 := andNot255 n hn
  have h2 : bits .and .u32 ((v / 1048576 * 256 - near8 n) % 4294967296) 1048575 = backD v n := by
    rw [show (1048575 : Int) = 2 ^ 20 - 1 from rfl, uand32 _ 20 (by omega) (by unfold U32; omega)]
    unfold backD
    show _ % 1048576 = _
    omega
  have hfin : Hid ((near8 n + (if backD v n < 524288 then backD v n else backD v n - 1048576)) % 4294967296 = backV v n) := rfl
  have hg := fun w => rget_any v hv w
  obtain ⟨hv1, hv2⟩ := hv
  have r1 : IntKind.u32.wrap (v / 1048576) = v / 1048576 := by rw [IntKind.wrap_u32]; omega
  have r2 : IntKind.u32.wrap (v / 1048576 * 256) = v / 1048576 * 256 := by rw [IntKind.wrap_u32]; omega
  generalize backD v n = d at *
  generalize near8 n = b at *
  have hU : U32 ((b + d) % 4294967296) := by unfold U32; omega
  have hfr := fun w => rfar_any b ((b + d) % 4294967296) hb1 hU w
  have hfv : farV b ((b + d) % 4294967296) = d := by
    obtain ⟨hb11, hb12⟩ := hb1
    unfold farV
    omega
  rw [hfv] at hfr
  obtain ⟨hb11, hb12⟩ := hb1
  replace hg := hid hg
  replace hfr := hid hfr
  clear hb2 hb3 hn hfv
  by_cases hd : d < 524288
  · rw [if_pos hd] at hfin
    have i1 : ¬ d ≥ 524288 := by omega
    go_enter Try.func35, Try.ntmps35
    go_wp2_with fail
    refine (hg.out _).mono ?_
    rintro e w2 ⟨rfl, rfl⟩
    go_wp2_with fail
    refine (hfr.out _).mono ?_
    rintro e w3 ⟨rfl, rfl⟩
    go_wp2
    go_ret
    refine ⟨ret_u32 (Eq.trans ?_ hfin.out), rfl⟩
    all_goals (first | omega | (simp only [IntKind.wrap_u32]; omega) | trace_state)
  · rw [if_neg hd] at hfin
    have i1 : d ≥ 524288 := by omega
    go_enter Try.func35, Try.ntmps35
    go_wp2_with fail
    refine (hg.out _).mono ?_
    rintro e w2 ⟨rfl, rfl⟩
    go_wp2_with fail
    refine (hfr.out _).mono ?_
    rintro e w3 ⟨rfl, rfl⟩
    go_wp2
    go_ret
    refine ⟨ret_u32 (Eq.trans ?_ hfin.out), rfl⟩
    all_goals (first | omega | (simp only [IntKind.wrap_u32]; omega) | trace_state)

end Go.Proofs.Ytfokkmemjkfifaa
