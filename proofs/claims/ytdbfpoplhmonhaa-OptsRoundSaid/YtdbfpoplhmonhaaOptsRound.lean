/- roundhouselaw4.OptsRound answers true for all numbers; no condition. -/
import Derived.Test.YtdbfpoplhmonhaaOptKn
namespace Go.Proofs.Ytdbfpoplhmonhaa.optsRound
set_option linter.unusedVariables false
set_option linter.unusedSimpArgs false
open Go.RowKit Go.ChangeShapes Go.WideShapes Go.ChangeAt

theorem far_bd (a b : Int) : -2147483648 ≤ farV a b ∧ farV a b < 2147483648 := by unfold farV; omega
set_option maxRecDepth 100000 in
set_option maxHeartbeats 4000000 in
theorem walk (W : World) (a0 : Int) (r0 : 0 ≤ a0 ∧ a0 ≤ 4294967295) (a1 : Int) (r1 : 0 ≤ a1 ∧ a1 ≤ 4294967295) (a2 : Int) (r2 : 0 ≤ a2 ∧ a2 ≤ 4294967295) :
    Calls Try.prog 10 #[.int .u32 a0, .int .u32 a1, .int .u32 a2] W fun e w' => e = .returned (.bool true) ∧ Below W.heap.size W w' := by
  have u0 : U32 a0 := by unfold U32; omega
  have u1 : U32 a1 := by unfold U32; omega
  have u2 : U32 a2 := by unfold U32; omega
  obtain ⟨r0, r0'⟩ := r0
  obtain ⟨r1, r1'⟩ := r1
  obtain ⟨r2, r2'⟩ := r2
  obtain ⟨x, hx⟩ : ∃ x, x = farV a0 a1 := ⟨_, rfl⟩
  obtain ⟨y, hy⟩ : ∃ y, y = farV a1 a2 := ⟨_, rfl⟩
  obtain ⟨z, hz⟩ : ∃ z, z = farV a2 a0 := ⟨_, rfl⟩
  have bx := far_bd a0 a1
  have by_ := far_bd a1 a2
  have bz := far_bd a2 a0
  rw [← hx] at bx
  rw [← hy] at by_
  rw [← hz] at bz
  have F1 := hid (fun w => re_i64 (far_any a0 a1 u0 u1 w) hx.symm)
  have F2 := hid (fun w => re_i64 (far_any a1 a2 u1 u2 w) hy.symm)
  have F3 := hid (fun w => re_i64 (far_any a2 a0 u2 u0 w) hz.symm)
  have F4 := hid (fun w => re_i64 (b := 0) (far_any a0 a0 u0 u0 w) (by unfold farV; simp))
  have F5 := hid (fun w => re_bool (b := false) (less_any a0 a0 u0 u0 w) (by unfold lessV farV; simp))
  have F6 := hid (fun w => re_bool (b := decide (0 < x)) (less_any a0 a1 u0 u1 w) (by unfold lessV; rw [hx]))
  have hs : (x + y + z) % 4294967296 = 0 := by rw [hx, hy, hz]; unfold farV; omega
  have ht : (x + y + z).tmod 4294967296 = 0 := by
    rw [Int.tmod_eq_emod]
    have : (4294967296 : Int) ∣ x + y + z := Int.dvd_of_emod_eq_zero hs
    rw [if_pos (.inr this)]
    omega
  have hc : (x + a0) % 4294967296 = a1 := by rw [hx]; unfold farV; omega
  have HT := hid ht
  have HC := hid hc
  have HS := hid hs
  obtain ⟨bx1, bx2⟩ := bx
  obtain ⟨by1, by2⟩ := by_
  obtain ⟨bz1, bz2⟩ := bz
  clear hx hy hz hs ht hc u0 u1 u2
  go_enter Try.func10, Try.ntmps10
  go_wp2_with fail
  refine (known_any _).mono ?_
  rintro e w ⟨rfl, hb1⟩
  have B := hid hb1
  clear hb1
  go_wp2_with fail
  refine (F1.out _).mono ?_
  rintro e w' ⟨rfl, rfl⟩
  go_wp2_with fail
  refine (F2.out _).mono ?_
  rintro e w' ⟨rfl, rfl⟩
  go_wp2_with fail
  refine (F3.out _).mono ?_
  rintro e w' ⟨rfl, rfl⟩
  have ht := HT.out
  cases hp : decide (0 < x)
  all_goals
    have F7 := F6.out
    rw [hp] at F7
    replace F7 := hid F7
    clear F6
    have hc := HC.out
    clear HT HC HS
    go_wp2_with fail
    refine (F4.out _).mono ?_
    rintro e w' ⟨rfl, rfl⟩
    go_wp2_with fail
    refine (F5.out _).mono ?_
    rintro e w' ⟨rfl, rfl⟩
    go_wp2_with fail
    refine (F7.out _).mono ?_
    rintro e w' ⟨rfl, rfl⟩
    go_wp2_with fail
    all_goals
      go_ret
      exact ⟨rfl, B.out⟩

set_option maxRecDepth 100000 in
theorem lifted (os : Os) (started : os.Started) (H : Type) (enc : TypeId × Value → H) :
    ReturnsInHanded {} Try.checked os 10 .any (Rows.optsRoundSpec.pre6 enc Try.prog Try.f10 [] false) (Rows.optsRoundSpec.post enc Try.prog Try.f10 false true false false) :=
  law_step (s := Rows.optsRoundSpec) started (by kernel_rfl) Try.func10
    (ChangeSpec.witness6 (s := Rows.optsRoundSpec) (enc := enc) (C := Try.checked) false ⟨#[], #[.int .u32 0, .int .u32 0, .int .u32 0], []⟩ 8 (by kernel_rfl) (by kernel_rfl) (by kernel_rfl) (by kernel_rfl))
    rfl (by rw [Try.params10]; decide +kernel) rfl Try.underlying4
    (fun ds h => by
      rw [Try.params10] at h
      match ds, h with
      | [_, _, _], _ => rfl)
    (fun W base args ds ps hval hA hsz => by
      rw [Try.params10] at hA hval hsz
      obtain ⟨v0, vs0, d0, ds0, p0, q0, hargs, rfl, rfl, h0, r0⟩ := trodAll_cons hA
      obtain ⟨v1, vs1, d1, ds1, p1, q1, rfl, rfl, rfl, h1, r1⟩ := trodAll_cons r0
      obtain ⟨v2, vs2, d2, ds2, p2, q2, rfl, rfl, rfl, h2, r2⟩ := trodAll_cons r1
      obtain ⟨rfl, rfl, rfl⟩ := trodAll_nil r2
      obtain rfl : args = #[v0, v1, v2] := by cases args; simp_all
      obtain ⟨a0, rfl, rfl, rfl, w0⟩ := open_int Try.underlying35 (hval 0 35 v0 rfl rfl) h0
      obtain ⟨a1, rfl, rfl, rfl, w1⟩ := open_int Try.underlying35 (hval 1 35 v1 rfl rfl) h1
      obtain ⟨a2, rfl, rfl, rfl, w2⟩ := open_int Try.underlying35 (hval 2 35 v2 rfl rfl) h2
      exact walk W a0 (bounds_u32 w0) a1 (bounds_u32 w1) a2 (bounds_u32 w2))

theorem proved : Rows.OptsRoundSaid :=
  OpenClaim.holds_of_wide 10 Try.f10 rfl rfl rfl rfl rfl rfl rfl ⟨rfl, rfl, rfl, rfl, rfl⟩ rfl rfl rfl rfl rfl (by kernel_rfl) Try.func10 (by kernel_rfl)
    (of_decide_eq_true (by kernel_rfl)) (by unfold Func.isWrapper; first | (rw [if_pos (by decide +kernel)]; kernel_rfl) | (rw [if_neg (by decide +kernel)]; exact ⟨rfl, rfl⟩))
    (fun os started H enc _ => lifted os started H enc)
end Go.Proofs.Ytdbfpoplhmonhaa.optsRound
