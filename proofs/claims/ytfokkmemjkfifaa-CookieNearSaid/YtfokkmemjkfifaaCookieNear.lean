/- roundhouselaw5.CookieNear answers true for every two stamps; no condition. -/
import Derived.Test.YtfokkmemjkfifaaCookLaw
import Derived.Test.YtfokkmemjkfifaaStamp2
namespace Go.Proofs.Ytfokkmemjkfifaa.cookieNear
set_option linter.unusedVariables false
set_option linter.unusedSimpArgs false
open Go.RowKit Go.ChangeShapes Go.WideShapes Go.ChangeAt

set_option maxRecDepth 100000 in
set_option maxHeartbeats 8000000 in
theorem walk (W : World) (v : Int) (rv : 0 ≤ v ∧ v ≤ 4294967295) (n : Int) (rn : 0 ≤ n ∧ n ≤ 4294967295) :
    Calls Try.prog 13 #[.int .u32 v, .int .u32 n] W fun e w' => e = .returned (.bool true) ∧ Below W.heap.size W w' := by
  have hv : U32 v := ⟨by omega, by omega⟩
  have hn : U32 n := ⟨by omega, by omega⟩
  obtain ⟨hb1, hb2, hb3, hb4, hb5⟩ := back_bd v n hv hn
  have h1 := andNot255 n hn
  obtain ⟨x, hx⟩ : ∃ x, x = backV v n := ⟨_, rfl⟩
  have hxU : U32 x := by rw [hx]; unfold backV U32; omega
  have hd1 : x % 256 = 0 ∧ x / 256 % 4096 = v / 1048576 := by
    rw [hx]
    unfold backV backD near8
    split <;> omega
  have hd2 : -524288 ≤ farV (near8 n) x ∧ farV (near8 n) x < 524288 := by
    rw [hx]
    unfold farV backV backD near8
    split <;> omega
  have a1 : bits .and .u32 x 255 = x % 256 := uand32 x 8 (by omega) hxU
  have a2 : bits .and .u32 (x / 256) 4095 = x / 256 % 4096 := uand32 (x / 256) 12 (by omega) ⟨by have := hxU.1; omega, by have := hxU.2; omega⟩
  rw [hd1.1] at a1
  rw [hd1.2] at a2
  have BK := fun w => back_any v n hv hn w
  rw [← hx] at BK
  have GT := fun w => get_any v hv w
  have FR := fun w => rfar_any (near8 n) x hb1 hxU w
  obtain ⟨d, hd⟩ : ∃ d, d = farV (near8 n) x := ⟨_, rfl⟩
  rw [← hd] at FR hd2
  have c1 : decide (d ≥ -524288) = true := by simp; omega
  have c2 : decide (d < 524288) = true := by simp; omega
  obtain ⟨d1, d2⟩ := hd2
  have vb : IntKind.i64.wrap (v / 1048576) = v / 1048576 := IntWalk.i64_in _ (by omega)
  replace BK := hid BK
  replace GT := hid GT
  replace FR := hid FR
  clear hb1 hb2 hb3 hb4 hb5 hx hd1 hd hxU
  go_enter Try.func13, Try.ntmps13
  go_wp2_with fail
  refine (known_any _).mono ?_
  rintro e' w ⟨rfl, hb1⟩
  have B := hb1
  clear hb1
  go_wp2_with fail
  refine (BK.out _).mono ?_
  rintro e' w1 ⟨rfl, hb⟩
  replace B := B.trans (hb.mono B.size)
  clear hb
  go_wp2_with fail
  refine (GT.out _).mono ?_
  rintro e' w2 ⟨rfl, hb⟩
  replace B := B.trans (hb.mono B.size)
  clear hb
  go_wp2_with fail
  refine (FR.out _).mono ?_
  rintro e' w3 ⟨rfl, rfl⟩
  go_wp2
  go_ret
  exact ⟨rfl, B⟩

set_option maxRecDepth 100000 in
theorem lifted (os : Os) (started : os.Started) (H : Type) (enc : TypeId × Value → H) :
    ReturnsInHanded {} Try.checked os 13 .any (Rows.cookieNearSpec.pre6 enc Try.prog Try.f13 [] false) (Rows.cookieNearSpec.post enc Try.prog Try.f13 false true false false) :=
  law_step (s := Rows.cookieNearSpec) started (by kernel_rfl) Try.func13
    (ChangeSpec.witness6 (s := Rows.cookieNearSpec) (enc := enc) (C := Try.checked) false ⟨#[], #[.int .u32 0, .int .u32 0], []⟩ 8 (by kernel_rfl) (by kernel_rfl) (by kernel_rfl) (by kernel_rfl))
    rfl (by rw [Try.params13]; decide +kernel) rfl Try.underlying4
    (fun ds h => by
      rw [Try.params13] at h
      match ds, h with
      | [_, _], _ => rfl)
    (fun W base args ds ps hval hA hsz => by
      rw [Try.params13] at hA hval hsz
      obtain ⟨v0, vs0, d0, ds0, p0, q0, hargs, rfl, rfl, h0, r0⟩ := trodAll_cons hA
      obtain ⟨v1, vs1, d1, ds1, p1, q1, rfl, rfl, rfl, h1, r1⟩ := trodAll_cons r0
      obtain ⟨rfl, rfl, rfl⟩ := trodAll_nil r1
      obtain rfl : args = #[v0, v1] := by cases args; simp_all
      obtain ⟨a0, rfl, rfl, rfl, w0⟩ := open_int Try.underlying49 (hval 0 49 v0 rfl rfl) h0
      obtain ⟨a1, rfl, rfl, rfl, w1⟩ := open_int Try.underlying49 (hval 1 49 v1 rfl rfl) h1
      exact walk W a0 (bounds_u32 w0) a1 (bounds_u32 w1))

theorem proved : Rows.CookieNearSaid :=
  OpenClaim.holds_of_wide 13 Try.f13 rfl rfl rfl rfl rfl rfl rfl ⟨rfl, rfl, rfl, rfl, rfl⟩ rfl rfl rfl rfl rfl (by kernel_rfl) Try.func13 (by kernel_rfl)
    (of_decide_eq_true (by kernel_rfl)) (by unfold Func.isWrapper; first | (rw [if_pos (by decide +kernel)]; kernel_rfl) | (rw [if_neg (by decide +kernel)]; exact ⟨rfl, rfl⟩))
    (fun os started H enc _ => lifted os started H enc)
end Go.Proofs.Ytfokkmemjkfifaa.cookieNear
