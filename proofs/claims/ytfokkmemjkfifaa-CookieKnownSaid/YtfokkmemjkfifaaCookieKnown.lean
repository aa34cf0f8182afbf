/- roundhouselaw5.CookieKnown answers true for every number; no condition. -/
import Derived.Test.YtfokkmemjkfifaaCookLaw
import Derived.Test.YtfokkmemjkfifaaStamp2
import Derived.BigQuiet
namespace Go.Proofs.Ytfokkmemjkfifaa.cookieKnown
set_option linter.unusedVariables false
set_option linter.unusedSimpArgs false
open Go.RowKit Go.ChangeShapes Go.WideShapes Go.ChangeAt

theorem re_u32 {P : Program} {F : FuncId} {args : Array Value} {w : World} {R : World → Prop} {a b : Int} (h : Calls P F args w fun e w' => e = .returned (.int .u32 a) ∧ R w') (he : a = b) :
    Calls P F args w fun e w' => e = .returned (.int .u32 b) ∧ R w' := by subst he; exact h
theorem Ce.at32 {w : World} {b : Nat} (l : List Int) (h : Ce w b (l.map (Value.int .u32))) (j : Nat) (hj : j < l.length) : w.cell? ⟨b, j, none⟩ = some (.int .u32 (l.getD j 0)) :=
  h.2.1 j _ (by simp [List.getD, hj])

set_option maxRecDepth 100000 in
set_option maxHeartbeats 8000000 in
theorem walk (W : World) (y0 : Int) (ry0 : -9223372036854775808 ≤ y0 ∧ y0 ≤ 9223372036854775807) :
    Calls Try.prog 14 #[.int .i64 y0] W fun e w' => e = .returned (.bool true) ∧ Below W.heap.size W w' := by
  have wb := wi_bd y0 10 (by omega)
  obtain ⟨kk, hkk⟩ : ∃ kk, kk = wi y0 10 := ⟨_, rfl⟩
  rw [← hkk] at wb
  have WS := fun w => re_i64 (within_any y0 10 w (by omega) (by omega)) hkk.symm
  obtain ⟨r, hr⟩ := Int.eq_ofNat_of_zero_le wb.1
  have hr10 : r < 10 := by omega
  have WR := fun w => re_i64 (WS w) hr
  have HR := hid hr
  clear WS hkk hr wb
  replace WR := hid WR
  go_enter Try.func14, Try.ntmps14
  go_wp2_with fail
  refine (known_any _).mono ?_
  rintro e' w ⟨rfl, hb1⟩
  have B := hb1
  clear hb1
  go_wp2_with fail
  refine (re_u32 (b := 0) (put_any 0 0 ⟨by omega, by omega⟩ (by omega) _) (by decide)).mono ?_
  rintro e' p0 ⟨rfl, hb⟩
  replace B := B.trans (hb.mono B.size)
  clear hb
  go_wp2_with fail
  refine (re_u32 (b := 4294967295) (put_any 4294967295 1048575 ⟨by omega, by omega⟩ (by omega) _) (by decide)).mono ?_
  rintro e' p1 ⟨rfl, hb⟩
  replace B := B.trans (hb.mono B.size)
  clear hb
  go_wp2_with fail
  refine (re_u32 (b := 1048576) (put_any 256 0 ⟨by omega, by omega⟩ (by omega) _) (by decide)).mono ?_
  rintro e' p2 ⟨rfl, hb⟩
  replace B := B.trans (hb.mono B.size)
  clear hb
  go_wp2_with fail
  refine (re_u32 (b := 7) (put_any 1048576 7 ⟨by omega, by omega⟩ (by omega) _) (by decide)).mono ?_
  rintro e' p3 ⟨rfl, hb⟩
  replace B := B.trans (hb.mono B.size)
  clear hb
  go_wp2_with fail
  refine (re_u32 (b := 256) (back_any 1048576 0 ⟨by omega, by omega⟩ ⟨by omega, by omega⟩ _) (by decide)).mono ?_
  rintro e' q0 ⟨rfl, hb⟩
  replace B := B.trans (hb.mono B.size)
  clear hb
  go_wp2_with fail
  refine (re_u32 (b := 4294967040) (back_any 4293918720 0 ⟨by omega, by omega⟩ ⟨by omega, by omega⟩ _) (by decide)).mono ?_
  rintro e' q1 ⟨rfl, hb⟩
  replace B := B.trans (hb.mono B.size)
  clear hb
  go_wp2_with fail
  refine (re_u32 (b := 4294443008) (back_any 2147483648 0 ⟨by omega, by omega⟩ ⟨by omega, by omega⟩ _) (by decide)).mono ?_
  rintro e' q2 ⟨rfl, hb⟩
  replace B := B.trans (hb.mono B.size)
  clear hb
  go_wp2_with fail
  refine (re_u32 (b := 524032) (back_any 2146435072 0 ⟨by omega, by omega⟩ ⟨by omega, by omega⟩ _) (by decide)).mono ?_
  rintro e' q3 ⟨rfl, hb⟩
  replace B := B.trans (hb.mono B.size)
  clear hb
  go_wp2_with fail
  refine (re_u32 (b := 0) (back_any 0 4294967295 ⟨by omega, by omega⟩ ⟨by omega, by omega⟩ _) (by decide)).mono ?_
  rintro e' q4 ⟨rfl, hb⟩
  replace B := B.trans (hb.mono B.size)
  clear hb
  go_wp2_with fail
  refine (re_u32 (b := 305136896) (back_any 5242880 305419896 ⟨by omega, by omega⟩ ⟨by omega, by omega⟩ _) (by decide)).mono ?_
  rintro e' q5 ⟨rfl, hb⟩
  replace B := B.trans (hb.mono B.size)
  clear hb
  go_wp2_with fail
  have CX := Ce.made (w := q5) (l := [.int .u32 0, .int .u32 4294967295, .int .u32 1048576, .int .u32 7, .int .u32 256, .int .u32 4294967040, .int .u32 4294443008, .int .u32 524032, .int .u32 0, .int .u32 305136896]) (T := 49) (g := q5.heap.size) rfl
  replace CX := CX.alloc (.cells #[.int .u32 0, .int .u32 4294967295, .int .u32 1048576, .int .u32 7, .int .u32 256, .int .u32 4294967040, .int .u32 4294443008, .int .u32 524032, .int .u32 0, .int .u32 305136896] 49)
  have CY := Ce.made (w := q5.alloc (.cells #[.int .u32 0, .int .u32 4294967295, .int .u32 1048576, .int .u32 7, .int .u32 256, .int .u32 4294967040, .int .u32 4294443008, .int .u32 524032, .int .u32 0, .int .u32 305136896] 49)) (l := [.int .u32 0, .int .u32 4294967295, .int .u32 1048576, .int .u32 7, .int .u32 256, .int .u32 4294967040, .int .u32 4294443008, .int .u32 524032, .int .u32 0, .int .u32 305136896]) (T := 49) (g := q5.heap.size + 1) (by simp)
  replace B := B.alloc B.size (.cells #[.int .u32 0, .int .u32 4294967295, .int .u32 1048576, .int .u32 7, .int .u32 256, .int .u32 4294967040, .int .u32 4294443008, .int .u32 524032, .int .u32 0, .int .u32 305136896] 49)
  replace B := B.alloc B.size (.cells #[.int .u32 0, .int .u32 4294967295, .int .u32 1048576, .int .u32 7, .int .u32 256, .int .u32 4294967040, .int .u32 4294443008, .int .u32 524032, .int .u32 0, .int .u32 305136896] 49)
  generalize (q5.alloc (.cells #[.int .u32 0, .int .u32 4294967295, .int .u32 1048576, .int .u32 7, .int .u32 256, .int .u32 4294967040, .int .u32 4294443008, .int .u32 524032, .int .u32 0, .int .u32 305136896] 49)).alloc (.cells #[.int .u32 0, .int .u32 4294967295, .int .u32 1048576, .int .u32 7, .int .u32 256, .int .u32 4294967040, .int .u32 4294443008, .int .u32 524032, .int .u32 0, .int .u32 305136896] 49) = w2 at *
  generalize q5.heap.size + 1 = Y at *
  generalize q5.heap.size = X at *
  refine (WR.out _).mono ?_
  rintro e' w3 ⟨rfl, rfl⟩
  have c1 := Ce.at32 [0, 4294967295, 1048576, 7, 256, 4294967040, 4294443008, 524032, 0, 305136896] CX r hr10
  have c2 := Ce.at32 [0, 4294967295, 1048576, 7, 256, 4294967040, 4294443008, 524032, 0, 305136896] CY r hr10
  generalize [0, 4294967295, 1048576, 7, 256, 4294967040, 4294443008, 524032, 0, 305136896].getD r 0 = z at *
  have i1 : (r : Int) < 10 := by omega
  have i0 : (0 : Int) ≤ r := by omega
  clear CX CY
  go_wp2_with fail
  go_quiet (fail)
  go_wp2
  go_ret
  exact ⟨rfl, below_drewN B _⟩

set_option maxRecDepth 100000 in
theorem lifted (os : Os) (started : os.Started) (H : Type) (enc : TypeId × Value → H) :
    ReturnsInHanded {} Try.checked os 14 .any (Rows.cookieKnownSpec.pre6 enc Try.prog Try.f14 [] false) (Rows.cookieKnownSpec.post enc Try.prog Try.f14 false true false false) :=
  law_step (s := Rows.cookieKnownSpec) started (by kernel_rfl) Try.func14
    (ChangeSpec.witness6 (s := Rows.cookieKnownSpec) (enc := enc) (C := Try.checked) false ⟨#[], #[.int .i64 0], []⟩ 8 (by kernel_rfl) (by kernel_rfl) (by kernel_rfl) (by kernel_rfl))
    rfl (by rw [Try.params14]; decide +kernel) rfl Try.underlying4
    (fun ds h => by
      rw [Try.params14] at h
      match ds, h with
      | [_], _ => rfl)
    (fun W base args ds ps hval hA hsz => by
      rw [Try.params14] at hA hval hsz
      obtain ⟨v0, vs0, d0, ds0, p0, q0, hargs, rfl, rfl, h0, r0⟩ := trodAll_cons hA
      obtain ⟨rfl, rfl, rfl⟩ := trodAll_nil r0
      obtain rfl : args = #[v0] := by cases args; simp_all
      obtain ⟨a0, rfl, rfl, rfl, w0⟩ := open_int Try.underlying3 (hval 0 3 v0 rfl rfl) h0
      exact walk W a0 (bounds_i64 w0))

theorem proved : Rows.CookieKnownSaid :=
  OpenClaim.holds_of_wide 14 Try.f14 rfl rfl rfl rfl rfl rfl rfl ⟨rfl, rfl, rfl, rfl, rfl⟩ rfl rfl rfl rfl rfl (by kernel_rfl) Try.func14 (by kernel_rfl)
    (of_decide_eq_true (by kernel_rfl)) (by unfold Func.isWrapper; first | (rw [if_pos (by decide +kernel)]; kernel_rfl) | (rw [if_neg (by decide +kernel)]; exact ⟨rfl, rfl⟩))
    (fun os started H enc _ => lifted os started H enc)
end Go.Proofs.Ytfokkmemjkfifaa.cookieKnown
