/- roundhouselaw4.OptsFirst answers true for all numbers; no condition. -/
import Derived.Test.YtdbfpoplhmonhaaOptKn
import Derived.Test.YtdbfpoplhmonhaaZeros
namespace Go.Proofs.Ytdbfpoplhmonhaa.optsFirst
set_option linter.unusedVariables false
set_option linter.unusedSimpArgs false
open Go.RowKit Go.ChangeShapes Go.WideShapes Go.ChangeAt

theorem first_two {g : Nat → Int} {a b c d : Int} (ha : U32 a) (hb : U32 b) (hc : U32 c) (hd : U32 d) (hg : ∀ j, j < 24 → g j = if j < 12 then mkB a b j else mkB c d (j - 12)) : stamp g 24 = (4, a, b, true) := by
  have m1 : MkAt g 0 a b := fun j hj => by rw [Nat.zero_add, hg j (by omega), if_pos hj]
  have m2 : MkAt g 12 c d := fun j hj => by rw [hg _ (by omega), if_neg (by omega), Nat.add_sub_cancel_left]
  have h := stamp_mk (pre := []) m1 (n := 24) (by omega) ha hb (fun o ho => by cases ho) (by cases walk g 24 0 <;> simp) (by rw [walk_mk m2 (by omega), walk_end g (by omega)]; rfl)
  exact h
theorem first_short {g : Nat → Int} {c d : Int} {K : Nat} (hc : U32 c) (hd : U32 d) (h0 : g 0 = 8) (h1 : g 1 = 2 + (K : Int)) (hz : ∀ j, 2 ≤ j → j < 2 + K → g j = 0) (hg : ∀ j, j < 12 → g (2 + K + j) = mkB c d j) :
    stamp g (2 + K + 12) = if K = 8 then (2, 0, 0, true) else (2 + (K : Int) + 4, c, d, true) := by
  have ho : oneO g (2 + K + 12) 0 = some (8, 0, 2 + (K : Int)) := by
    unfold oneO
    simp only [Nat.zero_add]
    rw [h0, h1, if_neg (by omega), if_neg (by omega), if_neg (by omega), if_neg (by omega)]
    rfl
  have hw := walk_more (g := g) (n := 2 + K + 12) (a := 0) (by omega) ho (by simp)
  simp only [Nat.zero_add] at hw
  rw [show (2 + (K : Int)).toNat = 2 + K from by omega] at hw
  have m2 : MkAt g (2 + K) c d := hg
  have hr : (walk g (2 + K + 12) (2 + K + 12)).isSome = true := by rw [walk_end g (Nat.le_refl _)]; rfl
  by_cases h8 : K = 8
  · subst h8
    rw [if_pos rfl]
    obtain ⟨r, hr⟩ := Option.isSome_iff_exists.1 hr
    rw [walk_mk m2 (by omega), hr] at hw
    unfold stamp
    rw [hw]
    unfold stS fst
    simp only [Option.map_some]
    rw [show (List.find? isS ((8, (0 : Int), 2 + ((8 : Nat) : Int)) :: ([(1, ((2 + 8 : Nat) : Int), 1), (1, ((2 + 8 + 1 : Nat) : Int), 1), (8, ((2 + 8 + 2 : Nat) : Int), 10)] ++ r))) = some (8, 0, 10) from rfl]
    simp only
    have n1 : num g ((0 : Int).toNat + 2) = 0 := by unfold num; simp only [Int.toNat_zero]; rw [hz _ (by omega) (by omega), hz _ (by omega) (by omega), hz _ (by omega) (by omega), hz _ (by omega) (by omega)]; rfl
    have n2 : num g ((0 : Int).toNat + 6) = 0 := by unfold num; simp only [Int.toNat_zero]; rw [hz _ (by omega) (by omega), hz _ (by omega) (by omega), hz _ (by omega) (by omega), hz _ (by omega) (by omega)]; rfl
    rw [n1, n2]
    rfl
  · rw [if_neg h8]
    have h := stamp_mk (pre := [(8, 0, 2 + (K : Int))]) m2 (n := 2 + K + 12) (by omega) hc hd (fun o ho => by
      rw [List.mem_singleton] at ho
      subst ho
      simp [isS]
      omega) (by rw [hw]; rfl) hr
    rw [h]
    congr 1

set_option maxRecDepth 100000 in
set_option maxHeartbeats 4000000 in
theorem walk (W : World) (a0 : Int) (r0 : 0 ≤ a0 ∧ a0 ≤ 4294967295) (a1 : Int) (r1 : 0 ≤ a1 ∧ a1 ≤ 4294967295) (a2 : Int) (r2 : 0 ≤ a2 ∧ a2 ≤ 4294967295) (a3 : Int) (r3 : 0 ≤ a3 ∧ a3 ≤ 4294967295) (a4 : Int) (r4 : -9223372036854775808 ≤ a4 ∧ a4 ≤ 9223372036854775807) :
    Calls Try.prog 8 #[.int .u32 a0, .int .u32 a1, .int .u32 a2, .int .u32 a3, .int .i64 a4] W fun e w' => e = .returned (.bool true) ∧ Below W.heap.size W w' := by
  have u0 : U32 a0 := by unfold U32; omega
  have u1 : U32 a1 := by unfold U32; omega
  have u2 : U32 a2 := by unfold U32; omega
  have u3 : U32 a3 := by unfold U32; omega
  have wb := wi_bd a4 20 (by omega)
  obtain ⟨n, hn⟩ : ∃ n, n = wi a4 20 := ⟨_, rfl⟩
  rw [← hn] at wb
  have WS := hid (fun w => re_i64 (within_any a4 20 w (by omega) (by omega)) hn.symm)
  obtain ⟨K, rfl⟩ := Int.eq_ofNat_of_zero_le wb.1
  have hK : K < 20 := by omega
  clear hn wb
  have U0 := hid u0
  have U1 := hid u1
  have U2 := hid u2
  have U3 := hid u3
  clear u0 u1 u2 u3 r0 r1 r2 r3
  go_enter Try.func8, Try.ntmps8
  go_wp2_with fail
  refine (known_any _).mono ?_
  rintro e w ⟨rfl, hb1⟩
  have B := hid hb1
  clear hb1
  go_wp2_with fail
  refine (WS.out _).mono ?_
  rintro e w' ⟨rfl, rfl⟩
  have k1 : (0 : Int) ≤ (K : Int) := by omega
  have k2 : (K : Int) < 20 := by omega
  have L2 := hid (Ow.lit0 (w := w) (B := w.heap.size) (g := w.heap.size) (e := 5) (k := .u8) [8, 2 + (K : Int)] (cs := #[.int .u8 8, .int .u8 (2 + (K : Int))]) (n := 2) rfl rfl rfl (Nat.le_refl _) (by simp [maxLen]))
  go_wp2_with (at_builtin; refine wp_zeros rfl (.tmp 29) (.tmp 30) rfl w.heap.size _ 2 (fun j => [8, 2 + (K : Int)].getD j 0) rfl L2.out K rfl (by omega) (by simp) ?_; intro A1 c1 w1 h1 h2 h3 h4 h5 h6; have H1 := hid h1; have BW := hid (((Below.refl w.heap.size w).alloc (Nat.le_refl _) _).trans h4); have B1 := hid (B.out.trans (BW.out.mono B.out.size)); clear h1 h2 h3 h4 h5 h6 L2)
  refine (make_any a0 a1 w1 U0.out U1.out).mono ?_
  rintro e w2 ⟨A2, c2, rfl, h2, hb2⟩
  have H2 := hid h2
  have B2 := hid hb2
  clear h2 hb2
  go_wp2_with fail
  refine (make_any a2 a3 w2 U2.out U3.out).mono ?_
  rintro e w3 ⟨A3, c3, rfl, h3, hb3⟩
  have H3 := hid (Ow.sl1 h3)
  have H2' := hid (Ow.keep H2.out hb3 (Nat.le_refl _))
  have B3 := hid (B2.out.trans (hb3.mono B2.out.size))
  clear h3 hb3 H2 B2
  go_wp2_with (at_builtin; refine wp_app_b rfl (.tmp 34) (.tmp 37) rfl w1.heap.size _ 12 (mkB a0 a1) rfl H2'.out _ 12 _ (mkB a2 a3) rfl H3.out (by omega) B3.out.size ?_; intro A4 c4 w4 h1 h2 h3 h4 h5 h6; have H4 := hid h1; have B4 := hid (B3.out.trans h4); have hc4 := hid h2; clear h1 h2 h3 h4 h5 h6 H2' H3 B3)
  have S4 := stamp_any A4 24 c4 (fun j => if j < 12 then mkB a0 a1 j else mkB a2 a3 (j - 12)) w4 (Ow.sl1 H4.out) (by intro j; dsimp only; split; exact mkB_bd U0.out U1.out _; exact mkB_bd U2.out U3.out _) (by omega) (by have := hc4.out; omega)
  rw [first_two U0.out U1.out U2.out U3.out (fun j _ => rfl)] at S4
  unfold StV at S4
  replace S4 := hid S4
  go_wp2_with fail
  refine S4.out.mono ?_
  rintro e w5 ⟨rfl, hb5⟩
  have B5 := hid (B4.out.trans (hb5.mono B4.out.size))
  clear hb5 B4 H4 hc4 S4
  go_wp2_with fail
  refine (make_any a2 a3 w5 U2.out U3.out).mono ?_
  rintro e w6 ⟨A6, c6, rfl, h6, hb6⟩
  have H6 := hid (Ow.sl1 h6)
  have B6 := hid (B5.out.trans (hb6.mono B5.out.size))
  have O6 := hid (Ow.keep H1.out B6.out (Nat.le_refl _))
  clear h6 hb6 B5 H1
  have BA := hid (B1.out.trans (B6.out.mono B1.out.size))
  go_wp2_with (at_builtin; refine wp_app_b rfl (.tmp 47) (.tmp 50) rfl w.heap.size _ (2 + K) (fun j => if j < 2 then [8, 2 + (K : Int)].getD j 0 else 0) rfl O6.out _ 12 _ (mkB a2 a3) rfl H6.out (by omega) (Nat.le_trans BW.out.size B6.out.size) ?_; intro A7 c7 w7 h1 h2 h3 h4 h5 h6; have H7 := hid h1; have B7 := hid (BA.out.trans (h4.mono B.out.size)); have hc7 := hid h2; clear h1 h2 h3 h4 h5 h6 O6 H6)
  have S7 := stamp_any A7 (2 + K + 12) c7 (fun j => if j < 2 + K then (if j < 2 then [8, 2 + (K : Int)].getD j 0 else 0) else mkB a2 a3 (j - (2 + K))) w7 (Ow.sl1 H7.out) (by
    intro j
    dsimp only
    split
    · split
      · exact lit_b [8, 2 + (K : Int)] (by intro x hx; simp at hx; omega) j
      · omega
    · exact mkB_bd U2.out U3.out _) (by omega) (by have := hc7.out; omega)
  rw [first_short (K := K) U2.out U3.out (by rw [if_pos (by omega)]; rfl) (by rw [if_pos (by omega)]; rfl) (fun j h2 hj => by rw [if_pos hj, if_neg (by omega)]) (fun j hj => by rw [if_neg (by omega), Nat.add_sub_cancel_left])] at S7
  have BF := hid B7.out
  clear H7 hc7 B7 BA B6 B1 BW U0 U1 U2 U3 WS
  by_cases h8 : K = 8
  · subst h8
    rw [if_pos rfl] at S7
    unfold StV at S7
    replace S7 := hid S7
    go_wp2_with fail
    refine S7.out.mono ?_
    rintro e w8 ⟨rfl, hb8⟩
    have B8 := hid (BF.out.trans (hb8.mono BF.out.size))
    clear hb8
    go_wp2
    go_ret
    exact ⟨rfl, B8.out⟩
  · rw [if_neg h8] at S7
    unfold StV at S7
    replace S7 := hid S7
    have t8 : ((K : Int) == 8) = false := by simp; omega
    clear h8
    go_wp2_with fail
    refine S7.out.mono ?_
    rintro e w8 ⟨rfl, hb8⟩
    have B8 := hid (BF.out.trans (hb8.mono BF.out.size))
    clear hb8
    go_wp2
    go_ret
    exact ⟨rfl, B8.out⟩

set_option maxRecDepth 100000 in
theorem lifted (os : Os) (started : os.Started) (H : Type) (enc : TypeId × Value → H) :
    ReturnsInHanded {} Try.checked os 8 .any (Rows.optsFirstSpec.pre6 enc Try.prog Try.f8 [] false) (Rows.optsFirstSpec.post enc Try.prog Try.f8 false true false false) :=
  law_step (s := Rows.optsFirstSpec) started (by kernel_rfl) Try.func8
    (ChangeSpec.witness6 (s := Rows.optsFirstSpec) (enc := enc) (C := Try.checked) false ⟨#[], #[.int .u32 0, .int .u32 0, .int .u32 0, .int .u32 0, .int .i64 0], []⟩ 8 (by kernel_rfl) (by kernel_rfl) (by kernel_rfl) (by kernel_rfl))
    rfl (by rw [Try.params8]; decide +kernel) rfl Try.underlying4
    (fun ds h => by
      rw [Try.params8] at h
      match ds, h with
      | [_, _, _, _, _], _ => rfl)
    (fun W base args ds ps hval hA hsz => by
      rw [Try.params8] at hA hval hsz
      obtain ⟨v0, vs0, d0, ds0, p0, q0, hargs, rfl, rfl, h0, r0⟩ := trodAll_cons hA
      obtain ⟨v1, vs1, d1, ds1, p1, q1, rfl, rfl, rfl, h1, r1⟩ := trodAll_cons r0
      obtain ⟨v2, vs2, d2, ds2, p2, q2, rfl, rfl, rfl, h2, r2⟩ := trodAll_cons r1
      obtain ⟨v3, vs3, d3, ds3, p3, q3, rfl, rfl, rfl, h3, r3⟩ := trodAll_cons r2
      obtain ⟨v4, vs4, d4, ds4, p4, q4, rfl, rfl, rfl, h4, r4⟩ := trodAll_cons r3
      obtain ⟨rfl, rfl, rfl⟩ := trodAll_nil r4
      obtain rfl : args = #[v0, v1, v2, v3, v4] := by cases args; simp_all
      obtain ⟨a0, rfl, rfl, rfl, w0⟩ := open_int Try.underlying35 (hval 0 35 v0 rfl rfl) h0
      obtain ⟨a1, rfl, rfl, rfl, w1⟩ := open_int Try.underlying35 (hval 1 35 v1 rfl rfl) h1
      obtain ⟨a2, rfl, rfl, rfl, w2⟩ := open_int Try.underlying35 (hval 2 35 v2 rfl rfl) h2
      obtain ⟨a3, rfl, rfl, rfl, w3⟩ := open_int Try.underlying35 (hval 3 35 v3 rfl rfl) h3
      obtain ⟨a4, rfl, rfl, rfl, w4⟩ := open_int Try.underlying3 (hval 4 3 v4 rfl rfl) h4
      exact walk W a0 (bounds_u32 w0) a1 (bounds_u32 w1) a2 (bounds_u32 w2) a3 (bounds_u32 w3) a4 (bounds_i64 w4))

theorem proved : Rows.OptsFirstSaid :=
  OpenClaim.holds_of_wide 8 Try.f8 rfl rfl rfl rfl rfl rfl rfl ⟨rfl, rfl, rfl, rfl, rfl⟩ rfl rfl rfl rfl rfl (by kernel_rfl) Try.func8 (by kernel_rfl)
    (of_decide_eq_true (by kernel_rfl)) (by unfold Func.isWrapper; first | (rw [if_pos (by decide +kernel)]; kernel_rfl) | (rw [if_neg (by decide +kernel)]; exact ⟨rfl, rfl⟩))
    (fun os started H enc _ => lifted os started H enc)
end Go.Proofs.Ytdbfpoplhmonhaa.optsFirst
