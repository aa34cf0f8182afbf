/- roundhouselaw12.YardTwice answers true for every row, any two numbers; no condition. -/
import Derived.Test.YtnnilkdlpampdaaYdKnown
import Derived.BigQuiet
import Derived.Deep.RegionHeld3
import Derived.Deep.Cut
import Derived.Deep.CutRange
import Derived.IntWalk
namespace Go.Proofs.Ytnnilkdlpampdaa.yardTwice
set_option linter.unusedVariables false
set_option linter.unusedSimpArgs false
open Go.RowKit Go.ChangeShapes Go.WideShapes Go.ChangeAt
theorem pure {p : Pl} {u i : Nat} (GP : good p) (hv : p.v ≤ 30) (hu : 1 ≤ u ∧ u ≤ 4) (hi : i < u) : ∃ y1 y2 y3 y4 : Yd, tickY (newY p u) = y1 ∧ delY y1 i true = y2 ∧ delY y2 i true = y3 ∧ delY y3 i false = y4 ∧ y1.ns.length = u ∧ y2.ns.length = u + 1 ∧ y3.ns.length = u + 2 ∧ y4.ns.length = u + 2 ∧ (Fit (newY p u) 30 ∧ Fit y1 31 ∧ Fit y2 31 ∧ Fit y3 31) ∧ y4.uf i = ⟨0, p, true⟩ ∧ y4.h.un = u := by
  have h0 := GP.v
  have f0 : Fit (newY p u) 30 := Fit.new GP ⟨hu.1, by omega⟩ hv
  have f1 : Fit (tickY (newY p u)) 31 := f0.tick
  have e1 := tick_new (p := p) (u := u) h0
  have e2 := del_w (y := tickY (newY p u)) (j := i) (i := i) h0 (by rw [e1]; exact wN_at hi) (by rw [e1]; exact .inl rfl) true
  have n2 : (delY (tickY (newY p u)) i true).ns = (List.range u).map (wN p) ++ [aN p i] := by rw [e2, e1]; rfl
  have u2 : (delY (tickY (newY p u)) i true).uf i = ⟨0, p, true⟩ := by rw [e2]; simp [setU]
  have e3 := del_w (y := delY (tickY (newY p u)) i true) (j := i) (i := i) h0 (by rw [n2, List.getElem?_append_left (by simpa using hi)]; exact wN_at hi) (.inr u2) true
  have n3 : (delY (delY (tickY (newY p u)) i true) i true).ns = (List.range u).map (wN p) ++ [aN p i] ++ [aN p i] := by rw [e3, n2]; rfl
  have u3 : (delY (delY (tickY (newY p u)) i true) i true).uf i = ⟨0, p, true⟩ := by rw [e3]; simp [setU]
  have e4 := del_w (y := delY (delY (tickY (newY p u)) i true) i true) (j := i) (i := i) h0 (by rw [n3, List.append_assoc, List.getElem?_append_left (by simpa using hi)]; exact wN_at hi) (.inr u3) false
  refine ⟨_, _, _, _, rfl, rfl, rfl, rfl, by rw [e1]; simp, by rw [n2]; simp, by rw [n3]; simp, ?_, ⟨f0, f1, f1.del i true, (f1.del i true).del i true⟩, by rw [e4]; simp [setU], by rw [e4, e3, e2, e1]; rfl⟩
  rw [e4, n3]
  show ((((List.range u).map (wN p) ++ [aN p i] ++ [aN p i]).eraseIdx i) ++ [aN p i]).length = u + 2
  rw [List.length_append, List.length_eraseIdx]
  simp
  omega
attribute [local irreducible] FA FL
set_option maxRecDepth 100000 in
set_option maxHeartbeats 32000000 in
theorem walk (W : World) (A1 : Option Addr) (n1 c1 : Nat) (g1 : Nat → Int) (hn1 : n1 ≤ c1) (hc1 : c1 ≤ maxLen) (hr1 : Is W A1 n1 g1) (hg1 : IsI g1) (hl1 : ∀ ad, A1 = some ad → 0 < n1 → ad.block < W.heap.size) (re1 : c1 * 8 ≤ 140737488351232) (a0 : Int) (r_a0 : -9223372036854775808 ≤ a0 ∧ a0 ≤ 9223372036854775807) (a1 : Int) (r_a1 : -9223372036854775808 ≤ a1 ∧ a1 ≤ 9223372036854775807) :
    Calls Try.prog 6 #[.slice A1 n1 c1, .int .i64 a0, .int .i64 a1] W fun e w' => e = .returned (.bool true) ∧ Below W.heap.size W w' := by
  unfold maxLen at hc1
  have hnm : (n1 : Int) ≤ 9223372036854775807 := by have := hn1; omega
  have HL := hid hl1
  clear hl1 re1
  obtain ⟨p, hp⟩ : ∃ p, p = mkP g1 (min n1 30) := ⟨_, rfl⟩
  have GP : good p ∧ p.v ≤ 30 := by rw [hp]; exact good_mk g1 _ (by omega)
  have MK := hid (fun (w : World) (h : Is w A1 n1 g1) (hl : ∀ ad, A1 = some ad → 0 < n1 → ad.block < w.heap.size) => (show Calls Try.prog 9 #[.slice A1 n1 c1, .int .i64 30] w fun x w' => x = .returned (.agg (FA 330 (pc p))) ∧ Below w.heap.size w w' from by rw [hp]; exact make_fa w A1 n1 c1 g1 h hl hnm 30 (by omega)))
  clear hp
  have hv0 := GP.1.v
  have hv30 := GP.2
  obtain ⟨x0, hx0⟩ : ∃ x : Nat, (x : Int) = wi a0 4 := ⟨(wi a0 4).toNat, by have := wi_bd a0 4 (by omega); omega⟩
  have bx0 := wi_bd a0 4 (by omega)
  rw [← hx0] at bx0
  have Wx0 := hid (fun w => re_i64 (within_any a0 4 w (by omega) (by omega)) hx0.symm)
  clear hx0
  obtain ⟨bx01, bx02⟩ := bx0
  obtain ⟨u, hu⟩ : ∃ u : Nat, u = 1 + x0 := ⟨_, rfl⟩
  have hu1 : 1 ≤ u := by omega
  have hu2 : u ≤ 4 := by omega
  have HUX := hid (show (1 : Int) + x0 = u from by omega)
  clear hu
  have hxa := wi_bd a1 u (by omega)
  obtain ⟨i, hi⟩ : ∃ x : Nat, (x : Int) = wi a1 u := ⟨(wi a1 u).toNat, by omega⟩
  rw [← hi] at hxa
  have WI := hid (fun w => re_i64 (within_any a1 u w (by omega) (by omega)) hi.symm)
  clear hi
  have hiu : i < u := by omega
  obtain ⟨y1, y2, y3, y4, h1, h2, h3, h4, l1, l2, l3, l4, ⟨f0, f1, f2, f3⟩, hu4, hun⟩ := pure GP.1 hv30 ⟨hu1, hu2⟩ hiu
  have H1 := hid h1
  have H2 := hid h2
  have H3 := hid h3
  have H4 := hid h4
  have L1 := hid l1
  have L2 := hid l2
  have L3 := hid l3
  have L4 := hid l4
  have F0 := hid f0
  have F1 := hid f1
  have F2 := hid f2
  have F3 := hid f3
  have U4 := hid hu4
  have UN := hid hun
  clear h1 h2 h3 h4 l1 l2 l3 l4 f0 f1 f2 f3 hu4 hun GP hxa
  have z1 : IntKind.i64.wrap ((u : Int) - 1) = (u : Int) - 1 := IntWalk.i64_in _ (by omega)
  have z2 : IntKind.i64.wrap ((u : Int) - 1 + 3) = (u : Int) - 1 + 3 := IntWalk.i64_in _ (by omega)
  have Z1 := hid z1
  have Z2 := hid z2
  clear z1 z2
  have S0 : Hid (HS [] W W []) := hid HS.start
  go_enter Try.func6, Try.ntmps6
  go_wp2_with fail
  refine (yknown_any _).mono ?_
  rintro x w1 ⟨rfl, hB⟩
  have R1 := hid (hr1.below hB (Nat.le_refl _))
  have B1 := hid hB
  have S1 := hid (S0.out.below hB)
  clear hr1 hB S0
  go_wp2_with fail
  refine (MK.out _ R1.out (fun ad e h => Nat.lt_of_lt_of_le (HL.out ad e h) B1.out.size)).mono ?_
  rintro x w2 ⟨rfl, hb⟩
  have S2 := hid (S1.out.below hb)
  clear hb S1 MK
  go_simp
  go_upto_region 4 with (first | ((with_reducible refine wl_id ?_); refine wl_ow rfl (ow_alloc rfl (zpl_fa _) (by omega) S2.out ?_); intro P w_ hZ _; have SA := hid hZ; clear hZ) | ((with_reducible refine wl_id ?_); refine wl_ow rfl (ow_store (A := []) 0 330 (pc p) (pc p) rfl rfl rfl SA.out (by omega) (fun j hj => patch_all _ _ _ j hj) info_pl (pc_one _) ?_); intro w_ hZ; have S3 := hid hZ; clear hZ))
  clear S2 R1 B1
  go_wp2_with fail
  refine (Wx0.out _).mono ?_
  rintro x w_ ⟨rfl, rfl⟩
  go_simp
  go_upto_region 5 with (fail)
  rw [HUX.out]
  go_wp2_with ((with_reducible refine wl_id ?_); refine wl_ow rfl (ow_load 0 rfl 0 330 (pc p) rfl rfl S3.out (by omega) (fun j hj => by rw [Nat.zero_add]) Try.underlying33 rfl info_pl ?_))
  refine (ya_new S3.out p u ⟨hu1, by omega⟩).mono ?_
  rintro x w4 ⟨D, rfl, hY⟩
  have Y0 := hid hY
  clear hY S3
  go_simp
  go_wp2_with fail
  refine (ya_tick Y0.out F0.out (by omega) (by show (0 : Nat) ≤ 900000; omega)).mono ?_
  rintro x w5 ⟨rfl, hY⟩
  rw [H1.out] at hY ⊢
  rw [L1.out]
  have Y1 := hid hY
  clear hY Y0
  go_simp
  go_wp2_with fail
  refine (WI.out _).mono ?_
  rintro x w_ ⟨rfl, rfl⟩
  go_simp
  go_wp2_with fail
  refine (ya_del Y1.out F1.out (by omega) (by omega) (by rw [L1.out]; omega) i (by rw [L1.out]; omega) true).mono ?_
  rintro x w6 ⟨rfl, hY⟩
  rw [H2.out] at hY
  have Y2 := hid hY
  clear hY Y1
  go_simp
  go_wp2_with fail
  refine (ya_del Y2.out F2.out (by omega) (by omega) (by rw [L2.out]; omega) i (by rw [L2.out]; omega) true).mono ?_
  rintro x w7 ⟨rfl, hY⟩
  rw [H3.out] at hY
  have Y3 := hid hY
  clear hY Y2
  go_simp
  go_wp2_with fail
  refine (ya_del Y3.out F3.out (by omega) (by omega) (by rw [L3.out]; omega) i (by rw [L3.out]; omega) false).mono ?_
  rintro x w8 ⟨rfl, hY⟩
  rw [H4.out] at hY
  have Y4 := hid hY
  clear hY Y3
  go_simp
  go_wp2_with fail
  refine (ya_ver Y4.out i (by rw [UN.out]; omega)).mono ?_
  rintro x w9 ⟨rfl, hb⟩
  rw [U4.out]
  have Y5 := hid (Y4.out.below hb)
  clear hb Y4
  simp only [if_true]
  go_simp
  have BP : Hid (Fb w9 P 330 (pc p)) := hid (Y5.out.memR (t := thB P 330 (pc p)) (by simp))
  have cp : w9.cell? ⟨P, 0, none⟩ = some (.int .i64 p.v) := BP.out.2.1 0 (by omega)
  have z1 := Z1.out
  have z2 := Z2.out
  go_wp2_with fail
  refine (ya_notes Y5.out).mono ?_
  rintro x w' ⟨rfl, rfl⟩
  rw [L4.out]
  have z3 : ((u : Int) + 2 == (u : Int) - 1 + 3) = true := by rw [beq_iff_eq]; omega
  go_simp
  go_wp2_with fail
  go_ret
  exact ⟨rfl, Y5.out.ch.below (by simp) (Nat.le_refl _)⟩

set_option maxRecDepth 100000 in
theorem lifted (os : Os) (started : os.Started) (H : Type) (enc : TypeId × Value → H) :
    ReturnsInHanded {} Try.checked os 6 .any (Rows.yardTwiceSpec.pre6 enc Try.prog Try.f6 [] false) (Rows.yardTwiceSpec.post enc Try.prog Try.f6 false true false false) :=
  law_step (s := Rows.yardTwiceSpec) started (by kernel_rfl) Try.func6
    (ChangeSpec.witness6 (s := Rows.yardTwiceSpec) (enc := enc) (C := Try.checked) false ⟨#[], #[.slice none 0 0, .int .i64 0, .int .i64 0], []⟩ 8 (by kernel_rfl) (by kernel_rfl) (by kernel_rfl) (by kernel_rfl))
    rfl (by rw [Try.params6]; decide +kernel) rfl Try.underlying4
    (fun ds h => by
      rw [Try.params6] at h
      match ds, h with
      | [_, _, _], _ => rfl)
    (fun W base args ds ps hval hA hsz => by
      rw [Try.params6] at hA hval hsz
      obtain ⟨v0, vs0, d0, ds0, p0, q0, hargs, rfl, rfl, h0, r0⟩ := trodAll_cons hA
      obtain ⟨v1, vs1, d1, ds1, p1, q1, rfl, rfl, rfl, h1, r1⟩ := trodAll_cons r0
      obtain ⟨v2, vs2, d2, ds2, p2, q2, rfl, rfl, rfl, h2, r2⟩ := trodAll_cons r1
      obtain ⟨rfl, rfl, rfl⟩ := trodAll_nil r2
      obtain rfl : args = #[v0, v1, v2] := by cases args; simp_all
      obtain ⟨A0, n0, c0, g0, rfl, hn0, hc0, hs0, hw0, hl0, hd0⟩ := open_row Try.underlying22 Try.underlying3 (by kernel_rfl) (hval 0 22 v0 rfl rfl) h0
      have re0 : c0 * 8 ≤ 140737488351232 := by
        rcases hd0 with ⟨_, h0⟩ | ⟨xs, ys, h1, h2⟩
        · omega
        · have := sized_slice hsz (j := 0) (t := 22) (e := 3) rfl (by rw [h1]; rfl) Try.underlying22
          rw [h2, show Try.prog.bytesOf 3 = 8 from by kernel_rfl] at this
          simpa [reachBytes] using this
      obtain ⟨a1, rfl, rfl, rfl, w1⟩ := open_int Try.underlying3 (hval 1 3 v1 rfl rfl) h1
      obtain ⟨a2, rfl, rfl, rfl, w2⟩ := open_int Try.underlying3 (hval 2 3 v2 rfl rfl) h2
      exact walk W A0 n0 c0 g0 hn0 hc0 hs0 (fun j => bounds_i64 (hw0 j)) hl0 re0 a1 (bounds_i64 w1) a2 (bounds_i64 w2))

theorem proved : Rows.YardTwiceSaid :=
  OpenClaim.holds_of_wide 6 Try.f6 rfl rfl rfl rfl rfl rfl rfl ⟨rfl, rfl, rfl, rfl, rfl⟩ rfl rfl rfl rfl rfl (by kernel_rfl) Try.func6 (by kernel_rfl)
    (of_decide_eq_true (by kernel_rfl)) (by unfold Func.isWrapper; first | (rw [if_pos (by decide +kernel)]; kernel_rfl) | (rw [if_neg (by decide +kernel)]; exact ⟨rfl, rfl⟩))
    (fun os started H enc _ => lifted os started H enc)
end Go.Proofs.Ytnnilkdlpampdaa.yardTwice
