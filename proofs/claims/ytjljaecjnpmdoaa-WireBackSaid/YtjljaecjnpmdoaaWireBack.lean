/- roundhouselaw3.WireBack answers true for any kind, any numbers, any bytes; no condition. -/
import Derived.Test.YtjljaecjnpmdoaaWirLaw
import Derived.BigQuiet
import Derived.Deep.RegionHeld3
import Derived.Deep.Cut
namespace Go.Proofs.Ytjljaecjnpmdoaa.wireBack
set_option linter.unusedVariables false
set_option linter.unusedSimpArgs false
open Go.RowKit Go.ChangeShapes Go.WideShapes Go.ChangeAt

set_option maxRecDepth 100000 in
set_option maxHeartbeats 4000000 in
theorem walk (W : World) (a0 : Int) (r_a0 : -9223372036854775808 ≤ a0 ∧ a0 ≤ 9223372036854775807) (A1 : Option Addr) (n1 c1 : Nat) (g1 : Nat → Int) (hn1 : n1 ≤ c1) (hc1 : c1 ≤ maxLen) (hr1 : Is W A1 n1 g1) (hg1 : IsI g1) (hl1 : ∀ ad, A1 = some ad → 0 < n1 → ad.block < W.heap.size) (re1 : c1 * 8 ≤ 140737488351232) (A2 : Option Addr) (n2 c2 : Nat) (g2 : Nat → Int) (hn2 : n2 ≤ c2) (hc2 : c2 ≤ maxLen) (hr2 : By W A2 n2 g2) (hg2 : IsB g2) (hl2 : ∀ ad, A2 = some ad → 0 < n2 → ad.block < W.heap.size) (re2 : c2 * 1 ≤ 140737488351232) :
    Calls Try.prog 3 #[.int .i64 a0, .slice A1 n1 c1, .slice A2 n2 c2] W fun e w' => e = .returned (.bool true) ∧ Below W.heap.size W w' := by
  have HG := hid hg2
  have m1 : (n1 : Int) ≤ 9223372036854775807 := by unfold maxLen at hc1; omega
  have m2 : (n2 : Int) ≤ 9223372036854775807 := by unfold maxLen at hc2; omega
  have H1 := hid (hr1)
  have H2 := hid (hr2)
  obtain ⟨p, hp⟩ : ∃ p, p = mkPk a0 (nv g1 n1) g2 n2 := ⟨_, rfl⟩
  obtain ⟨L, hL⟩ : ∃ L, L = lenP p := ⟨_, rfl⟩
  obtain ⟨F, hF⟩ : ∃ F, F = builtF p := ⟨_, rfl⟩
  have M := mk_all hp HG.out hL hF
  have MK := hid (make_p p a0 A1 n1 c1 g1 A2 n2 c2 g2 hp HG.out m1 hn2 m2)
  have BU := hid (build_p p L F hL hF M.E M.go M.gd (Nat.le_trans M.no (by decide)) (Nat.le_trans M.nd (by decide)))
  have RB := hid (rbuild_p p L F hL hF M.E M.go M.gd (Nat.le_trans M.no (by decide)) (Nat.le_trans M.nd (by decide)))
  have HM := hid M
  have L0 := M.L0
  have L1 := M.L1
  have LN : L ≤ 1000000 := by omega
  clear M
  clear hp hL hF hr1 hr2 hg1 hg2 hl1 hl2 re1 re2 hc1 hc2 m1 m2
  have PA := hid (parse_p p F L HM.out.B LN HM.out.P HM.out.pe)
  have SA := hid (same_p p)
  go_enter Try.func3, Try.ntmps3
  go_wp2_with fail
  refine (known_any _).mono ?_
  rintro e w1 ⟨rfl, hb⟩
  have S1 := hid hb
  clear hb
  go_wp2_with fail
  refine (MK.out w1 (Sl.below H1.out S1.out (Nat.le_refl _)) (Sl.below H2.out S1.out (Nat.le_refl _))).mono ?_
  rintro e w2 ⟨AO, cO, AD, cD, rfl, hO, hD, hb⟩
  have S2 := hid hb
  clear hb
  have RO := hid (hO)
  have RD := hid (hD)
  clear hO hD
  clear MK
  go_upto_region 4 with (fail)
  have C1 := hid (Ce.made (w := w2) (l := [.int .i64 p.kind, .int .i64 p.life, .int .i64 p.piece, .int .i64 p.src, .int .i64 p.dst, .int .i64 p.fp, .int .i64 p.tp, .int .i64 p.flags, .int .i64 p.label, .bool p.bare, .int .i64 p.code, .slice AO p.no cO, .slice AD p.nd cD]) (T := 26) rfl)
  simp only [List.toArray] at C1
  have S3 := hid ((Below.refl w2.heap.size w2).alloc (Nat.le_refl _) (.cells #[.int .i64 p.kind, .int .i64 p.life, .int .i64 p.piece, .int .i64 p.src, .int .i64 p.dst, .int .i64 p.fp, .int .i64 p.tp, .int .i64 p.flags, .int .i64 p.label, .bool p.bare, .int .i64 p.code, .slice AO p.no cO, .slice AD p.nd cD] 26))
  generalize (w2.alloc (.cells #[.int .i64 p.kind, .int .i64 p.life, .int .i64 p.piece, .int .i64 p.src, .int .i64 p.dst, .int .i64 p.fp, .int .i64 p.tp, .int .i64 p.flags, .int .i64 p.label, .bool p.bare, .int .i64 p.code, .slice AO p.no cO, .slice AD p.nd cD] 26)) = w3 at *
  generalize w2.heap.size = P1 at C1 ⊢
  have yC := (Ce.below C1.out (Below.refl _ _))
  have y0 := yC.2.1 0 _ rfl
  have y1 := yC.2.1 1 _ rfl
  have y2 := yC.2.1 2 _ rfl
  have y3 := yC.2.1 3 _ rfl
  have y4 := yC.2.1 4 _ rfl
  have y5 := yC.2.1 5 _ rfl
  have y6 := yC.2.1 6 _ rfl
  have y7 := yC.2.1 7 _ rfl
  have y8 := yC.2.1 8 _ rfl
  have y9 := yC.2.1 9 _ rfl
  have y10 := yC.2.1 10 _ rfl
  have y11 := yC.2.1 11 _ rfl
  have y12 := yC.2.1 12 _ rfl
  clear yC
  go_wp2_with fail
  refine (BU.out AO cO AD cD w3 (Sl.below RO.out S3.out (Nat.le_refl _)) (Sl.below RD.out S3.out (Nat.le_refl _))).mono ?_
  rintro e w4 ⟨A4, c4, rfl, hO, hc4, hb⟩
  have S4 := hid hb
  clear hb
  have R4 := hid (hO.sl1)
  clear hO BU
  clear y0 y1 y2 y3 y4 y5 y6 y7 y8 y9 y10 y11 y12
  go_upto_region 5 with (fail)
  have yC := (Ce.below C1.out S4.out)
  have y0 := yC.2.1 0 _ rfl
  have y1 := yC.2.1 1 _ rfl
  have y2 := yC.2.1 2 _ rfl
  have y3 := yC.2.1 3 _ rfl
  have y4 := yC.2.1 4 _ rfl
  have y5 := yC.2.1 5 _ rfl
  have y6 := yC.2.1 6 _ rfl
  have y7 := yC.2.1 7 _ rfl
  have y8 := yC.2.1 8 _ rfl
  have y9 := yC.2.1 9 _ rfl
  have y10 := yC.2.1 10 _ rfl
  have y11 := yC.2.1 11 _ rfl
  have y12 := yC.2.1 12 _ rfl
  clear yC
  go_wp2_with fail
  refine (RB.out AO cO AD cD w4 (Sl.below RO.out (then_ S3.out S4.out) (Nat.le_refl _)) (Sl.below RD.out (then_ S3.out S4.out) (Nat.le_refl _))).mono ?_
  rintro e w5 ⟨A5, c5, rfl, hO, hc5, hb⟩
  have S5 := hid hb
  clear hb
  have R5 := hid (hO.sl1)
  clear hO RB
  clear y0 y1 y2 y3 y4 y5 y6 y7 y8 y9 y10 y11 y12
  go_wp2_with fail
  refine (PA.out A4 c4 hc4 w5 (Sl.below R4.out S5.out (Nat.le_refl _))).mono ?_
  rintro e w6 ⟨AO2, cO2, AD2, cD2, rfl, hO, hD, hb⟩
  have S6 := hid hb
  clear hb
  have RO2 := hid (hO.sl1)
  have RD2 := hid (hD.sl1)
  clear hO hD PA
  go_upto_region 7 with (fail)
  have C2 := hid (Ce.made (w := w6) (l := [.int .i64 p.kind, .int .i64 p.life, .int .i64 p.piece, .int .i64 p.src, .int .i64 p.dst, .int .i64 p.fp, .int .i64 p.tp, .int .i64 p.flags, .int .i64 p.label, .bool p.bare, .int .i64 p.code, .slice AO2 p.no cO2, .slice AD2 p.nd cD2]) (T := 26) rfl)
  simp only [List.toArray] at C2
  have S7 := hid ((Below.refl w6.heap.size w6).alloc (Nat.le_refl _) (.cells #[.int .i64 p.kind, .int .i64 p.life, .int .i64 p.piece, .int .i64 p.src, .int .i64 p.dst, .int .i64 p.fp, .int .i64 p.tp, .int .i64 p.flags, .int .i64 p.label, .bool p.bare, .int .i64 p.code, .slice AO2 p.no cO2, .slice AD2 p.nd cD2] 26))
  generalize (w6.alloc (.cells #[.int .i64 p.kind, .int .i64 p.life, .int .i64 p.piece, .int .i64 p.src, .int .i64 p.dst, .int .i64 p.fp, .int .i64 p.tp, .int .i64 p.flags, .int .i64 p.label, .bool p.bare, .int .i64 p.code, .slice AO2 p.no cO2, .slice AD2 p.nd cD2] 26)) = w7 at *
  generalize w6.heap.size = P2 at C2 ⊢
  have yC := (Ce.below C1.out (then_ (then_ (then_ S4.out S5.out) S6.out) S7.out))
  have y0 := yC.2.1 0 _ rfl
  have y1 := yC.2.1 1 _ rfl
  have y2 := yC.2.1 2 _ rfl
  have y3 := yC.2.1 3 _ rfl
  have y4 := yC.2.1 4 _ rfl
  have y5 := yC.2.1 5 _ rfl
  have y6 := yC.2.1 6 _ rfl
  have y7 := yC.2.1 7 _ rfl
  have y8 := yC.2.1 8 _ rfl
  have y9 := yC.2.1 9 _ rfl
  have y10 := yC.2.1 10 _ rfl
  have y11 := yC.2.1 11 _ rfl
  have y12 := yC.2.1 12 _ rfl
  clear yC
  have zC := (Ce.below C2.out (Below.refl _ _))
  have z0 := zC.2.1 0 _ rfl
  have z1 := zC.2.1 1 _ rfl
  have z2 := zC.2.1 2 _ rfl
  have z3 := zC.2.1 3 _ rfl
  have z4 := zC.2.1 4 _ rfl
  have z5 := zC.2.1 5 _ rfl
  have z6 := zC.2.1 6 _ rfl
  have z7 := zC.2.1 7 _ rfl
  have z8 := zC.2.1 8 _ rfl
  have z9 := zC.2.1 9 _ rfl
  have z10 := zC.2.1 10 _ rfl
  have z11 := zC.2.1 11 _ rfl
  have z12 := zC.2.1 12 _ rfl
  clear zC
  have x1 := conv_str c4 (Sl.below R4.out (then_ (then_ S5.out S6.out) S7.out) (Nat.le_refl _))
  have x2 := conv_str c5 (Sl.below R5.out (then_ S6.out S7.out) (Nat.le_refl _))
  go_wp2_with fail
  refine (SA.out AO AD AO2 AD2 cO cD cO2 cD2 w7 (Sl.below RO.out (then_ (then_ (then_ (then_ S3.out S4.out) S5.out) S6.out) S7.out) (Nat.le_refl _)) (Sl.below RD.out (then_ (then_ (then_ (then_ S3.out S4.out) S5.out) S6.out) S7.out) (Nat.le_refl _)) (Sl.below RO2.out S7.out (Nat.le_refl _)) (Sl.below RD2.out S7.out (Nat.le_refl _))).mono ?_
  rintro e w8 ⟨rfl, hb⟩
  have S8 := hid hb
  clear hb
  clear y0 y1 y2 y3 y4 y5 y6 y7 y8 y9 y10 y11 y12
  clear z0 z1 z2 z3 z4 z5 z6 z7 z8 z9 z10 z11 z12
  clear x1 x2 SA
  go_wp2_with fail
  refine (re_bool (whole_any A4 L c4 F w8 (Sl.below R4.out (then_ (then_ (then_ S5.out S6.out) S7.out) S8.out) (Nat.le_refl _)) HM.out.B hc4 LN) HM.out.w).mono ?_
  rintro e w9 ⟨rfl, hb⟩
  have S9 := hid hb
  clear hb
  go_wp2_with fail
  go_ret
  exact ⟨rfl, (then_ (then_ (then_ (then_ (then_ (then_ (then_ (then_ S1.out S2.out) S3.out) S4.out) S5.out) S6.out) S7.out) S8.out) S9.out)⟩

set_option maxRecDepth 100000 in
theorem lifted (os : Os) (started : os.Started) (H : Type) (enc : TypeId × Value → H) :
    ReturnsInHanded {} Try.checked os 3 .any (Rows.wireBackSpec.pre6 enc Try.prog Try.f3 [] false) (Rows.wireBackSpec.post enc Try.prog Try.f3 false true false false) :=
  law_step (s := Rows.wireBackSpec) started (by kernel_rfl) Try.func3
    (ChangeSpec.witness6 (s := Rows.wireBackSpec) (enc := enc) (C := Try.checked) false ⟨#[], #[.int .i64 0, .slice none 0 0, .slice none 0 0], []⟩ 8 (by kernel_rfl) (by kernel_rfl) (by kernel_rfl) (by kernel_rfl))
    rfl (by rw [Try.params3]; decide +kernel) rfl Try.underlying4
    (fun ds h => by
      rw [Try.params3] at h
      match ds, h with
      | [_, _, _], _ => rfl)
    (fun W base args ds ps hval hA hsz => by
      rw [Try.params3] at hA hval hsz
      obtain ⟨v0, vs0, d0, ds0, p0, q0, hargs, rfl, rfl, h0, r0⟩ := trodAll_cons hA
      obtain ⟨v1, vs1, d1, ds1, p1, q1, rfl, rfl, rfl, h1, r1⟩ := trodAll_cons r0
      obtain ⟨v2, vs2, d2, ds2, p2, q2, rfl, rfl, rfl, h2, r2⟩ := trodAll_cons r1
      obtain ⟨rfl, rfl, rfl⟩ := trodAll_nil r2
      obtain rfl : args = #[v0, v1, v2] := by cases args; simp_all
      obtain ⟨a0, rfl, rfl, rfl, w0⟩ := open_int Try.underlying3 (hval 0 3 v0 rfl rfl) h0
      obtain ⟨A1, n1, c1, g1, rfl, hn1, hc1, hs1, hw1, hl1, hd1⟩ := open_row Try.underlying22 Try.underlying3 (by kernel_rfl) (hval 1 22 v1 rfl rfl) h1
      have re1 : c1 * 8 ≤ 140737488351232 := by
        rcases hd1 with ⟨_, h0⟩ | ⟨xs, ys, h1, h2⟩
        · omega
        · have := sized_slice hsz (j := 1) (t := 22) (e := 3) rfl (by rw [h1]; rfl) Try.underlying22
          rw [h2, show Try.prog.bytesOf 3 = 8 from by kernel_rfl] at this
          simpa [reachBytes] using this
      obtain ⟨A2, n2, c2, g2, rfl, hn2, hc2, hs2, hw2, hl2, hd2⟩ := open_row Try.underlying23 Try.underlying5 (by kernel_rfl) (hval 2 23 v2 rfl rfl) h2
      have re2 : c2 * 1 ≤ 140737488351232 := by
        rcases hd2 with ⟨_, h0⟩ | ⟨xs, ys, h1, h2⟩
        · omega
        · have := sized_slice hsz (j := 2) (t := 23) (e := 5) rfl (by rw [h1]; rfl) Try.underlying23
          rw [h2, show Try.prog.bytesOf 5 = 1 from by kernel_rfl] at this
          simpa [reachBytes] using this
      exact walk W a0 (bounds_i64 w0) A1 n1 c1 g1 hn1 hc1 hs1 (fun j => bounds_i64 (hw1 j)) hl1 re1 A2 n2 c2 g2 hn2 hc2 hs2 (fun j => bounds_u8 (hw2 j)) hl2 re2)

theorem proved : Rows.WireBackSaid :=
  OpenClaim.holds_of_wide 3 Try.f3 rfl rfl rfl rfl rfl rfl rfl ⟨rfl, rfl, rfl, rfl, rfl⟩ rfl rfl rfl rfl rfl (by kernel_rfl) Try.func3 (by kernel_rfl)
    (of_decide_eq_true (by kernel_rfl)) (by unfold Func.isWrapper; first | (rw [if_pos (by decide +kernel)]; kernel_rfl) | (rw [if_neg (by decide +kernel)]; exact ⟨rfl, rfl⟩))
    (fun os started H enc _ => lifted os started H enc)
end Go.Proofs.Ytjljaecjnpmdoaa.wireBack
