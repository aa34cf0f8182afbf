/- roundhouselaw4.OptsWalks answers true for all numbers, all bytes; no condition. -/
import Derived.Test.YtdbfpoplhmonhaaOptTile
import Derived.Deep.RegionWith
import Derived.Deep.Cut
namespace Go.Proofs.Ytdbfpoplhmonhaa.optsWalks
set_option linter.unusedVariables false
set_option linter.unusedSimpArgs false
open Go.RowKit Go.ChangeShapes Go.WideShapes Go.ChangeAt

def GoodS (w : World) (v : Value) : Prop := ∃ (A : Option Addr) (n c : Nat) (g : Nat → Int), v = .slice A n c ∧ By w A n g ∧ IsB g ∧ n ≤ c ∧ n ≤ 200
theorem GoodS.below {w w' : World} {v : Value} {B : Nat} (h : GoodS w v) (hb : Below B w w') (hB : w.heap.size ≤ B) : GoodS w' v := by
  obtain ⟨A, n, c, g, e, h1, h2, h3, h4⟩ := h
  exact ⟨A, n, c, g, e, h1.below hb hB, h2, h3, h4⟩
def RowsAt (W : World) (R : Nat) (vs : List Value) (i : Value) (wr : World) : Prop :=
  ∃ k : Nat, k ≤ 5 ∧ i = .int .i64 (k : Int) ∧ Below W.heap.size W wr ∧ Ce wr R vs ∧ ∀ v ∈ vs, GoodS wr v

set_option maxRecDepth 100000 in
set_option maxHeartbeats 4000000 in
theorem walk (W : World) (A0 : Option Addr) (n0 c0 : Nat) (g0 : Nat → Int) (hn0 : n0 ≤ c0) (hc0 : c0 ≤ maxLen) (h0 : Is W A0 n0 g0) (hg0 : IsI g0) (hl0 : ∀ ad, A0 = some ad → 0 < n0 → ad.block < W.heap.size) (re0 : c0 * 8 ≤ 140737488351232) (A1 : Option Addr) (n1 c1 : Nat) (g1 : Nat → Int) (hn1 : n1 ≤ c1) (hc1 : c1 ≤ maxLen) (h1 : By W A1 n1 g1) (hg1 : IsB g1) (hl1 : ∀ ad, A1 = some ad → 0 < n1 → ad.block < W.heap.size) (re1 : c1 * 1 ≤ 140737488351232) (a2 : Int) (r2 : -9223372036854775808 ≤ a2 ∧ a2 ≤ 9223372036854775807) (a3 : Int) (r3 : 0 ≤ a3 ∧ a3 ≤ 255) :
    Calls Try.prog 3 #[.slice A0 n0 c0, .slice A1 n1 c1, .int .i64 a2, .int .u8 a3] W fun e w' => e = .returned (.bool true) ∧ Below W.heap.size W w' := by
  by_cases hbig : n1 ≤ 60
  · have t1 : decide ((n1 : Int) > 60) = false := by simp; omega
    have HG0 := hid hg0
    have HG1 := hid hg1
    have HN1 := hid hn1
    clear hc0 hc1 hl0 hl1 hg0 hg1 hn1
    go_enter Try.func3, Try.ntmps3
    go_wp2_with fail
    refine (known_any _).mono ?_
    rintro e w ⟨rfl, hb1⟩
    have B := hid hb1
    have R0 := hid (h0.below hb1 (Nat.le_refl _))
    have R1 := hid (h1.below hb1 (Nat.le_refl _))
    clear hb1 h0 h1
    go_wp2_with fail
    refine (some_any A0 n0 c0 g0 w R0.out HG0.out (by omega)).mono ?_
    rintro e w1 ⟨A2, m, c2, rfl, hm, ⟨f, hf, ho⟩, hb⟩
    have HO := hid ho
    have HF := hid hf
    have B1 := hid hb
    clear ho hf hb R0 HG0
    have S1 := hid HO.out.sl1
    have hmc := hid (Ow.form12 HO.out)
    clear HO
    go_upto_region 7 with (at_builtin; refine wp_app_b0 rfl (.tmp 32) (.tmp 33) rfl w1.heap.size _ rfl (fun _ => Ow.new' rfl) _ m _ f rfl (Sl.alloc S1.out _) (by omega) (by simp) ?_; intro A3 c3 w2 q1 q2 q3 q4 q5 q6; have H3 := hid q1; have hc3 := hid q2; have B2 := hid (((Below.refl w1.heap.size w1).alloc (Nat.le_refl _) _).trans q4); clear q1 q2 q3 q4 q5 q6)
    have hJ : ∃ (w3 : World) (f3 : Nat → Int), w3 = w3 := ⟨w, f, rfl⟩
    clear hJ
    by_cases h0 : 0 < m
    · have wb := wi_bd a2 m (by omega)
      obtain ⟨p, hp⟩ := Int.eq_ofNat_of_zero_le wb.1
      have hpm : p < m := by omega
      have WS := hid (fun w => re_i64 (within_any a2 m w (by omega) (by omega)) hp)
      clear hp wb
      obtain ⟨g, rfl, hB, hgs, hce, hfr⟩ := Ow.block_ H3.out h0
      have cp := hce p (by omega)
      have fp := hfr p
      have fb := HF.out p
      obtain ⟨y, hy⟩ : ∃ y, y = f p := ⟨_, rfl⟩
      rw [← hy] at fb cp
      obtain ⟨fb1, fb2⟩ := fb
      obtain ⟨r3a, r3b⟩ := r3
      have i1 : (p : Int) < m := by omega
      have d1 : decide ((0 : Int) < m) = true := by simp; omega
      have d2 : decide (0 < m) = true := by simp; omega
      clear hce hfr hy
      go_upto_region 9 with (fail)
      refine (WS.out _).mono ?_
      rintro e w4 ⟨rfl, rfl⟩
      go_upto_region 9 with (fail)
      obtain ⟨f4, hf4⟩ : ∃ f4 : Nat → Int, f4 = fun j => if j = p then (y + a3) % 256 else f j := ⟨_, rfl⟩
      have H4 := hid ((Ow.store_ H3.out p (.int .u8 ((y + a3) % 256))).as_ (f2 := fun j => .int .u8 (f4 j)) (fun j _ => by rw [hf4]; simp only [put1]; split <;> rfl))
      have B4 := hid (B2.out.setCell (p := ⟨g, p, none⟩) hB (.int .u8 ((y + a3) % 256)))
      have HF4 : Hid (IsB f4) := hid (by
        rw [hf4]
        intro j
        dsimp only
        split
        · omega
        · exact HF.out j)
      clear hf4
      generalize w2.setCell ⟨g, p, none⟩ (.int .u8 ((y + a3) % 256)) = w4 at *
      clear H3 B2 cp fp WS d1 d2 i1
      have SX := hid H4.out.sl1
      have BA := hid (B.out.trans (B1.out.mono B.out.size))
      have C4 := hid (B1.out.trans (B4.out.mono B1.out.size))
      have S14 := hid (S1.out.below B4.out (Nat.le_refl _))
      have R14 := hid (R1.out.below C4.out (Nat.le_refl _))
      have BE := hid (BA.out.trans (B4.out.mono BA.out.size))
      clear BA B4 C4 S1 B1 R1 B
      go_wp2_with (first | (at_builtin; refine wp_app_b0 rfl (.tmp 51) (.tmp 52) rfl w4.heap.size _ rfl (fun _ => Ow.new' rfl) _ m _ f rfl (Sl.alloc S14.out _) (by omega) (by simp) ?_; intro A5 c5 w5 q1 q2 q3 q4 q5 q6; have H5 := hid q1; have B5 := hid (((Below.refl w4.heap.size w4).alloc (Nat.le_refl _) _).trans q4); clear q1 q2 q3 q4 q5 q6) | (at_builtin; refine wp_app_b rfl (.tmp 53) (.tmp 54) rfl w4.heap.size _ m f rfl H5.out _ n1 _ g1 rfl (Sl.below R14.out B5.out (Nat.le_refl _)) (by omega) B5.out.size ?_; intro A6 c6 w6 q1 q2 q3 q4 q5 q6; have H6 := hid q1; have hc6 := hid q2; have B6 := hid (B5.out.trans q4); clear q1 q2 q3 q4 q5 q6 H5 B5))
      have wb := wi_bd a2 ((m : Int) + 1) (by omega)
      obtain ⟨k, hk⟩ := Int.eq_ofNat_of_zero_le wb.1
      have hkm : k ≤ m := by omega
      have WS := hid (fun w => re_i64 (within_any a2 ((m : Int) + 1) w (by omega) (by omega)) hk)
      clear hk wb
      refine (WS.out _).mono ?_
      rintro e w7 ⟨rfl, rfl⟩
      have i0 : (0 : Int) ≤ k := by omega
      have i1 : (k : Int) ≤ (c2 : Int) := by have := hmc.out; omega
      go_wp2_with fail
      have BF := hid (BE.out.trans (B6.out.mono BE.out.size))
      have hV : Hid (∀ v ∈ [Value.slice A2 m c2, .slice (some ⟨g, 0, none⟩) m c3, .slice A1 n1 c1, .slice A6 (m + n1) c6, .slice A2 k c2], GoodS (w6.alloc (.cells #[.slice A2 m c2, .slice (some ⟨g, 0, none⟩) m c3, .slice A1 n1 c1, .slice A6 (m + n1) c6, .slice A2 k c2] 23)) v) := hid (by
        have hz : Below w6.heap.size w6 (w6.alloc (.cells #[.slice A2 m c2, .slice (some ⟨g, 0, none⟩) m c3, .slice A1 n1 c1, .slice A6 (m + n1) c6, .slice A2 k c2] 23)) := (Below.refl _ _).alloc (Nat.le_refl _) _
        have g1' : GoodS w6 (.slice A2 m c2) := ⟨_, _, _, f, rfl, S14.out.below B6.out (Nat.le_refl _), HF.out, hmc.out, by omega⟩
        have g2' : GoodS w6 (.slice (some ⟨g, 0, none⟩) m c3) := ⟨_, _, _, f4, rfl, SX.out.below B6.out (Nat.le_refl _), HF4.out, hc3.out, by omega⟩
        have g3' : GoodS w6 (.slice A1 n1 c1) := ⟨_, _, _, g1, rfl, R14.out.below B6.out (Nat.le_refl _), HG1.out, HN1.out, by omega⟩
        have g4' : GoodS w6 (.slice A6 (m + n1) c6) := ⟨_, _, _, _, rfl, H6.out.sl1, (by intro j; dsimp only; split; exact HF.out j; exact HG1.out _), hc6.out, by omega⟩
        have g5' : GoodS w6 (.slice A2 k c2) := ⟨_, _, _, f, rfl, (S14.out.below B6.out (Nat.le_refl _)).less hkm, HF.out, by have := hmc.out; omega, by omega⟩
        intro v hv
        simp only [List.mem_cons, List.not_mem_nil, or_false] at hv
        rcases hv with rfl | rfl | rfl | rfl | rfl
        · exact g1'.below hz (Nat.le_refl _)
        · exact g2'.below hz (Nat.le_refl _)
        · exact g3'.below hz (Nat.le_refl _)
        · exact g4'.below hz (Nat.le_refl _)
        · exact g5'.below hz (Nat.le_refl _))
      have hC := hid (Ce.made (w := w6) (l := [Value.slice A2 m c2, .slice (some ⟨g, 0, none⟩) m c3, .slice A1 n1 c1, .slice A6 (m + n1) c6, .slice A2 k c2]) (T := 23) (g := w6.heap.size) rfl)
      have BG := hid (BF.out.alloc BF.out.size (.cells #[.slice A2 m c2, .slice (some ⟨g, 0, none⟩) m c3, .slice A1 n1 c1, .slice A6 (m + n1) c6, .slice A2 k c2] 23))
      have HV5 := hid (show [Value.slice A2 m c2, .slice (some ⟨g, 0, none⟩) m c3, .slice A1 n1 c1, .slice A6 (m + n1) c6, .slice A2 k c2].length = 5 from rfl)
      change Hid (Ce (w6.alloc (.cells #[.slice A2 m c2, .slice (some ⟨g, 0, none⟩) m c3, .slice A1 n1 c1, .slice A6 (m + n1) c6, .slice A2 k c2] 23)) _ _) at hC
      generalize w6.alloc (.cells #[.slice A2 m c2, .slice (some ⟨g, 0, none⟩) m c3, .slice A1 n1 c1, .slice A6 (m + n1) c6, .slice A2 k c2] 23) = w8 at *
      generalize w6.heap.size = R at *
      generalize [Value.slice A2 m c2, .slice (some ⟨g, 0, none⟩) m c3, .slice A1 n1 c1, .slice A6 (m + n1) c6, .slice A2 k c2] = vs at *
      clear S14 SX R14 H6 B6 BE BF HF HG1 HN1 hmc hc3 hc6 i0 i1 WS
      go_loopw [12] (fun i wr => RowsAt W R vs i wr) (fun i _ => 5 - (intOf i).toNat)
      case atStart => exact ⟨0, by omega, rfl, BG.out, hC.out, hV.out⟩
      case round =>
        clear BG hC hV
        obtain ⟨k, hk, rfl, hb, hC, hV⟩ := hrel
        by_cases hlt : k < 5
        · have hkl : k < vs.length := by rw [HV5.out]; exact hlt
          have hcell := hC.2.1 k _ (List.getElem?_eq_getElem hkl)
          obtain ⟨A, n, c, g, hv, hby, hgb, hnc, hn200⟩ := hV _ (List.getElem_mem hkl)
          rw [hv] at hcell
          have i0 : (0 : Int) ≤ k := by omega
          have i1 : (k : Int) < 5 := by omega
          have X := hid hcell
          have CC := hid hC
          have VV := hid hV
          have BB := hid hb
          have YY := hid hby
          have GG := hid hgb
          obtain ⟨l, hl⟩ : ∃ l, l = wl g n := ⟨_, rfl⟩
          obtain ⟨er, her⟩ : ∃ er, er = we g n := ⟨_, rfl⟩
          obtain ⟨kl, hkl2⟩ : ∃ kl, kl = l.length := ⟨_, rfl⟩
          have hkb : kl ≤ 200 := by have := wl_len g n; rw [hkl2, hl]; omega
          have Q1 := walk_any A n c g wr YY.out GG.out (by omega)
          unfold Walked at Q1
          rw [← hl, ← her, ← hkl2] at Q1
          have KL := hid hkl2
          have HL := hid hl
          have HE := hid her
          replace Q1 := hid Q1
          clear hkl hcell hC hV hb hby hgb hl her hkl2 hv
          have x0 := X.out
          go_wp2_with fail
          refine Q1.out.mono ?_
          rintro e w1 ⟨A1, c1, rfl, ho, hb⟩
          have Y1 := hid (OwO.sl ho KL.out)
          have C1 := hid (CC.out.below hb)
          have V1 := hid (fun v hv => (VV.out v hv).below hb (Nat.le_refl _))
          have B1 := hid (BB.out.trans (hb.mono BB.out.size))
          have YY1 := hid (YY.out.below hb (Nat.le_refl _))
          have x1 : w1.cell? ⟨R, k, none⟩ = some (.slice A n c) := (hb.cell (p := ⟨R, k, none⟩) CC.out.1).trans x0
          clear ho hb Q1 x0 X CC VV BB YY
          have Q2 := rwalk_any A n c g w1 YY1.out GG.out (by omega)
          unfold Walked at Q2
          rw [← HL.out, ← HE.out, ← KL.out] at Q2
          replace Q2 := hid Q2
          go_wp2_with fail
          refine Q2.out.mono ?_
          rintro e w2 ⟨A2, c2, rfl, ho, hb⟩
          have Z2 := hid (OwO.sl ho KL.out)
          have Y2 := hid (SlO.below Y1.out hb (Nat.le_refl _))
          have C2 := hid (C1.out.below hb)
          have V2 := hid (fun v hv => (V1.out v hv).below hb (Nat.le_refl _))
          have B2 := hid (B1.out.trans (hb.mono B1.out.size))
          have YY2 := hid (YY1.out.below hb (Nat.le_refl _))
          have x2 : w2.cell? ⟨R, k, none⟩ = some (.slice A n c) := (hb.cell (p := ⟨R, k, none⟩) C1.out.1).trans x1
          clear ho hb Q2 x1 C1 V1 B1 YY1 Y1
          obtain ⟨⟨s1, s2, s3, s4⟩, hs⟩ : ∃ x, x = stamp g n := ⟨_, rfl⟩
          have Q3 := stamp_any A n c g w2 YY2.out GG.out (by omega) hnc
          rw [← hs] at Q3
          unfold StV at Q3
          simp only at Q3
          have HS := hid hs
          replace Q3 := hid Q3
          clear hs
          go_wp2_with fail
          refine Q3.out.mono ?_
          rintro e w3 ⟨rfl, hb⟩
          have Z3 := hid (SlO.below Z2.out hb (Nat.le_refl _))
          have Y3 := hid (SlO.below Y2.out hb (Nat.le_refl _))
          have C3 := hid (C2.out.below hb)
          have V3 := hid (fun v hv => (V2.out v hv).below hb (Nat.le_refl _))
          have B3 := hid (B2.out.trans (hb.mono B2.out.size))
          have YY3 := hid (YY2.out.below hb (Nat.le_refl _))
          have x3 : w3.cell? ⟨R, k, none⟩ = some (.slice A n c) := (hb.cell (p := ⟨R, k, none⟩) C2.out.1).trans x2
          clear hb Q3 x2 C2 V2 B2 YY2 Y2 Z2
          have Q4 := rstamp_any A n c g w3 YY3.out GG.out (by omega) hnc
          rw [← HS.out] at Q4
          unfold StV at Q4
          simp only at Q4
          replace Q4 := hid Q4
          go_wp2_with fail
          refine Q4.out.mono ?_
          rintro e w4 ⟨rfl, hb⟩
          have Z4 := hid (SlO.below Z3.out hb (Nat.le_refl _))
          have Y4 := hid (SlO.below Y3.out hb (Nat.le_refl _))
          have C4 := hid (C3.out.below hb)
          have V4 := hid (fun v hv => (V3.out v hv).below hb (Nat.le_refl _))
          have B4 := hid (B3.out.trans (hb.mono B3.out.size))
          clear hb Q4 x3 C3 V3 B3 YY3 Y3 Z3
          go_wp2_with fail
          refine (as_any Y4.out KL.out (by omega)).mono ?_
          rintro e w5 ⟨A5, c5, rfl, ho, hb⟩
          have Y5 := hid (OwO.sl ho KL.out)
          have Z5 := hid (SlO.below Z4.out hb (Nat.le_refl _))
          have C5 := hid (C4.out.below hb)
          have V5 := hid (fun v hv => (V4.out v hv).below hb (Nat.le_refl _))
          have B5 := hid (B4.out.trans (hb.mono B4.out.size))
          clear ho hb C4 V4 B4 Y4 Z4
          go_wp2_with fail
          refine (re_bool (b := true) (same_any Y5.out Z5.out KL.out KL.out (by omega) (by omega)) (by simp)).mono ?_
          rintro e w6 ⟨rfl, q6, rfl⟩
          go_wp2_with fail
          go_roundw
          case rel => exact ⟨k + 1, by omega, by go_num, below_drewN B5.out _, ⟨C5.out.1, C5.out.2.1, C5.out.2.2⟩, fun v hv => V5.out v hv⟩
          case measure => simp [intOf]; omega
        · have i1 : ¬ (k : Int) < 5 := by omega
          have BB := hid hb
          clear hb hC hV
          go_wp2_with fail
          go_ret
          exact ⟨rfl, BB.out⟩
    · have d1 : decide ((0 : Int) < m) = false := by simp; omega
      have d2 : decide (0 < m) = false := by simp; omega
      go_upto_region 9 with (fail)
      have SX := hid H3.out.sl1
      have BA := hid (B.out.trans (B1.out.mono B.out.size))
      have C4 := hid (B1.out.trans (B2.out.mono B1.out.size))
      have S14 := hid (S1.out.below B2.out (Nat.le_refl _))
      have R14 := hid (R1.out.below C4.out (Nat.le_refl _))
      have BE := hid (BA.out.trans (B2.out.mono BA.out.size))
      clear BA B2 C4 S1 B1 R1 B
      go_wp2_with (first | (at_builtin; refine wp_app_b0 rfl (.tmp 51) (.tmp 52) rfl w2.heap.size _ rfl (fun _ => Ow.new' rfl) _ m _ f rfl (Sl.alloc S14.out _) (by omega) (by simp) ?_; intro A5 c5 w5 q1 q2 q3 q4 q5 q6; have H5 := hid q1; have B5 := hid (((Below.refl w2.heap.size w2).alloc (Nat.le_refl _) _).trans q4); clear q1 q2 q3 q4 q5 q6) | (at_builtin; refine wp_app_b rfl (.tmp 53) (.tmp 54) rfl w2.heap.size _ m f rfl H5.out _ n1 _ g1 rfl (Sl.below R14.out B5.out (Nat.le_refl _)) (by omega) B5.out.size ?_; intro A6 c6 w6 q1 q2 q3 q4 q5 q6; have H6 := hid q1; have hc6 := hid q2; have B6 := hid (B5.out.trans q4); clear q1 q2 q3 q4 q5 q6 H5 B5))
      have wb := wi_bd a2 ((m : Int) + 1) (by omega)
      obtain ⟨k, hk⟩ := Int.eq_ofNat_of_zero_le wb.1
      have hkm : k ≤ m := by omega
      have WS := hid (fun w => re_i64 (within_any a2 ((m : Int) + 1) w (by omega) (by omega)) hk)
      clear hk wb
      refine (WS.out _).mono ?_
      rintro e w7 ⟨rfl, rfl⟩
      have i0 : (0 : Int) ≤ k := by omega
      have i1 : (k : Int) ≤ (c2 : Int) := by have := hmc.out; omega
      go_wp2_with fail
      have BF := hid (BE.out.trans (B6.out.mono BE.out.size))
      have hV : Hid (∀ v ∈ [Value.slice A2 m c2, .slice A3 m c3, .slice A1 n1 c1, .slice A6 (m + n1) c6, .slice A2 k c2], GoodS (w6.alloc (.cells #[.slice A2 m c2, .slice A3 m c3, .slice A1 n1 c1, .slice A6 (m + n1) c6, .slice A2 k c2] 23)) v) := hid (by
        have hz : Below w6.heap.size w6 (w6.alloc (.cells #[.slice A2 m c2, .slice A3 m c3, .slice A1 n1 c1, .slice A6 (m + n1) c6, .slice A2 k c2] 23)) := (Below.refl _ _).alloc (Nat.le_refl _) _
        have g1' : GoodS w6 (.slice A2 m c2) := ⟨_, _, _, f, rfl, S14.out.below B6.out (Nat.le_refl _), HF.out, hmc.out, by omega⟩
        have g2' : GoodS w6 (.slice A3 m c3) := ⟨_, _, _, f, rfl, SX.out.below B6.out (Nat.le_refl _), HF.out, hc3.out, by omega⟩
        have g3' : GoodS w6 (.slice A1 n1 c1) := ⟨_, _, _, g1, rfl, R14.out.below B6.out (Nat.le_refl _), HG1.out, HN1.out, by omega⟩
        have g4' : GoodS w6 (.slice A6 (m + n1) c6) := ⟨_, _, _, _, rfl, H6.out.sl1, (by intro j; dsimp only; split; exact HF.out j; exact HG1.out _), hc6.out, by omega⟩
        have g5' : GoodS w6 (.slice A2 k c2) := ⟨_, _, _, f, rfl, (S14.out.below B6.out (Nat.le_refl _)).less hkm, HF.out, by have := hmc.out; omega, by omega⟩
        intro v hv
        simp only [List.mem_cons, List.not_mem_nil, or_false] at hv
        rcases hv with rfl | rfl | rfl | rfl | rfl
        · exact g1'.below hz (Nat.le_refl _)
        · exact g2'.below hz (Nat.le_refl _)
        · exact g3'.below hz (Nat.le_refl _)
        · exact g4'.below hz (Nat.le_refl _)
        · exact g5'.below hz (Nat.le_refl _))
      have hC := hid (Ce.made (w := w6) (l := [Value.slice A2 m c2, .slice A3 m c3, .slice A1 n1 c1, .slice A6 (m + n1) c6, .slice A2 k c2]) (T := 23) (g := w6.heap.size) rfl)
      have BG := hid (BF.out.alloc BF.out.size (.cells #[.slice A2 m c2, .slice A3 m c3, .slice A1 n1 c1, .slice A6 (m + n1) c6, .slice A2 k c2] 23))
      have HV5 := hid (show [Value.slice A2 m c2, .slice A3 m c3, .slice A1 n1 c1, .slice A6 (m + n1) c6, .slice A2 k c2].length = 5 from rfl)
      change Hid (Ce (w6.alloc (.cells #[.slice A2 m c2, .slice A3 m c3, .slice A1 n1 c1, .slice A6 (m + n1) c6, .slice A2 k c2] 23)) _ _) at hC
      generalize w6.alloc (.cells #[.slice A2 m c2, .slice A3 m c3, .slice A1 n1 c1, .slice A6 (m + n1) c6, .slice A2 k c2] 23) = w8 at *
      generalize w6.heap.size = R at *
      generalize [Value.slice A2 m c2, .slice A3 m c3, .slice A1 n1 c1, .slice A6 (m + n1) c6, .slice A2 k c2] = vs at *
      clear S14 SX R14 H6 B6 BE BF HF HG1 HN1 hmc hc3 hc6 i0 i1 WS
      go_loopw [12] (fun i wr => RowsAt W R vs i wr) (fun i _ => 5 - (intOf i).toNat)
      case atStart => exact ⟨0, by omega, rfl, BG.out, hC.out, hV.out⟩
      case round =>
        clear BG hC hV
        obtain ⟨k, hk, rfl, hb, hC, hV⟩ := hrel
        by_cases hlt : k < 5
        · have hkl : k < vs.length := by rw [HV5.out]; exact hlt
          have hcell := hC.2.1 k _ (List.getElem?_eq_getElem hkl)
          obtain ⟨A, n, c, g, hv, hby, hgb, hnc, hn200⟩ := hV _ (List.getElem_mem hkl)
          rw [hv] at hcell
          have i0 : (0 : Int) ≤ k := by omega
          have i1 : (k : Int) < 5 := by omega
          have X := hid hcell
          have CC := hid hC
          have VV := hid hV
          have BB := hid hb
          have YY := hid hby
          have GG := hid hgb
          obtain ⟨l, hl⟩ : ∃ l, l = wl g n := ⟨_, rfl⟩
          obtain ⟨er, her⟩ : ∃ er, er = we g n := ⟨_, rfl⟩
          obtain ⟨kl, hkl2⟩ : ∃ kl, kl = l.length := ⟨_, rfl⟩
          have hkb : kl ≤ 200 := by have := wl_len g n; rw [hkl2, hl]; omega
          have Q1 := walk_any A n c g wr YY.out GG.out (by omega)
          unfold Walked at Q1
          rw [← hl, ← her, ← hkl2] at Q1
          have KL := hid hkl2
          have HL := hid hl
          have HE := hid her
          replace Q1 := hid Q1
          clear hkl hcell hC hV hb hby hgb hl her hkl2 hv
          have x0 := X.out
          go_wp2_with fail
          refine Q1.out.mono ?_
          rintro e w1 ⟨A1, c1, rfl, ho, hb⟩
          have Y1 := hid (OwO.sl ho KL.out)
          have C1 := hid (CC.out.below hb)
          have V1 := hid (fun v hv => (VV.out v hv).below hb (Nat.le_refl _))
          have B1 := hid (BB.out.trans (hb.mono BB.out.size))
          have YY1 := hid (YY.out.below hb (Nat.le_refl _))
          have x1 : w1.cell? ⟨R, k, none⟩ = some (.slice A n c) := (hb.cell (p := ⟨R, k, none⟩) CC.out.1).trans x0
          clear ho hb Q1 x0 X CC VV BB YY
          have Q2 := rwalk_any A n c g w1 YY1.out GG.out (by omega)
          unfold Walked at Q2
          rw [← HL.out, ← HE.out, ← KL.out] at Q2
          replace Q2 := hid Q2
          go_wp2_with fail
          refine Q2.out.mono ?_
          rintro e w2 ⟨A2, c2, rfl, ho, hb⟩
          have Z2 := hid (OwO.sl ho KL.out)
          have Y2 := hid (SlO.below Y1.out hb (Nat.le_refl _))
          have C2 := hid (C1.out.below hb)
          have V2 := hid (fun v hv => (V1.out v hv).below hb (Nat.le_refl _))
          have B2 := hid (B1.out.trans (hb.mono B1.out.size))
          have YY2 := hid (YY1.out.below hb (Nat.le_refl _))
          have x2 : w2.cell? ⟨R, k, none⟩ = some (.slice A n c) := (hb.cell (p := ⟨R, k, none⟩) C1.out.1).trans x1
          clear ho hb Q2 x1 C1 V1 B1 YY1 Y1
          obtain ⟨⟨s1, s2, s3, s4⟩, hs⟩ : ∃ x, x = stamp g n := ⟨_, rfl⟩
          have Q3 := stamp_any A n c g w2 YY2.out GG.out (by omega) hnc
          rw [← hs] at Q3
          unfold StV at Q3
          simp only at Q3
          have HS := hid hs
          replace Q3 := hid Q3
          clear hs
          go_wp2_with fail
          refine Q3.out.mono ?_
          rintro e w3 ⟨rfl, hb⟩
          have Z3 := hid (SlO.below Z2.out hb (Nat.le_refl _))
          have Y3 := hid (SlO.below Y2.out hb (Nat.le_refl _))
          have C3 := hid (C2.out.below hb)
          have V3 := hid (fun v hv => (V2.out v hv).below hb (Nat.le_refl _))
          have B3 := hid (B2.out.trans (hb.mono B2.out.size))
          have YY3 := hid (YY2.out.below hb (Nat.le_refl _))
          have x3 : w3.cell? ⟨R, k, none⟩ = some (.slice A n c) := (hb.cell (p := ⟨R, k, none⟩) C2.out.1).trans x2
          clear hb Q3 x2 C2 V2 B2 YY2 Y2 Z2
          have Q4 := rstamp_any A n c g w3 YY3.out GG.out (by omega) hnc
          rw [← HS.out] at Q4
          unfold StV at Q4
          simp only at Q4
          replace Q4 := hid Q4
          go_wp2_with fail
          refine Q4.out.mono ?_
          rintro e w4 ⟨rfl, hb⟩
          have Z4 := hid (SlO.below Z3.out hb (Nat.le_refl _))
          have Y4 := hid (SlO.below Y3.out hb (Nat.le_refl _))
          have C4 := hid (C3.out.below hb)
          have V4 := hid (fun v hv => (V3.out v hv).below hb (Nat.le_refl _))
          have B4 := hid (B3.out.trans (hb.mono B3.out.size))
          clear hb Q4 x3 C3 V3 B3 YY3 Y3 Z3
          go_wp2_with fail
          refine (as_any Y4.out KL.out (by omega)).mono ?_
          rintro e w5 ⟨A5, c5, rfl, ho, hb⟩
          have Y5 := hid (OwO.sl ho KL.out)
          have Z5 := hid (SlO.below Z4.out hb (Nat.le_refl _))
          have C5 := hid (C4.out.below hb)
          have V5 := hid (fun v hv => (V4.out v hv).below hb (Nat.le_refl _))
          have B5 := hid (B4.out.trans (hb.mono B4.out.size))
          clear ho hb C4 V4 B4 Y4 Z4
          go_wp2_with fail
          refine (re_bool (b := true) (same_any Y5.out Z5.out KL.out KL.out (by omega) (by omega)) (by simp)).mono ?_
          rintro e w6 ⟨rfl, q6, rfl⟩
          go_wp2_with fail
          go_roundw
          case rel => exact ⟨k + 1, by omega, by go_num, below_drewN B5.out _, ⟨C5.out.1, C5.out.2.1, C5.out.2.2⟩, fun v hv => V5.out v hv⟩
          case measure => simp [intOf]; omega
        · have i1 : ¬ (k : Int) < 5 := by omega
          have BB := hid hb
          clear hb hC hV
          go_wp2_with fail
          go_ret
          exact ⟨rfl, BB.out⟩
  · have t1 : decide ((n1 : Int) > 60) = true := by simp; omega
    go_enter Try.func3, Try.ntmps3
    go_wp2_with fail
    refine (known_any _).mono ?_
    rintro e w ⟨rfl, hb1⟩
    go_wp2
    go_ret
    exact ⟨rfl, hb1⟩

set_option maxRecDepth 100000 in
theorem lifted (os : Os) (started : os.Started) (H : Type) (enc : TypeId × Value → H) :
    ReturnsInHanded {} Try.checked os 3 .any (Rows.optsWalksSpec.pre6 enc Try.prog Try.f3 [] false) (Rows.optsWalksSpec.post enc Try.prog Try.f3 false true false false) :=
  law_step (s := Rows.optsWalksSpec) started (by kernel_rfl) Try.func3
    (ChangeSpec.witness6 (s := Rows.optsWalksSpec) (enc := enc) (C := Try.checked) false ⟨#[], #[.slice none 0 0, .slice none 0 0, .int .i64 0, .int .u8 0], []⟩ 8 (by kernel_rfl) (by kernel_rfl) (by kernel_rfl) (by kernel_rfl))
    rfl (by rw [Try.params3]; decide +kernel) rfl Try.underlying4
    (fun ds h => by
      rw [Try.params3] at h
      match ds, h with
      | [_, _, _, _], _ => rfl)
    (fun W base args ds ps hval hA hsz => by
      rw [Try.params3] at hA hval hsz
      obtain ⟨v0, vs0, d0, ds0, p0, q0, hargs, rfl, rfl, h0, r0⟩ := trodAll_cons hA
      obtain ⟨v1, vs1, d1, ds1, p1, q1, rfl, rfl, rfl, h1, r1⟩ := trodAll_cons r0
      obtain ⟨v2, vs2, d2, ds2, p2, q2, rfl, rfl, rfl, h2, r2⟩ := trodAll_cons r1
      obtain ⟨v3, vs3, d3, ds3, p3, q3, rfl, rfl, rfl, h3, r3⟩ := trodAll_cons r2
      obtain ⟨rfl, rfl, rfl⟩ := trodAll_nil r3
      obtain rfl : args = #[v0, v1, v2, v3] := by cases args; simp_all
      obtain ⟨A0, n0, c0, g0, rfl, hn0, hc0, hs0, hw0, hl0, hd0⟩ := open_row Try.underlying22 Try.underlying3 (by kernel_rfl) (hval 0 22 v0 rfl rfl) h0
      have re0 : c0 * 8 ≤ 140737488351232 := by
        rcases hd0 with ⟨_, h0⟩ | ⟨xs, ys, h1, h2⟩
        · omega
        · have := sized_slice hsz (j := 0) (t := 22) (e := 3) rfl (by rw [h1]; rfl) Try.underlying22
          rw [h2, show Try.prog.bytesOf 3 = 8 from by kernel_rfl] at this
          simpa [reachBytes] using this
      obtain ⟨A1, n1, c1, g1, rfl, hn1, hc1, hs1, hw1, hl1, hd1⟩ := open_row Try.underlying23 Try.underlying5 (by kernel_rfl) (hval 1 23 v1 rfl rfl) h1
      have re1 : c1 * 1 ≤ 140737488351232 := by
        rcases hd1 with ⟨_, h0⟩ | ⟨xs, ys, h1, h2⟩
        · omega
        · have := sized_slice hsz (j := 1) (t := 23) (e := 5) rfl (by rw [h1]; rfl) Try.underlying23
          rw [h2, show Try.prog.bytesOf 5 = 1 from by kernel_rfl] at this
          simpa [reachBytes] using this
      obtain ⟨a2, rfl, rfl, rfl, w2⟩ := open_int Try.underlying3 (hval 2 3 v2 rfl rfl) h2
      obtain ⟨a3, rfl, rfl, rfl, w3⟩ := open_int Try.underlying5 (hval 3 5 v3 rfl rfl) h3
      exact walk W A0 n0 c0 g0 hn0 hc0 hs0 (fun j => bounds_i64 (hw0 j)) hl0 re0 A1 n1 c1 g1 hn1 hc1 hs1 (fun j => bounds_u8 (hw1 j)) hl1 re1 a2 (bounds_i64 w2) a3 (bounds_u8 w3))

theorem proved : Rows.OptsWalksSaid :=
  OpenClaim.holds_of_wide 3 Try.f3 rfl rfl rfl rfl rfl rfl rfl ⟨rfl, rfl, rfl, rfl, rfl⟩ rfl rfl rfl rfl rfl (by kernel_rfl) Try.func3 (by kernel_rfl)
    (of_decide_eq_true (by kernel_rfl)) (by unfold Func.isWrapper; first | (rw [if_pos (by decide +kernel)]; kernel_rfl) | (rw [if_neg (by decide +kernel)]; exact ⟨rfl, rfl⟩))
    (fun os started H enc _ => lifted os started H enc)
end Go.Proofs.Ytdbfpoplhmonhaa.optsWalks
