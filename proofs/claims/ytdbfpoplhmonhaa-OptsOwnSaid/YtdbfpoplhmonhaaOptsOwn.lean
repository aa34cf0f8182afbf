/- roundhouselaw4.OptsOwn answers true for all numbers; no condition. -/
import Derived.Test.YtdbfpoplhmonhaaOptTile
import Derived.Deep.RegionWith
import Derived.Deep.Cut
import Derived.BigQuiet
import Derived.Deep.RegionHeld3
import Derived.Test.YtdbfpoplhmonhaaTakes
namespace Go.Proofs.Ytdbfpoplhmonhaa.optsOwn
set_option linter.unusedVariables false
set_option linter.unusedSimpArgs false
open Go.RowKit Go.ChangeShapes Go.WideShapes Go.ChangeAt

theorem then_ {W w1 w2 : World} (h : Below W.heap.size W w1) (hb : Below w1.heap.size w1 w2) : Below W.heap.size W w2 := h.trans (hb.mono h.size)
set_option maxRecDepth 100000 in
set_option maxHeartbeats 4000000 in
theorem walk (W : World) (A0 : Option Addr) (n0 c0 : Nat) (g0 : Nat → Int) (hn0 : n0 ≤ c0) (hc0 : c0 ≤ maxLen) (h0 : Is W A0 n0 g0) (hg0 : IsI g0) (hl0 : ∀ ad, A0 = some ad → 0 < n0 → ad.block < W.heap.size) (re0 : c0 * 8 ≤ 140737488351232) (a1 : Int) (r1 : 0 ≤ a1 ∧ a1 ≤ 4294967295) (a2 : Int) (r2 : 0 ≤ a2 ∧ a2 ≤ 4294967295) :
    Calls Try.prog 12 #[.slice A0 n0 c0, .int .u32 a1, .int .u32 a2] W fun e w' => e = .returned (.bool true) ∧ Below W.heap.size W w' := by
  have u1 : U32 a1 := by unfold U32; omega
  have u2 : U32 a2 := by unfold U32; omega
  have U1 := hid u1
  have U2 := hid u2
  have HG0 := hid hg0
  clear hc0 hl0 hg0 u1 u2 r1 r2
  go_enter Try.func12, Try.ntmps12
  go_wp2_with fail
  refine (known_any _).mono ?_
  rintro e w ⟨rfl, hb1⟩
  have B := hid hb1
  have R0 := hid (h0.below hb1 (Nat.le_refl _))
  clear hb1 h0
  go_wp2_with fail
  refine (some_any A0 n0 c0 g0 w R0.out HG0.out (by omega)).mono ?_
  rintro e w1 ⟨A2, m, c2, rfl, hm, ⟨f, hf, ho⟩, hb⟩
  have HF := hid hf
  have B1 := hid hb
  have HO := hid ho
  clear ho hf hb R0 HG0
  go_wp2_with fail
  refine (make_any a1 a2 w1 U1.out U2.out).mono ?_
  rintro e w2 ⟨A3, c3, rfl, h3, hb⟩
  have H3 := hid (Ow.sl1 h3)
  have O2 := hid (Ow.keep HO.out hb (Nat.le_refl _))
  have B2 := hid (B1.out.trans (hb.mono B1.out.size))
  clear h3 hb HO B1
  go_upto_region 4 with (at_builtin; refine wp_app_b rfl (.tmp 21) (.tmp 24) rfl w.heap.size _ m f rfl O2.out _ 12 _ (mkB a1 a2) rfl H3.out (by omega) B2.out.size ?_; intro A4 c4 w3 q1 q2 q3 q4 q5 q6; have H4 := hid q1; have hc4 := hid q2; have B3 := hid (B2.out.trans q4); clear q1 q2 q3 q4 q5 q6 O2 H3 B2)
  obtain ⟨G, hG⟩ : ∃ G : Nat → Int, G = fun j => if j < m then f j else mkB a1 a2 (j - m) := ⟨_, rfl⟩
  have HGB : Hid (IsB G) := hid (by rw [hG]; intro j; dsimp only; split; exact HF.out j; exact mkB_bd U1.out U2.out _)
  have S3 : Hid (By w3 A4 (m + 12) G) := hid (by rw [hG]; exact H4.out.sl1)
  have BF := hid (B.out.trans (B3.out.mono B.out.size))
  clear H4 hG HF B B3
  have hn60 : m + 12 ≤ 60 := by omega
  generalize hn : m + 12 = n at *
  clear hn
  have cx := conv_str c4 S3.out
  go_upto_region 5 with (fail)
  clear cx
  have Ql := walk_any A4 n c4 G w3 S3.out HGB.out (by omega)
  unfold Walked at Ql
  obtain ⟨l, hl⟩ : ∃ x, x = wl G n := ⟨_, rfl⟩
  obtain ⟨er, her⟩ : ∃ x, x = we G n := ⟨_, rfl⟩
  obtain ⟨kl, hkl⟩ : ∃ k, k = l.length := ⟨_, rfl⟩
  have bl := wl_len G n
  rw [← hl] at Ql bl
  rw [← her] at Ql
  rw [← hkl] at Ql bl
  have Ll := hid hl
  have El := hid her
  have Kl := hid hkl
  have Ql' := hid Ql
  clear Ql hl her hkl
  go_wp2_with fail
  have BC := hid (Below.refl w3.heap.size w3)
  refine Ql'.out.mono ?_
  rintro e w4 ⟨A5, c5, rfl, ho, hb⟩
  have Yl := hid (OwO.sl ho Kl.out)
  have Tl := hid ho
  have BC := hid (BC.out.trans (hb.mono BC.out.size))
  clear ho hb Ql'
  have O5 : Hid (∃ f5, Ow w4 w3.heap.size 42 3 (.slice A5 kl c5) kl f5) := hid ⟨_, by have := Tl.out; unfold OwO at this; rw [← Kl.out] at this; exact this⟩
  clear Yl Tl
  go_wp2_with fail
  go_loopw [11] (fun i wr => ∃ k : Nat, k ≤ kl ∧ i = .int .i64 (k : Int) ∧ Below w3.heap.size w3 wr ∧ ∃ f5, Ow wr w3.heap.size 42 3 (.slice A5 kl c5) kl f5) (fun i _ => kl - (intOf i).toNat)
  case atStart => exact ⟨0, by omega, rfl, BC.out, O5.out⟩
  case round =>
    clear BC O5
    obtain ⟨k, hk, rfl, hb, f5, ho⟩ := hrel
    by_cases hlt : k < kl
    · have i0 : (0 : Int) ≤ k := by omega
      have i1 : (k : Int) < kl := by omega
      obtain ⟨g, rfl, hB, hgs, hce, hfr⟩ := Ow.block_ ho (by omega)
      have c1 := hce (k * 3 + 1) (by omega)
      have f1 := hfr (k * 3 + 1)
      have HO5 := hid (Ow.store_ ho (k * 3 + 1) (.int .i64 (-9)))
      have HB5 := hid (hb.setCell (p := ⟨g, k * 3 + 1, none⟩) hB (.int .i64 (-9)))
      clear hce hfr ho hb
      go_wp2_with fail
      go_roundw
      case rel => exact ⟨k + 1, by omega, by go_num, HB5.out, _, HO5.out⟩
      case measure => simp [intOf]; omega
    · have i1 : ¬ (k : Int) < kl := by omega
      have B5 := hid hb
      clear hb ho
      obtain ⟨wo, rfl⟩ : ∃ wo : World, wo = wr := ⟨_, rfl⟩
      go_wp2_with fail
      refine (make_any a1 a2 wo U1.out U2.out).mono ?_
      rintro e w6 ⟨A6, c6, rfl, h6, hb⟩
      have BM := hid hb
      have O6 : Hid (∃ f6, Ow w6 wo.heap.size 5 1 (.slice A6 12 c6) 12 f6) := hid ⟨_, h6⟩
      clear h6 hb
      go_wp2_with fail
      go_loopw [13] (fun i wq => ∃ k : Nat, k ≤ 12 ∧ i = .int .i64 (k : Int) ∧ Below wo.heap.size wo wq ∧ ∃ f6, Ow wq wo.heap.size 5 1 (.slice A6 12 c6) 12 f6) (fun i _ => 12 - (intOf i).toNat)
      case atStart => exact ⟨0, by omega, rfl, BM.out, O6.out⟩
      case round =>
        clear BM O6
        obtain ⟨j, hj, rfl, hb, f6, ho⟩ := hrel
        by_cases hjt : j < 12
        · have j0 : (0 : Int) ≤ j := by omega
          have j1 : (j : Int) < 12 := by omega
          obtain ⟨g, rfl, hB, hgs, hce, hfr⟩ := Ow.block_ ho (by omega)
          have c1 := hce j (by omega)
          have f1 := hfr j
          have HO6 := hid (Ow.store_ ho j (.int .u8 0))
          have HB6 := hid (hb.setCell (p := ⟨g, j, none⟩) hB (.int .u8 0))
          clear hce hfr ho hb
          go_wp2_with fail
          go_roundw
          case rel => exact ⟨j + 1, by omega, by go_num, HB6.out, _, HO6.out⟩
          case measure => simp [intOf]; omega
        · have j1 : ¬ (j : Int) < 12 := by omega
          have B7 := hid (B5.out.trans (hb.mono B5.out.size))
          have S7 := hid (S3.out.below B7.out (Nat.le_refl _))
          clear hb ho B5 S3
          have BG := hid (BF.out.trans (B7.out.mono BF.out.size))
          clear BF B7
          go_wp2_with fail
          have Q8 := walk_any A4 n c4 G wr S7.out HGB.out (by omega)
          unfold Walked at Q8
          rw [← Ll.out, ← El.out, ← Kl.out] at Q8
          replace Q8 := hid Q8
          refine Q8.out.mono ?_
          rintro e w8 ⟨A8, c8, rfl, ho, hb⟩
          have Y8 := hid (OwO.sl ho Kl.out)
          have S8 := hid (S7.out.below hb (Nat.le_refl _))
          have B8 := hid (then_ BG.out hb)
          clear ho hb Q8 S7 BG
          have Q9 := rwalk_any A4 n c4 G w8 S8.out HGB.out (by omega)
          unfold Walked at Q9
          rw [← Ll.out, ← El.out, ← Kl.out] at Q9
          replace Q9 := hid Q9
          go_wp2_with fail
          refine Q9.out.mono ?_
          rintro e w9 ⟨A9, c9, rfl, ho, hb⟩
          have Y9 := OwO.sl ho Kl.out
          have Z9 := SlO.below Y8.out hb (Nat.le_refl _)
          have S9 := S8.out.below hb (Nat.le_refl _)
          have B9 := then_ B8.out hb
          clear ho hb Q9 S8 B8 Y8
          have hkl := Nat.le_trans bl hn60
          clear Ll El
          have BD : Hid (Below W.heap.size W w9.drew) := hid (Below.drew B9)
          have SD : Hid (By w9.drew A4 n G) := hid S9
          have YD : Hid (SlO w9.drew A9 l) := hid Y9
          have ZD : Hid (SlO w9.drew A8 l) := hid Z9
          clear Y9 Z9 S9 B9
          go_wp2_with fail
          refine wp_region_held_drew (S := fun w' => Below W.heap.size W w' ∧ By w' A4 n G ∧ (convert 23 9 (.slice A4 n c4)).run Try.prog w' = .ok (.string (bstr G n)) w' ∧ SlO w' A8 l ∧ SlO w' A9 l) (by kernel_rfl) ?_ (fun hHeld => ?_)
          · exact ⟨BD.out, SD.out, conv_str c4 SD.out, ZD.out, YD.out⟩
          refine tk 0 (v := ?_) rfl (by kernel_rfl) (by kernel_rfl) (by kernel_rfl) (fun _ _ _ h => h) rfl ?_ (by assumption) ?_; rotate_left; (focus (intro w hSw; (try dsimp only at hSw); go_simp; (try with_reducible rfl))); (try simp only [Act.put, List.setIfInBounds_toArray, List.set_cons_zero, List.set_cons_succ])
          refine tk 1 (v := ?_) rfl (by kernel_rfl) (by kernel_rfl) (by kernel_rfl) (fun _ _ _ h => h) rfl ?_ (by assumption) ?_; rotate_left; (focus (intro w hSw; (try dsimp only at hSw); go_simp; (try with_reducible rfl))); (try simp only [Act.put, List.setIfInBounds_toArray, List.set_cons_zero, List.set_cons_succ])
          refine tk 2 (v := ?_) rfl (by kernel_rfl) (by kernel_rfl) (by kernel_rfl) (fun _ _ _ h => h) rfl ?_ (by assumption) ?_; rotate_left; (focus (intro w hSw; (try dsimp only at hSw); go_simp; (try with_reducible rfl))); (try simp only [Act.put, List.setIfInBounds_toArray, List.set_cons_zero, List.set_cons_succ])
          refine tk 3 (v := ?_) rfl (by kernel_rfl) (by kernel_rfl) (by kernel_rfl) (fun _ _ _ h => h) rfl ?_ (by assumption) ?_; rotate_left; (focus (intro w hSw; (try dsimp only at hSw); go_simp; (try with_reducible rfl))); (try simp only [Act.put, List.setIfInBounds_toArray, List.set_cons_zero, List.set_cons_succ])
          refine tk 4 (v := ?_) rfl (by kernel_rfl) (by kernel_rfl) (by kernel_rfl) (fun _ _ _ h => h) rfl ?_ (by assumption) ?_; rotate_left; (focus (intro w hSw; (try dsimp only at hSw); go_simp; (try with_reducible rfl))); (try simp only [Act.put, List.setIfInBounds_toArray, List.set_cons_zero, List.set_cons_succ])
          refine tk 5 (v := ?_) rfl (by kernel_rfl) (by kernel_rfl) (by kernel_rfl) (fun _ _ _ h => h) rfl ?_ (by assumption) ?_; rotate_left; (focus (intro w hSw; (try dsimp only at hSw); go_simp; (try with_reducible rfl))); (try simp only [Act.put, List.setIfInBounds_toArray, List.set_cons_zero, List.set_cons_succ])
          refine tk 6 (v := ?_) rfl (by kernel_rfl) (by kernel_rfl) (by kernel_rfl) (fun _ _ _ h => h) rfl ?_ (by assumption) ?_; rotate_left; (focus (intro w hSw; (try dsimp only at hSw); go_simp; (try with_reducible rfl))); (try simp only [Act.put, List.setIfInBounds_toArray, List.set_cons_zero, List.set_cons_succ])
          refine tk 7 (v := ?_) rfl (by kernel_rfl) (by kernel_rfl) (by kernel_rfl) (fun _ _ _ h => h) rfl ?_ (by assumption) ?_; rotate_left; (focus (intro w hSw; (try dsimp only at hSw); go_simp; (try with_reducible rfl))); (try simp only [Act.put, List.setIfInBounds_toArray, List.set_cons_zero, List.set_cons_succ])
          refine tk 8 (v := ?_) rfl (by kernel_rfl) (by kernel_rfl) (by kernel_rfl) (fun _ _ _ h => h) rfl ?_ (by assumption) ?_; rotate_left; (focus (intro w hSw; (try dsimp only at hSw); go_simp; (try with_reducible rfl))); (try simp only [Act.put, List.setIfInBounds_toArray, List.set_cons_zero, List.set_cons_succ])
          refine tk 9 (v := ?_) rfl (by kernel_rfl) (by kernel_rfl) (by kernel_rfl) (fun _ _ _ h => h) rfl ?_ (by assumption) ?_; rotate_left; (focus (intro w hSw; (try dsimp only at hSw); go_simp; (try with_reducible rfl))); (try simp only [Act.put, List.setIfInBounds_toArray, List.set_cons_zero, List.set_cons_succ])
          refine tk 10 (v := ?_) rfl (by kernel_rfl) (by kernel_rfl) (by kernel_rfl) (fun _ _ _ h => h) rfl ?_ (by assumption) ?_; rotate_left; (focus (intro w hSw; (try dsimp only at hSw); go_simp; (try with_reducible rfl))); (try simp only [Act.put, List.setIfInBounds_toArray, List.set_cons_zero, List.set_cons_succ])
          refine tk 12 (v := ?_) rfl (by kernel_rfl) (by kernel_rfl) (by kernel_rfl) (fun _ _ _ h => h) rfl ?_ (by assumption) ?_; rotate_left; (focus (intro w hSw; (try dsimp only at hSw); go_simp; (try with_reducible rfl))); (try simp only [Act.put, List.setIfInBounds_toArray, List.set_cons_zero, List.set_cons_succ])
          refine only 11 rfl (by kernel_rfl) rfl (fun K hK => ?_)
          go_simp
          refine (as_any hHeld.2.2.2.1 Kl.out (by omega)).mono ?_
          rintro e w10 ⟨A10, c10, rfl, h10, hb10⟩
          try go_wp2_with fail
          refine hK.out _ _ ?_ (fun hHeld => ?_)
          · exact ⟨then_ hHeld.1 hb10, Sl.below hHeld.2.1 hb10 (Nat.le_refl _), conv_str c4 (Sl.below hHeld.2.1 hb10 (Nat.le_refl _)), SlO.below hHeld.2.2.2.1 hb10 (Nat.le_refl _), SlO.below hHeld.2.2.2.2 hb10 (Nat.le_refl _)⟩
          clear hK
          try simp only [Act.put, List.setIfInBounds_toArray, List.set_cons_zero, List.set_cons_succ]
          refine more (fun w' => (Below W.heap.size W w' ∧ By w' A4 n G ∧ (convert 23 9 (.slice A4 n c4)).run Try.prog w' = .ok (.string (bstr G n)) w' ∧ SlO w' A8 l ∧ SlO w' A9 l) ∧ SlO w' A10 l) (fun w' h => h.1) (⟨by assumption, OwO.sl h10 Kl.out⟩) (fun hHeld2 => ?_)
          refine only 13 rfl (by kernel_rfl) rfl (fun K hK => ?_)
          go_simp
          refine (re_bool (b := true) (same_any hHeld2.2 hHeld2.1.2.2.2.2 Kl.out Kl.out (by omega) (by omega)) (by simp)).mono ?_
          rintro e w11 ⟨rfl, q11, rfl⟩
          try go_wp2_with fail
          refine hK.out _ _ ?_ (fun hHeld => ?_)
          · exact ⟨⟨below_drewN hHeld2.1.1 _, hHeld2.1.2.1, conv_str c4 (Sl.drewN hHeld2.1.2.1 _), hHeld2.1.2.2.2.1, hHeld2.1.2.2.2.2⟩, hHeld2.2⟩
          clear hK
          try simp only [Act.put, List.setIfInBounds_toArray, List.set_cons_zero, List.set_cons_succ]
          refine tk 14 (v := ?_) rfl (by kernel_rfl) (by kernel_rfl) (by kernel_rfl) (fun _ _ _ h => h) rfl ?_ (by assumption) ?_; rotate_left; (focus (intro w hSw; (try dsimp only at hSw); go_simp; (try with_reducible rfl))); (try simp only [Act.put, List.setIfInBounds_toArray, List.set_cons_zero, List.set_cons_succ])
          refine tk 15 (v := ?_) rfl (by kernel_rfl) (by kernel_rfl) (by kernel_rfl) (fun _ _ _ h => h) rfl ?_ (by assumption) ?_; rotate_left; (focus (intro w hSw; (try dsimp only at hSw); go_simp; (try with_reducible rfl))); (try simp only [Act.put, List.setIfInBounds_toArray, List.set_cons_zero, List.set_cons_succ])
          refine tk 16 (v := ?_) rfl (by kernel_rfl) (by kernel_rfl) (by kernel_rfl) (fun _ _ _ h => h) rfl ?_ (by assumption) ?_; rotate_left; (focus (intro w hSw; (try dsimp only at hSw); go_simp; (try with_reducible rfl))); (try simp only [Act.put, List.setIfInBounds_toArray, List.set_cons_zero, List.set_cons_succ])
          refine tk 17 (v := ?_) rfl (by kernel_rfl) (by kernel_rfl) (by kernel_rfl) (fun _ _ _ h => h) rfl ?_ (by assumption) ?_; rotate_left; (focus (intro w hSw; (try dsimp only at hSw); go_simp; (try with_reducible rfl))); (try simp only [Act.put, List.setIfInBounds_toArray, List.set_cons_zero, List.set_cons_succ])
          refine tk 20 (v := ?_) rfl (by kernel_rfl) (by kernel_rfl) (by kernel_rfl) (fun _ _ _ h => h) rfl ?_ (by assumption) ?_; rotate_left; (focus (intro w hSw; (try dsimp only at hSw); go_simp; (try with_reducible rfl))); (try simp only [Act.put, List.setIfInBounds_toArray, List.set_cons_zero, List.set_cons_succ])
          refine tk 21 (v := ?_) rfl (by kernel_rfl) (by kernel_rfl) (by kernel_rfl) (fun _ _ _ h => h) rfl ?_ (by assumption) ?_; rotate_left; (focus (intro w hSw; (try dsimp only at hSw); go_simp; (try with_reducible rfl))); (try simp only [Act.put, List.setIfInBounds_toArray, List.set_cons_zero, List.set_cons_succ])
          have hS13 : (fun w' => (Below W.heap.size W w' ∧ By w' A4 n G ∧ (convert 23 9 (.slice A4 n c4)).run Try.prog w' = .ok (.string (bstr G n)) w' ∧ SlO w' A8 l ∧ SlO w' A9 l) ∧ SlO w' A10 l) (w10.drewN q11) := by assumption
          refine only 18 rfl (by kernel_rfl) rfl (fun K hK => ?_)
          go_simp
          refine (make_any a1 a2 _ U1.out U2.out).mono ?_
          rintro e w12 ⟨A12, c12, rfl, h12, hb12⟩
          try go_wp2_with fail
          refine hK.out _ _ ?_ (fun hHeld => ?_)
          · exact ⟨⟨then_ hS13.1.1 hb12, Sl.below hS13.1.2.1 hb12 (Nat.le_refl _), conv_str c4 (Sl.below hS13.1.2.1 hb12 (Nat.le_refl _)), SlO.below hS13.1.2.2.2.1 hb12 (Nat.le_refl _), SlO.below hS13.1.2.2.2.2 hb12 (Nat.le_refl _)⟩, SlO.below hS13.2 hb12 (Nat.le_refl _)⟩
          clear hK
          try simp only [Act.put, List.setIfInBounds_toArray, List.set_cons_zero, List.set_cons_succ]
          refine more (fun w' => ((Below W.heap.size W w' ∧ By w' A4 n G ∧ (convert 23 9 (.slice A4 n c4)).run Try.prog w' = .ok (.string (bstr G n)) w' ∧ SlO w' A8 l ∧ SlO w' A9 l) ∧ SlO w' A10 l) ∧ (convert 23 9 (.slice A12 12 c12)).run Try.prog w' = .ok (.string (bstr (mkB a1 a2) 12)) w') (fun w' h => h.1) (⟨by assumption, conv_str c12 (Ow.sl1 h12)⟩) (fun hHeld3 => ?_)
          refine tk 19 (v := ?_) rfl (by kernel_rfl) (by kernel_rfl) (by kernel_rfl) (fun _ _ _ h => h) rfl ?_ (by assumption) ?_; rotate_left; (focus (intro w hSw; (try dsimp only at hSw); go_simp; (try with_reducible rfl))); (try simp only [Act.put, List.setIfInBounds_toArray, List.set_cons_zero, List.set_cons_succ])
          refine only 22 rfl (by kernel_rfl) rfl (fun K hK => ?_)
          go_simp
          refine (rmake_any a1 a2 _ U1.out U2.out).mono ?_
          rintro e w13 ⟨A13, c13, rfl, h13, hb13⟩
          try go_wp2_with fail
          refine hK.out _ _ ?_ (fun hHeld => ?_)
          · exact ⟨⟨⟨then_ hHeld3.1.1.1 hb13, Sl.below hHeld3.1.1.2.1 hb13 (Nat.le_refl _), conv_str c4 (Sl.below hHeld3.1.1.2.1 hb13 (Nat.le_refl _)), SlO.below hHeld3.1.1.2.2.2.1 hb13 (Nat.le_refl _), SlO.below hHeld3.1.1.2.2.2.2 hb13 (Nat.le_refl _)⟩, SlO.below hHeld3.1.2 hb13 (Nat.le_refl _)⟩, conv_str c12 (Sl.below (Ow.sl1 h12) hb13 (Nat.le_refl _))⟩
          clear hK
          try simp only [Act.put, List.setIfInBounds_toArray, List.set_cons_zero, List.set_cons_succ]
          refine more (fun w' => (((Below W.heap.size W w' ∧ By w' A4 n G ∧ (convert 23 9 (.slice A4 n c4)).run Try.prog w' = .ok (.string (bstr G n)) w' ∧ SlO w' A8 l ∧ SlO w' A9 l) ∧ SlO w' A10 l) ∧ (convert 23 9 (.slice A12 12 c12)).run Try.prog w' = .ok (.string (bstr (mkB a1 a2) 12)) w') ∧ (convert 23 9 (.slice A13 12 c13)).run Try.prog w' = .ok (.string (bstr (mkB a1 a2) 12)) w') (fun w' h => h.1) (⟨by assumption, conv_str c13 (Ow.sl1 h13)⟩) (fun hHeld4 => ?_)
          refine tk 23 (v := ?_) rfl (by kernel_rfl) (by kernel_rfl) (by kernel_rfl) (fun _ _ _ h => h) rfl ?_ (by assumption) ?_; rotate_left; (focus (intro w hSw; (try dsimp only at hSw); go_simp; (try with_reducible rfl))); (try simp only [Act.put, List.setIfInBounds_toArray, List.set_cons_zero, List.set_cons_succ])
          refine tk 24 (v := ?_) rfl (by kernel_rfl) (by kernel_rfl) (by kernel_rfl) (fun _ _ _ h => h) rfl ?_ (by assumption) ?_; rotate_left; (focus (intro w hSw; (try dsimp only at hSw); go_simp; (try with_reducible rfl))); (try simp only [Act.put, List.setIfInBounds_toArray, List.set_cons_zero, List.set_cons_succ])
          refine tk 25 (v := ?_) rfl (by kernel_rfl) (by kernel_rfl) (by kernel_rfl) (fun _ _ _ h => h) rfl ?_ (by assumption) ?_; rotate_left; (focus (intro w hSw; (try dsimp only at hSw); go_simp; (try with_reducible rfl))); (try simp only [Act.put, List.setIfInBounds_toArray, List.set_cons_zero, List.set_cons_succ])
          refine tk 26 (v := ?_) rfl (by kernel_rfl) (by kernel_rfl) (by kernel_rfl) (fun _ _ _ h => h) rfl ?_ (by assumption) ?_; rotate_left; (focus (intro w hSw; (try dsimp only at hSw); go_simp; (try with_reducible rfl))); (try simp only [Act.put, List.setIfInBounds_toArray, List.set_cons_zero, List.set_cons_succ])
          refine wpAnyH_done (by kernel_rfl) ?_ _
          go_wp2_with fail
          go_ret
          exact ⟨rfl, hHeld4.1.1.1.1⟩

set_option maxRecDepth 100000 in
theorem lifted (os : Os) (started : os.Started) (H : Type) (enc : TypeId × Value → H) :
    ReturnsInHanded {} Try.checked os 12 .any (Rows.optsOwnSpec.pre6 enc Try.prog Try.f12 [] false) (Rows.optsOwnSpec.post enc Try.prog Try.f12 false true false false) :=
  law_step (s := Rows.optsOwnSpec) started (by kernel_rfl) Try.func12
    (ChangeSpec.witness6 (s := Rows.optsOwnSpec) (enc := enc) (C := Try.checked) false ⟨#[], #[.slice none 0 0, .int .u32 0, .int .u32 0], []⟩ 8 (by kernel_rfl) (by kernel_rfl) (by kernel_rfl) (by kernel_rfl))
    rfl (by rw [Try.params12]; decide +kernel) rfl Try.underlying4
    (fun ds h => by
      rw [Try.params12] at h
      match ds, h with
      | [_, _, _], _ => rfl)
    (fun W base args ds ps hval hA hsz => by
      rw [Try.params12] at hA hval hsz
      obtain ⟨v0, vs0, d0, ds0, p0, q0, hargs, rfl, rfl, h0, r0⟩ := trodAll_cons hA
      obtain ⟨v1, vs1, d1, ds1, p1, q1, rfl, rfl, rfl, h1, r1⟩ := trodAll_cons r0
      obtain ⟨v2, vs2, d2, ds2, p2, q2, rfl, rfl, rfl, h2, r2⟩ := trodAll_cons r1
      obtain ⟨rfl, rfl, rfl⟩ := trodAll_nil r2
      obtain rfl : args = #[v0, v1, v2] := by cases args; simp_all
      obtain ⟨A0, n0, c0, g0, rfl, hn0, hc0, hs0, hw0, hl0, hd0⟩ := open_row Try.underlying22 Try.underlying3 (by kernel_rfl) (hval 0 22 v0 rfl rfl) h0
      have re0 : c0 * 8 ≤ 140737488351232 := by
        rcases hd0 with ⟨_, h0⟩ | ⟨xs, ys, h1, h2⟩
        · omega
        · have := sized_slice hsz (j := 0) (t := 22) (e := 3) rfl (by rw [h1]; rfl) Try.underlying22
          rw [h2, show Try.prog.bytesOf 3 = 8 from by kernel_rfl] at this
          simpa [reachBytes] using this
      obtain ⟨a1, rfl, rfl, rfl, w1⟩ := open_int Try.underlying35 (hval 1 35 v1 rfl rfl) h1
      obtain ⟨a2, rfl, rfl, rfl, w2⟩ := open_int Try.underlying35 (hval 2 35 v2 rfl rfl) h2
      exact walk W A0 n0 c0 g0 hn0 hc0 hs0 (fun j => bounds_i64 (hw0 j)) hl0 re0 a1 (bounds_u32 w1) a2 (bounds_u32 w2))

theorem proved : Rows.OptsOwnSaid :=
  OpenClaim.holds_of_wide 12 Try.f12 rfl rfl rfl rfl rfl rfl rfl ⟨rfl, rfl, rfl, rfl, rfl⟩ rfl rfl rfl rfl rfl (by kernel_rfl) Try.func12 (by kernel_rfl)
    (of_decide_eq_true (by kernel_rfl)) (by unfold Func.isWrapper; first | (rw [if_pos (by decide +kernel)]; kernel_rfl) | (rw [if_neg (by decide +kernel)]; exact ⟨rfl, rfl⟩))
    (fun os started H enc _ => lifted os started H enc)
end Go.Proofs.Ytdbfpoplhmonhaa.optsOwn
