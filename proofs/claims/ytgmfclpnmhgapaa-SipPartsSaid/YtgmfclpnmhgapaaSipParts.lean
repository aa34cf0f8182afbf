/- roundhouselaw2.SipParts answers true for every argument; no condition. -/
import Derived.Test.YtgmfclpnmhgapaaSipLaw
import Derived.Test.YtgmfclpnmhgapaaInts
namespace Go.Proofs.Ytgmfclpnmhgapaa.sipParts
set_option linter.unusedVariables false
open Go.RowKit Go.ChangeShapes Go.WideShapes Go.ChangeAt

set_option linter.unusedSimpArgs false
set_option maxRecDepth 100000 in
set_option maxHeartbeats 4000000 in
theorem walk (W : World) (a : Int) (ra : 0 ≤ a ∧ a ≤ 18446744073709551615) (b : Int) (rb : 0 ≤ b ∧ b ≤ 18446744073709551615) (A1 : Option Addr) (n1 c1 : Nat) (g1 : Nat → Int) (hn1 : n1 ≤ c1) (hc1 : c1 ≤ maxLen) (h1 : Is W A1 n1 g1) (hg1 : IsI g1) (hl1 : ∀ ad, A1 = some ad → 0 < n1 → ad.block < W.heap.size) (re1 : c1 * 8 ≤ 140737488351232) (A2 : Option Addr) (n2 c2 : Nat) (g2 : Nat → Int) (hn2 : n2 ≤ c2) (hc2 : c2 ≤ maxLen) (h2 : Is W A2 n2 g2) (hg2 : IsI g2) (hl2 : ∀ ad, A2 = some ad → 0 < n2 → ad.block < W.heap.size) (re2 : c2 * 8 ≤ 140737488351232) :
    Calls Try.prog 12 #[.int .u64 a, .int .u64 b, .slice A1 n1 c1, .slice A2 n2 c2] W fun e w' => e = .returned (.bool true) ∧ Below W.heap.size W w' := by
  clear ra rb
  have q1 : n1 ≤ 17592186043904 := by omega
  have q2 : n2 ≤ 17592186043904 := by omega
  by_cases hbig : n1 + n2 ≤ 60
  · have t1 : decide ((n1 : Int) + n2 > 60) = false := by simp; omega
    obtain ⟨f, hf⟩ : ∃ f : Nat → Int, ∀ j, f j = if j < n1 then g1 j else g2 (j - n1) := ⟨_, fun _ => rfl⟩
    have hfi : IsI f := fun j => by
      rw [hf]
      split
      · exact hg1 j
      · exact hg2 _
    have HF := hid hf
    clear hf
    go_enter Try.func12, Try.ntmps12
    go_wp2_with fail
    refine (known_any _).mono ?_
    rintro e w ⟨rfl, hb1⟩
    have hs1 := h1.below hb1 (Nat.le_refl _)
    have hs2 := h2.below hb1 (Nat.le_refl _)
    go_wp2_with (first
      | (at_builtin
         refine wp_app_i0 rfl (.tmp 24) (.tmp 25) rfl (w.heap.size + 1) (.slice (some ⟨w.heap.size + 1, 0, none⟩) 0 0) rfl (fun _ => Ow.new' (by simp)) A1 n1 c1 g1 rfl ((hs1.alloc _).alloc _) (by omega) (by simp) ?_
         intro A3 c3 w3 o3 hc3 hm3 hb3 hgr3 ho3
         have hb3' : Below (w.heap.size + 1) (w.alloc (.cells #[.int .u64 a, .int .u64 b] 26)) w3 := ((Below.refl _ _).alloc (by simp) _).trans hb3
         have hs2' := (hs2.alloc (.cells #[.int .u64 a, .int .u64 b] 26)).below hb3' (by simp))
      | (at_builtin
         refine wp_app_i rfl (.tmp 26) (.tmp 27) rfl (w.heap.size + 1) (.slice A3 n1 c3) n1 g1 rfl o3 A2 n2 c2 g2 rfl hs2' (by omega) (by have := hb3'.size; simp at this; omega) ?_
         intro A4 c4 w4 o4 hc4 hm4 hb4 hgr4 ho4
         have hb4' : Below (w.heap.size + 1) (w.alloc (.cells #[.int .u64 a, .int .u64 b] 26)) w4 := hb3'.trans hb4
         obtain ⟨k0, k1, k2⟩ := (KeyIn.made (w := w) (a := a) (b := b) (T := 26)).below (hb4'.mono (by simp))))
    obtain ⟨N, hN⟩ : ∃ N : Nat, N = n1 + n2 := ⟨_, rfl⟩
    have O4 : Ow w4 (w.heap.size + 1) 3 1 (.slice A4 N c4) N (fun j => .int .i64 (f j)) := by
      rw [hN]
      exact o4.as_ fun j _ => by rw [HF.out]
    rw [← hN]
    rw [← hN] at hc4
    have hN60 : N ≤ 60 := by omega
    have HN := hid hN
    refine (words_any a b A4 N c4 f _ O4.sl1 hfi (by omega)).mono ?_
    rintro e w5 ⟨rfl, hb5⟩
    have O5 := O4.keep hb5 (Nat.le_refl _)
    have KB : Below (w.heap.size + 1) (w.alloc (.cells #[.int .u64 a, .int .u64 b] 26)) w5 := hb4'.trans (hb5.mono (by have := hb4'.size; simp at this; omega))
    clear hN o4 O4 hb4' hb4 hgr4 ho4 o3 hb3 hb3' hgr3 ho3 hs2' k0 k1 k2 hb5 t1
    go_wp2_with fail
    go_loopw [12] (fun j wr => ∃ k : Nat, k ≤ N ∧ j = .int .i64 k ∧ Below (w.heap.size + 1) w5 wr ∧ Ow wr (w.heap.size + 1) 3 1 (.slice A4 N c4) N (fun j => .int .i64 (if j < k then 0 else f j)))
      (fun j _ => N - (intOf j).toNat)
    case atStart => exact ⟨0, by omega, rfl, Below.refl _ _, O5.as_ fun j _ => by simp⟩
    case round =>
      obtain ⟨k, hk, rfl, hb2, hO2⟩ := hrel
      by_cases hlt : k < N
      · have i1 : (k : Int) < N := by omega
        obtain ⟨G, rfl, hB, _, cell5, fro5⟩ := hO2.block_ (by omega)
        have c5 := cell5 k (by omega)
        have f5 := fro5 k
        clear cell5 fro5
        go_wp2_with fail
        go_roundw
        case rel => exact ⟨k + 1, by omega, by go_num, hb2.setCell hB _, (hO2.store_ k _).as_ fun j hj => by
          simp only [put1]
          by_cases hj2 : j = k
          · subst hj2
            simp
          · rw [if_neg hj2]
            congr 1
            split <;> split <;> first | rfl | omega⟩
        case measure => simp [intOf]; omega
      · have e : k = N := by omega
        subst e
        have i1 : ¬ (k : Int) < k := by omega
        have KB2 := KB.trans hb2
        obtain ⟨k0, k1, k2⟩ := (KeyIn.made (w := w) (a := a) (b := b) (T := 26)).below (KB2.mono (by simp))
        have KW : Below w.heap.size w wr := ((Below.refl w.heap.size w).alloc (Nat.le_refl _) _).trans (KB2.mono (by omega))
        have B6 : Below W.heap.size W wr := hb1.trans (KW.mono hb1.size)
        have s1 := hs1.below KW (Nat.le_refl _)
        have s2 := hs2.below KW (Nat.le_refl _)
        generalize w.heap.size = K at *
        clear KW KB2 KB hb2 hO2 hs1 hs2 O5 h1 h2 hb1
        have HE : Hid (sumW a b f (n1 + n2) = sumW a b f k) := hid (by rw [HN.out])
        go_wp2_with fail
        go_region_law (first
          | (refine step_app_i0 rfl (.tmp 43) (.tmp 44) rfl wr.heap.size (.slice (some ⟨wr.heap.size, 0, none⟩) 0 0) (by simp [Act.eval, Act.put]) ?_ A1 n1 c1 g1 (by simp [Act.eval, Act.put]) ?_ (by omega) (by simp) ?_
             · first | exact fun _ => Ow.new (Nat.le_refl _) | exact fun _ => Ow.drew (Ow.new (Nat.le_refl _))
             · first | exact s1.alloc _ | exact (s1.alloc _).drew
             intro A6 c6 w7 o6 hc6 hm6 hb7 hg6 ho6
             have hb7' : Below wr.heap.size wr w7 := by first | exact ((Below.refl _ _).alloc (Nat.le_refl _) _).drew.trans hb7 | exact ((Below.refl _ _).alloc (Nat.le_refl _) _).trans hb7
             obtain ⟨k0a, k1a, k2a⟩ := KeyIn.below (w := wr) ⟨k0, k1, k2⟩ hb7')
          | (refine step_app_i rfl (.tmp 45) (.tmp 46) rfl wr.heap.size (.slice A6 n1 c6) n1 g1 (by simp [Act.eval, Act.put]) ?_ A2 n2 c2 g2 (by simp [Act.eval, Act.put]) ?_ (by omega) ?_ ?_
             · first | exact o6 | exact o6.drew | exact o6.drew.drew
             · first | exact s2.below hb7' (Nat.le_refl _) | exact (s2.below hb7' (Nat.le_refl _)).drew | exact (s2.below hb7' (Nat.le_refl _)).drew.drew
             · first | exact hb7'.size | exact hb7'.drew.size | exact hb7'.drew.drew.size
             intro A8 c8 w8 o8 hc8 hm8 hb8 hg8 ho8
             have hb8' : Below wr.heap.size wr w8 := by first | exact hb7'.trans hb8 | exact hb7'.drew.trans hb8 | exact hb7'.drew.drew.trans hb8
             obtain ⟨k0b, k1b, k2b⟩ := KeyIn.below (w := wr) ⟨k0, k1, k2⟩ hb8')
          | (refine step_call2 (by first | rfl | simp [Region.wanted, yielded, Act.put]) (.tmp 42) (.tmp 47) 20 _ rfl (by kernel_rfl) _ _ _ (by simp [Act.eval, Act.put]) (by simp [Act.eval, Act.put]) _ (re_u64 (rwords_any a b A8 (n1 + n2) c8 f _ ?_ hfi (by omega)) HE.out) ?_
             · first | exact o8.sl1.as (fun j _ => by simp only [HF.out]) | exact (o8.sl1.as (fun j _ => by simp only [HF.out])).drew
             intro w9 hb9
             have hb9' : Below wr.heap.size wr w9 := by first | exact hb8'.trans (hb9.mono hb8'.size) | exact hb8'.drew.trans (hb9.mono hb8'.drew.size)
             obtain ⟨k0c, k1c, k2c⟩ := KeyIn.below (w := wr) ⟨k0, k1, k2⟩ hb9'
             have s1c := s1.below hb9' (Nat.le_refl _)
             have s2c := s2.below hb9' (Nat.le_refl _))
          | (refine step_app_i0g (by first | rfl | simp [Region.wanted, yielded, Act.put]) (.tmp 52) (.tmp 53) rfl w9.heap.size (.slice (some ⟨w9.heap.size, 0, none⟩) 0 0) (by simp [Act.eval, Act.put]) ?_ A1 n1 c1 g1 (by simp [Act.eval, Act.put]) ?_ (by omega) (by simp) ?_
             · first | exact fun _ => Ow.new (Nat.le_refl _) | exact fun _ => Ow.drew (Ow.new (Nat.le_refl _))
             · first | exact s1c.alloc _ | exact (s1c.alloc _).drew
             intro A10 c10 w10 o10 hc10 hm10 hb10 hg10 ho10
             have hb10' : Below w9.heap.size w9 w10 := by first | exact ((Below.refl _ _).alloc (Nat.le_refl _) _).drew.trans hb10 | exact ((Below.refl _ _).alloc (Nat.le_refl _) _).trans hb10
             obtain ⟨k0d, k1d, k2d⟩ := KeyIn.below (w := w9) ⟨k0c, k1c, k2c⟩ hb10')
          | (refine step_app_ig (by first | rfl | simp [Region.wanted, yielded, Act.put]) (.tmp 54) (.tmp 55) rfl w9.heap.size (.slice A10 n1 c10) n1 g1 (by simp [Act.eval, Act.put]) ?_ A2 n2 c2 g2 (by simp [Act.eval, Act.put]) ?_ (by omega) ?_ ?_
             · first | exact o10 | exact o10.drew | exact o10.drew.drew
             · first | exact s2c.below hb10' (Nat.le_refl _) | exact (s2c.below hb10' (Nat.le_refl _)).drew | exact (s2c.below hb10' (Nat.le_refl _)).drew.drew
             · first | exact hb10'.size | exact hb10'.drew.size | exact hb10'.drew.drew.size
             intro A11 c11 w11 o11 hc11 hm11 hb11 hg11 ho11
             have hb11' : Below w9.heap.size w9 w11 := by first | exact hb10'.trans hb11 | exact hb10'.drew.trans hb11 | exact hb10'.drew.drew.trans hb11
             obtain ⟨k0e, k1e, k2e⟩ := KeyIn.below (w := w9) ⟨k0c, k1c, k2c⟩ hb11')
          | (refine step_call2 (by first | rfl | simp [Region.wanted, yielded, Act.put]) (.tmp 51) (.tmp 56) 19 _ rfl (by kernel_rfl) _ _ _ (by simp [Act.eval, Act.put]) (by simp [Act.eval, Act.put]) _ (re_u64 (words_any a b A11 (n1 + n2) c11 f _ ?_ hfi (by omega)) HE.out) ?_
             · first | exact o11.sl1.as (fun j _ => by simp only [HF.out]) | exact (o11.sl1.as (fun j _ => by simp only [HF.out])).drew
             intro w12 hb12
             have hb12' : Below w9.heap.size w9 w12 := by first | exact hb11'.trans (hb12.mono hb11'.size) | exact hb11'.drew.trans (hb12.mono hb11'.drew.size)))
        all_goals
          go_wp2_with fail
          go_ret
          exact ⟨rfl, then_ (B6.trans (hb9'.mono B6.size)) hb12'⟩
  · have t1 : decide ((n1 : Int) + n2 > 60) = true := by simp; omega
    skip
    go_enter Try.func12, Try.ntmps12
    go_wp2_with fail
    refine (known_any _).mono ?_
    rintro e w ⟨rfl, hb1⟩
    go_wp2
    go_ret
    exact ⟨rfl, hb1⟩

set_option maxRecDepth 100000 in
theorem lifted (os : Os) (started : os.Started) (H : Type) (enc : TypeId × Value → H) :
    ReturnsInHanded {} Try.checked os 12 .any (Rows.sipPartsSpec.pre6 enc Try.prog Try.f12 [] false) (Rows.sipPartsSpec.post enc Try.prog Try.f12 false true false false) :=
  law_step (s := Rows.sipPartsSpec) started (by kernel_rfl) Try.func12
    (ChangeSpec.witness6 (s := Rows.sipPartsSpec) (enc := enc) (C := Try.checked) false ⟨#[], #[.int .u64 0, .int .u64 0, .slice none 0 0, .slice none 0 0], []⟩ 8 (by kernel_rfl) (by kernel_rfl) (by kernel_rfl) (by kernel_rfl))
    rfl (by rw [Try.params12]; decide +kernel) rfl Try.underlying4
    (fun ds h => by
      rw [Try.params12] at h
      match ds, h with
      | [_, _, _, _], _ => rfl)
    (fun W base args ds ps hval hA hsz => by
      rw [Try.params12] at hA hval hsz
      obtain ⟨v0, vs0, d0, ds0, p0, q0, hargs, rfl, rfl, h0, r0⟩ := trodAll_cons hA
      obtain ⟨v1, vs1, d1, ds1, p1, q1, rfl, rfl, rfl, h1, r1⟩ := trodAll_cons r0
      obtain ⟨v2, vs2, d2, ds2, p2, q2, rfl, rfl, rfl, h2, r2⟩ := trodAll_cons r1
      obtain ⟨v3, vs3, d3, ds3, p3, q3, rfl, rfl, rfl, h3, r3⟩ := trodAll_cons r2
      obtain ⟨rfl, rfl, rfl⟩ := trodAll_nil r3
      obtain rfl : args = #[v0, v1, v2, v3] := by cases args; simp_all
      obtain ⟨a0, rfl, rfl, rfl, w0⟩ := open_int Try.underlying22 (hval 0 22 v0 rfl rfl) h0
      obtain ⟨a1, rfl, rfl, rfl, w1⟩ := open_int Try.underlying22 (hval 1 22 v1 rfl rfl) h1
      obtain ⟨A2, n2, c2, g2, rfl, hn2, hc2, hs2, hw2, hl2, hd2⟩ := open_row Try.underlying34 Try.underlying3 (by kernel_rfl) (hval 2 34 v2 rfl rfl) h2
      have re2 : c2 * 8 ≤ 140737488351232 := by
        rcases hd2 with ⟨_, h0⟩ | ⟨xs, ys, h1, h2⟩
        · omega
        · have := sized_slice hsz (j := 2) (t := 34) (e := 3) rfl (by rw [h1]; rfl) Try.underlying34
          rw [h2, show Try.prog.bytesOf 3 = 8 from by kernel_rfl] at this
          simpa [reachBytes] using this
      obtain ⟨A3, n3, c3, g3, rfl, hn3, hc3, hs3, hw3, hl3, hd3⟩ := open_row Try.underlying34 Try.underlying3 (by kernel_rfl) (hval 3 34 v3 rfl rfl) h3
      have re3 : c3 * 8 ≤ 140737488351232 := by
        rcases hd3 with ⟨_, h0⟩ | ⟨xs, ys, h1, h2⟩
        · omega
        · have := sized_slice hsz (j := 3) (t := 34) (e := 3) rfl (by rw [h1]; rfl) Try.underlying34
          rw [h2, show Try.prog.bytesOf 3 = 8 from by kernel_rfl] at this
          simpa [reachBytes] using this
      exact walk W a0 (bounds_u64 w0) a1 (bounds_u64 w1) A2 n2 c2 g2 hn2 hc2 hs2 (fun j => bounds_i64 (hw2 j)) hl2 re2 A3 n3 c3 g3 hn3 hc3 hs3 (fun j => bounds_i64 (hw3 j)) hl3 re3)

theorem proved : Rows.SipPartsSaid :=
  OpenClaim.holds_of_wide 12 Try.f12 rfl rfl rfl rfl rfl rfl rfl ⟨rfl, rfl, rfl, rfl, rfl⟩ rfl rfl rfl rfl rfl (by kernel_rfl) Try.func12 (by kernel_rfl)
    (of_decide_eq_true (by kernel_rfl)) (by unfold Func.isWrapper; first | (rw [if_pos (by decide +kernel)]; kernel_rfl) | (rw [if_neg (by decide +kernel)]; exact ⟨rfl, rfl⟩))
    (fun os started H enc _ => lifted os started H enc)
end Go.Proofs.Ytgmfclpnmhgapaa.sipParts
