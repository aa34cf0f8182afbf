/- roundhouselaw7.WheelFirst answers true for every row; no condition. -/
import Derived.Test.YtejlfbiehcfbgaaWhlLaw3
import Derived.BigQuiet
import Derived.Deep.RegionHeld3
import Derived.Deep.Cut
namespace Go.Proofs.Ytejlfbiehcfbgaa.wheelFirst
set_option linter.unusedVariables false
set_option linter.unusedSimpArgs false
open Go.RowKit Go.ChangeShapes Go.WideShapes Go.ChangeAt

attribute [local irreducible] PA ia cAt cBy atP byP wtP S3 sumW S5 pkW
set_option maxRecDepth 100000 in
set_option maxHeartbeats 8000000 in
theorem walk (W : World) (A1 : Option Addr) (n1 c1 : Nat) (g1 : Nat → Int) (hn1 : n1 ≤ c1) (hc1 : c1 ≤ maxLen) (hr1 : Is W A1 n1 g1) (hg1 : IsI g1) (hl1 : ∀ ad, A1 = some ad → 0 < n1 → ad.block < W.heap.size) (re1 : c1 * 8 ≤ 140737488351232) :
    Calls Try.prog 8 #[.slice A1 n1 c1] W fun e w' => e = .returned (.bool true) ∧ Below W.heap.size W w' := by
  have hz : ∀ w : World, (zeroValue 33).run Try.prog w = .ok (.agg (PA zPl)) w := fun w => zero_pl w
  have hz1 := pa_size zPl
  have hz2 := pa_ne zPl
  unfold maxLen at hc1
  have hnm : (n1 : Int) ≤ 9223372036854775807 := by have := hn1; omega
  have HL := hid hl1
  clear hl1 re1
  obtain ⟨p, hp⟩ : ∃ p, p = mkP g1 (min n1 60) := ⟨_, rfl⟩
  have HQ := hid (show Pinv p 60 from by rw [hp]; exact (mkP_inv g1 _).mono (by omega))
  have HPW := hid (show Pw p from by rw [hp]; exact mk_pw g1 _)
  have MK := hid (fun (w : World) (h : Is w A1 n1 g1) (hl : ∀ ad, A1 = some ad → 0 < n1 → ad.block < w.heap.size) => (show Calls Try.prog 14 #[.slice A1 n1 c1, .int .i64 60] w fun x w' => x = .returned (.agg (PA p)) ∧ Below w.heap.size w w' from by rw [hp]; exact make_any w A1 n1 c1 g1 h hl hnm 60 (by omega)))
  clear hp
  have M7 := hid (show ∀ w, Calls Try.prog 15 #[.agg (PA p)] w fun x w' => ∃ B : Nat, x = .returned (.slice (some ⟨B, 0, none⟩) 127 127) ∧ w.heap.size ≤ B ∧ IA w' B 127 (whlW p) ∧ Below w.heap.size w w' from fun w => make7_any p HPW.out w)
  go_enter Try.func8, Try.ntmps8
  go_wp2_with fail
  refine (known7_any _).mono ?_
  rintro x w1 ⟨rfl, hB⟩
  have R1 := hid (hr1.below hB (Nat.le_refl _))
  have B1 := hid hB
  clear hr1 hB
  go_wp2_with fail
  refine (MK.out _ R1.out (fun ad e h => Nat.lt_of_lt_of_le (HL.out ad e h) B1.out.size)).mono ?_
  rintro x w2 ⟨rfl, hb⟩
  have S2 := hid ((SG.start B1.out).below hb)
  clear hb R1 B1 MK
  have ST := hid ((sg_new (w := w2) (T := 33)).storeA p)
  have S3 := hid (SG.put S2.out (T := 33) zPl p (by simp))
  go_upto_region 4 with ((with_reducible refine wl_id ?_); refine wl_store rfl rfl rfl rfl ST.out ?_)
  clear ST S2
  generalize (w2.alloc (.cells (PA zPl) 33)).setCells w2.heap.size 0 (PA p).toList = w3 at *
  generalize w2.heap.size = P at *
  have LP := (SG.get S3.out (b := P) (p := p) (by simp)).loadA
  go_wp2_with ((with_reducible refine wl_id ?_); refine wl_load rfl rfl rfl LP ?_)
  refine (M7.out _).mono ?_
  rintro x w4 ⟨B, rfl, lB, hI, hb⟩
  clear LP
  have I4 := hid hI
  have S4 := hid (S3.out.below hb)
  clear hI hb S3 M7
  go_wp2_with fail
  go_loopw [5] (fun i wr => ∃ k : Nat, k ≤ 64 ∧ i = .int .i64 (k : Int) ∧ (∀ j, j < k → (p.s j).st ≠ 2) ∧ IA wr B 127 (whlW p) ∧ SG W wr [(P, p)] []) (fun i _ => 64 - (intOf i).toNat)
  case atStart => exact ⟨0, by omega, rfl, fun j hj => absurd hj (by omega), I4.out, S4.out⟩
  case round =>
    clear I4 S4
    obtain ⟨k, hk, rfl, hno, hI, hS⟩ := hrel
    have HNO := hid hno
    have I5 := hid hI
    have S5 := hid hS
    clear hno hI hS
    by_cases hlt : k < 64
    · have i0 : (0 : Int) ≤ k := by omega
      have i1 : (k : Int) < 64 := by omega
      have LK := (SG.get S5.out (b := P) (p := p) (by simp)).loadK k hlt
      have hp := HPW.out k hlt
      have HFP := hid (fun h => first_place (p := p) hlt h HPW.out HNO.out)
      have HAT := hid (at_nat p k)
      unfold spV at LK
      obtain ⟨q, hq⟩ : ∃ q, q = atP p k := ⟨_, rfl⟩
      rw [← hq] at HFP HAT
      clear hq
      have HNN := hid (fun (h : (p.s k).st ≠ 2) j (hj : j < k + 1) => (show (p.s j).st ≠ 2 from by rcases Nat.lt_or_ge j k with h1 | h1; exact HNO.out j h1; (rw [show j = k by omega]; exact h)))
      generalize p.s k = s at *
      obtain ⟨st, ad, po, we, si⟩ := s
      simp only at LK hp HFP HAT HNN
      obtain ⟨⟨a1, a2⟩, ⟨p1, p2⟩, _⟩ := hp
      go_upto_region 11 with ((with_reducible refine wl_id ?_); refine wl_load rfl rfl rfl LK ?_)
      clear LK
      have CV := hid (Ce.made (w := wr) (l := [.int .i64 st, .int .i64 ad, .int .i64 po, .int .i64 we, .int .i64 si]) (T := 25) (g := wr.heap.size) rfl)
      have I6 := hid (I5.out.alloc (.cells #[.int .i64 st, .int .i64 ad, .int .i64 po, .int .i64 we, .int .i64 si] 25))
      have S6 := hid (S5.out.alloc (.cells #[.int .i64 st, .int .i64 ad, .int .i64 po, .int .i64 we, .int .i64 si] 25))
      clear I5 S5
      generalize wr.alloc (.cells #[.int .i64 st, .int .i64 ad, .int .i64 po, .int .i64 we, .int .i64 si] 25) = w5 at *
      generalize wr.heap.size = V at *
      have x0 := CV.out.2.1 0 _ rfl
      have x1 := CV.out.2.1 1 _ rfl
      have x2 := CV.out.2.1 2 _ rfl
      cases b2 : (st != 2)
      · have hst : st = 2 := by simpa using b2
        have W1 := hid (fun (A : Option Addr) (w : World) (h : Is w A 3 (fun j => [1, ad, po].getD j 0)) => rwords_any 0 0 A 3 3 _ w h (isI3 (by unfold I64; decide) (by unfold I64; omega) (by unfold I64; omega)) (by omega))
        have hU := sumW_U 0 0 (fun j => [1, ad, po].getD j 0) 3
        have HQ2 := hid (show sumW 0 0 (fun j => [1, ad, po].getD j 0) 3 % 127 = (q : Int) ∧ q < 127 from HAT.out)
        clear HAT
        generalize sumW 0 0 (fun j => [1, ad, po].getD j 0) 3 = s1 at *
        obtain ⟨u1, u2⟩ := hU
        have HF2 := hid (HFP.out hst)
        clear HFP HNN
        go_wp2_with fail
        refine (W1.out _ _ (row_at .i64 [1, ad, po] rfl)).mono ?_
        rintro x w6 ⟨rfl, hb⟩
        clear x0 x1 x2
        have I7 := hid ((I6.out.alloc _).below hb)
        have S7 := hid ((S6.out.alloc _).below hb)
        clear hb I6 S6 W1 CV
        obtain ⟨e9, q127⟩ := HQ2.out
        have cb := I7.out.2.1 q q127
        rw [HF2.out] at cb
        have q0 : (0 : Int) ≤ q := by omega
        have q1 : (q : Int) < 127 := by omega
        go_wp2_with fail
        go_ret
        exact ⟨rfl, S7.out.bl⟩
      · have hst : st ≠ 2 := by simpa using b2
        have HN2 := hid (HNN.out hst)
        clear hst HNN HFP HAT
        go_wp2_with fail
        go_roundw
        case rel => exact ⟨k + 1, by omega, by go_num, HN2.out, I6.out, S6.out⟩
        case measure => simp [intOf]; omega
    · have e : k = 64 := by omega
      subst e
      go_wp2_with fail
      go_ret
      exact ⟨rfl, S5.out.bl⟩

set_option maxRecDepth 100000 in
theorem lifted (os : Os) (started : os.Started) (H : Type) (enc : TypeId × Value → H) :
    ReturnsInHanded {} Try.checked os 8 .any (Rows.wheelFirstSpec.pre6 enc Try.prog Try.f8 [] false) (Rows.wheelFirstSpec.post enc Try.prog Try.f8 false true false false) :=
  law_step (s := Rows.wheelFirstSpec) started (by kernel_rfl) Try.func8
    (ChangeSpec.witness6 (s := Rows.wheelFirstSpec) (enc := enc) (C := Try.checked) false ⟨#[], #[.slice none 0 0], []⟩ 8 (by kernel_rfl) (by kernel_rfl) (by kernel_rfl) (by kernel_rfl))
    rfl (by rw [Try.params8]; decide +kernel) rfl Try.underlying4
    (fun ds h => by
      rw [Try.params8] at h
      match ds, h with
      | [_], _ => rfl)
    (fun W base args ds ps hval hA hsz => by
      rw [Try.params8] at hA hval hsz
      obtain ⟨v0, vs0, d0, ds0, p0, q0, hargs, rfl, rfl, h0, r0⟩ := trodAll_cons hA
      obtain ⟨rfl, rfl, rfl⟩ := trodAll_nil r0
      obtain rfl : args = #[v0] := by cases args; simp_all
      obtain ⟨A0, n0, c0, g0, rfl, hn0, hc0, hs0, hw0, hl0, hd0⟩ := open_row Try.underlying22 Try.underlying3 (by kernel_rfl) (hval 0 22 v0 rfl rfl) h0
      have re0 : c0 * 8 ≤ 140737488351232 := by
        rcases hd0 with ⟨_, h0⟩ | ⟨xs, ys, h1, h2⟩
        · omega
        · have := sized_slice hsz (j := 0) (t := 22) (e := 3) rfl (by rw [h1]; rfl) Try.underlying22
          rw [h2, show Try.prog.bytesOf 3 = 8 from by kernel_rfl] at this
          simpa [reachBytes] using this
      exact walk W A0 n0 c0 g0 hn0 hc0 hs0 (fun j => bounds_i64 (hw0 j)) hl0 re0)

theorem proved : Rows.WheelFirstSaid :=
  OpenClaim.holds_of_wide 8 Try.f8 rfl rfl rfl rfl rfl rfl rfl ⟨rfl, rfl, rfl, rfl, rfl⟩ rfl rfl rfl rfl rfl (by kernel_rfl) Try.func8 (by kernel_rfl)
    (of_decide_eq_true (by kernel_rfl)) (by unfold Func.isWrapper; first | (rw [if_pos (by decide +kernel)]; kernel_rfl) | (rw [if_neg (by decide +kernel)]; exact ⟨rfl, rfl⟩))
    (fun os started H enc _ => lifted os started H enc)
end Go.Proofs.Ytejlfbiehcfbgaa.wheelFirst
