/- roundhouselaw2.SipKnown answers true for every argument; no condition. -/
import Derived.Test.YtgmfclpnmhgapaaSipLaw
namespace Go.Proofs.Ytgmfclpnmhgapaa.sipKnown
set_option linter.unusedVariables false
open Go.RowKit Go.ChangeShapes Go.WideShapes Go.ChangeAt

def tab (r : Nat) : Int := [8246050544436514353, 8428550223375919101, 967288799772626778, 9612764727700323885, 14927063180398135223, 1762690195596617357, 14684345499771659214, 12322412585038238007, 10661697595502699618].getD r 0
theorem ks : ∀ r, r < 9 → sumB (num idb 8) (num (fun j => idb (8 + j)) 8) idb r = [8246050544436514353, 8428550223375919101, 967288799772626778, 9612764727700323885, 14927063180398135223, 1762690195596617357, 14684345499771659214, 12322412585038238007, 10661697595502699618].getD r 0 := by decide +kernel
set_option maxRecDepth 100000 in
set_option maxHeartbeats 4000000 in
theorem walk (W : World) (m : Int) (rm : -9223372036854775808 ≤ m ∧ m ≤ 9223372036854775807) :
    Calls Try.prog 8 #[.int .i64 m] W fun e w' => e = .returned (.bool true) ∧ Below W.heap.size W w' := by
  have b0 := wi_bd m 9 (by omega)
  obtain ⟨r, hr⟩ := Int.eq_ofNat_of_zero_le b0.1
  rw [hr] at b0
  have hr9 : r < 9 := by omega
  have i9 : (r : Int) < 9 := by omega
  have i0 : (0 : Int) ≤ r := by omega
  have HR := hid hr
  clear b0 hr
  go_enter Try.func8, Try.ntmps8
  go_wp2_with fail
  refine (known_any _).mono ?_
  rintro e w ⟨rfl, hb0⟩
  go_wp2_with fail
  go_loopw [3, 4] (fun r j wr => ∃ (q : Nat) (A2 : Option Addr) (c2 : Nat), q ≤ 16 ∧ j = .int .i64 q ∧ r = .slice A2 q c2 ∧ q ≤ c2 ∧ Below w.heap.size w wr ∧ Ow wr w.heap.size 5 1 (.slice A2 q c2) q (fun q => .int .u8 (idb q)))
    (fun _ j _ => 16 - (intOf j).toNat)
  case atStart => exact ⟨0, none, 0, by omega, rfl, rfl, by omega, Below.refl _ _, Ow.none_⟩
  case round =>
    obtain ⟨q, A2, c2, hq, rfl, rfl, hc2, hb2, hO2⟩ := hrel
    by_cases hq8 : q < 16
    · have i2 : (q : Int) < 16 := by omega
      go_wp2_with (at_builtin
                   refine wp_app_b rfl (.tmp 15) (.tmp 18) rfl w.heap.size (.slice A2 q c2) q idb rfl (hO2.alloc _) (some ⟨wr.heap.size, 0, none⟩) 1 1 (fun j => [(q : Int)].getD j 0) rfl (row_at .u8 [(q : Int)] rfl) (by omega) (by have := hb2.size; simp; omega) ?_
                   intro A3 c3 w3 o3 hc3 hm3 hb3 hg3 ho3)
      have hb4 : Below w.heap.size w w3 := (hb2.alloc hb2.size _).trans hb3
      go_roundw
      case rel => exact ⟨q + 1, A3, c3, by omega, by go_num, rfl, hc3, hb4, o3.as_ fun j hj => by
        show Value.int .u8 _ = Value.int .u8 _
        congr 1
        split
        · rfl
        · rw [show j = q from by omega]; simp [idb]; omega⟩
      case measure => simp [intOf]; omega
    · have e : q = 16 := by omega
      subst e
      have i2 : ¬ ((16 : Nat) : Int) < 16 := by omega
      have SB := hO2.sl1
      clear hO2
      go_wp2_with fail
      refine (make_is A2 c2 idb _ SB idb_b hc2).mono ?_
      rintro e w3 ⟨rfl, hb3⟩
      have SB3 := SB.below hb3 (Nat.le_refl _)
      unfold keyV
      go_wp2_with fail
      refine (re_i64 (within_any m 9 _ (by omega) (by omega)) HR.out).mono ?_
      rintro e w2 ⟨rfl, rfl⟩
      have K1 := KeyIn.made (w := w3) (a := num idb 8) (b := num (fun j => idb (8 + j)) 8) (T := 26)
      have SB4 := SB3.alloc (.cells #[.int .u64 (num idb 8), .int .u64 (num (fun j => idb (8 + j)) 8)] 26)
      have B1 : Below w.heap.size w (w3.alloc (.cells #[.int .u64 (num idb 8), .int .u64 (num (fun j => idb (8 + j)) 8)] 26)) := (hb2.trans (hb3.mono hb2.size)).alloc (hb2.trans (hb3.mono hb2.size)).size _
      have e1 : (w3.alloc (.cells #[.int .u64 (num idb 8), .int .u64 (num (fun j => idb (8 + j)) 8)] 26)).heap.size = w3.heap.size + 1 := by simp
      generalize w3.alloc (.cells #[.int .u64 (num idb 8), .int .u64 (num (fun j => idb (8 + j)) 8)] 26) = w1 at *
      generalize w3.heap.size = K at *
      have L2 := row_lit .u64 w1 22 [8246050544436514353, 8428550223375919101, 967288799772626778, 9612764727700323885, 14927063180398135223, 1762690195596617357, 14684345499771659214, 12322412585038238007, 10661697595502699618]
      have K2 := K1.below ((Below.refl w1.heap.size w1).alloc (Nat.le_refl _) (.cells ([8246050544436514353, 8428550223375919101, 967288799772626778, 9612764727700323885, 14927063180398135223, 1762690195596617357, 14684345499771659214, 12322412585038238007, 10661697595502699618].map (Value.int .u64)).toArray 22))
      have SB5 := SB4.alloc (.cells ([8246050544436514353, 8428550223375919101, 967288799772626778, 9612764727700323885, 14927063180398135223, 1762690195596617357, 14684345499771659214, 12322412585038238007, 10661697595502699618].map (Value.int .u64)).toArray 22)
      have B2 : Below W.heap.size W (w1.alloc (.cells ([8246050544436514353, 8428550223375919101, 967288799772626778, 9612764727700323885, 14927063180398135223, 1762690195596617357, 14684345499771659214, 12322412585038238007, 10661697595502699618].map (Value.int .u64)).toArray 22)) := then_ hb0 (B1.alloc B1.size _)
      have e2 : K + 1 < (w1.alloc (.cells ([8246050544436514353, 8428550223375919101, 967288799772626778, 9612764727700323885, 14927063180398135223, 1762690195596617357, 14684345499771659214, 12322412585038238007, 10661697595502699618].map (Value.int .u64)).toArray 22)).heap.size := by simp; omega
      rw [e1] at L2
      change Sl _ _ 9 _ at L2
      generalize hw2 : w1.alloc (.cells ([8246050544436514353, 8428550223375919101, 967288799772626778, 9612764727700323885, 14927063180398135223, 1762690195596617357, 14684345499771659214, 12322412585038238007, 10661697595502699618].map (Value.int .u64)).toArray 22) = w5 at *
      change w1.alloc _ = w5 at hw2
      simp only [List.map_cons, List.map_nil] at hw2
      have ksr := hid (ks r hr9)
      obtain ⟨f, hf⟩ : ∃ f : Nat → Int, f = fun j => [8246050544436514353, 8428550223375919101, 967288799772626778, 9612764727700323885, 14927063180398135223, 1762690195596617357, 14684345499771659214, 12322412585038238007, 10661697595502699618].getD j 0 := ⟨_, rfl⟩
      have ef : [8246050544436514353, 8428550223375919101, 967288799772626778, 9612764727700323885, 14927063180398135223, 1762690195596617357, 14684345499771659214, 12322412585038238007, 10661697595502699618].getD r 0 = f r := by rw [hf]
      rw [ef] at ksr
      have L3 : Sl w5 (some ⟨K + 1, 0, none⟩) 9 (fun j => .int .u64 (f j)) := by rw [hf]; exact L2
      have c0 := L3.at_ hr9
      have c1 : w5.cell? ⟨K + 1, r, none⟩ = some (.int .u64 (f r)) := by simpa using c0
      obtain ⟨k0, k1, k2⟩ := K2
      have SB6 : By w5 A2 16 idb := SB5
      generalize num idb 8 = ka at *
      generalize num (fun j => idb (8 + j)) 8 = kb at *
      rw [hw2]
      have i15 : (r : Int) ≤ c2 := by omega
      clear hf L2 L3 K1 B1 e1 hw2 SB SB3 SB4 SB5 hb2 hb3 ef c0
      go_wp2_with fail
      go_region_held3 (fun w' => w'.cell? ⟨K, 0, none⟩ = some (.int .u64 ka) ∧ w'.cell? ⟨K, 1, none⟩ = some (.int .u64 kb) ∧ w'.cell? ⟨K + 1, r, none⟩ = some (.int .u64 (f r)) ∧ K < w'.heap.size ∧ K + 1 < w'.heap.size ∧ By w' A2 16 idb ∧ Below W.heap.size W w')
        (first
          | (go_split_ands; refine ⟨?_, ?_, ?_, ?_, ?_, ?_, ?_⟩; exact (hb5.cell (p := ⟨K, 0, none⟩) (by assumption)).trans (by assumption); exact (hb5.cell (p := ⟨K, 1, none⟩) (by assumption)).trans (by assumption); exact (hb5.cell (p := ⟨K + 1, r, none⟩) (by assumption)).trans (by assumption); exact Nat.lt_of_lt_of_le (by assumption) hb5.size; exact Nat.lt_of_lt_of_le (by assumption) hb5.size; exact Sl.below (by assumption) hb5 (Nat.le_refl _); exact then_ (by assumption) hb5)
          | (refine ⟨?_, ?_, ?_, ?_, ?_, ?_, ?_⟩; assumption; assumption; assumption; assumption; assumption; exact Sl.drew (by assumption); exact Below.drew (by assumption))
          | (go_split_ands; refine ⟨?_, ?_, ?_, ?_, ?_, ?_, ?_⟩; exact (World.cell?_alloc_lt _ _ ⟨K, 0, none⟩ (by assumption)).trans (by assumption); exact (World.cell?_alloc_lt _ _ ⟨K, 1, none⟩ (by assumption)).trans (by assumption); exact (World.cell?_alloc_lt _ _ ⟨K + 1, r, none⟩ (by assumption)).trans (by assumption); (simp; omega); (simp; omega); exact Sl.alloc (by assumption) _; exact Below.alloc (by assumption) (Below.size (by assumption)) _)
          | (go_split_ands; refine ⟨?_, ?_, ?_, ?_, ?_, ?_, ?_⟩; exact (World.cell?_alloc_lt _ _ ⟨K, 0, none⟩ (by assumption)).trans (by assumption); exact (World.cell?_alloc_lt _ _ ⟨K, 1, none⟩ (by assumption)).trans (by assumption); exact (World.cell?_alloc_lt _ _ ⟨K + 1, r, none⟩ (by assumption)).trans (by assumption); exact Nat.lt_of_lt_of_le (by assumption) (Below.drew (Below.alloc (Below.refl _ _) (Nat.le_refl _) _)).size; exact Nat.lt_of_lt_of_le (by assumption) (Below.drew (Below.alloc (Below.refl _ _) (Nat.le_refl _) _)).size; exact Sl.drew (Sl.alloc (by assumption) _); exact Below.drew (Below.alloc (by assumption) (Below.size (by assumption)) _))
          | go_keep)
        ((first
          | (go_at_call 15
             go_split_ands
             with_reducible refine (re_u64 (of_any ka kb A2 r c2 idb _ ?_ idb_b ?_ ?_) ksr.out).mono ?_
             · exact Sl.less (m := 16) (by assumption) (by omega)
             · omega
             · omega
             rintro e w5 ⟨rfl, hb5⟩)))
      all_goals
        go_split_ands
        go_wp2_with fail
        go_ret
        exact ⟨rfl, by assumption⟩

set_option maxRecDepth 100000 in
theorem lifted (os : Os) (started : os.Started) (H : Type) (enc : TypeId × Value → H) :
    ReturnsInHanded {} Try.checked os 8 .any (Rows.sipKnownSpec.pre6 enc Try.prog Try.f8 [] false) (Rows.sipKnownSpec.post enc Try.prog Try.f8 false true false false) :=
  law_step (s := Rows.sipKnownSpec) started (by kernel_rfl) Try.func8
    (ChangeSpec.witness6 (s := Rows.sipKnownSpec) (enc := enc) (C := Try.checked) false ⟨#[], #[.int .i64 0], []⟩ 8 (by kernel_rfl) (by kernel_rfl) (by kernel_rfl) (by kernel_rfl))
    rfl (by rw [Try.params8]; decide +kernel) rfl Try.underlying4
    (fun ds h => by
      rw [Try.params8] at h
      match ds, h with
      | [_], _ => rfl)
    (fun W base args ds ps hval hA hsz => by
      rw [Try.params8] at hA hval hsz
      obtain ⟨v0, vs0, d0, ds0, p0, q0, hargs, rfl, rfl, h0, r0⟩ := trodAll_cons hA
      obtain ⟨rfl, rfl, rfl⟩ := trodAll_nil r0
      obtain rfl : args = #[v0] := by cases args; simp_all
      obtain ⟨a0, rfl, rfl, rfl, w0⟩ := open_int Try.underlying3 (hval 0 3 v0 rfl rfl) h0
      exact walk W a0 (bounds_i64 w0))

theorem proved : Rows.SipKnownSaid :=
  OpenClaim.holds_of_wide 8 Try.f8 rfl rfl rfl rfl rfl rfl rfl ⟨rfl, rfl, rfl, rfl, rfl⟩ rfl rfl rfl rfl rfl (by kernel_rfl) Try.func8 (by kernel_rfl)
    (of_decide_eq_true (by kernel_rfl)) (by unfold Func.isWrapper; first | (rw [if_pos (by decide +kernel)]; kernel_rfl) | (rw [if_neg (by decide +kernel)]; exact ⟨rfl, rfl⟩))
    (fun os started H enc _ => lifted os started H enc)
end Go.Proofs.Ytgmfclpnmhgapaa.sipKnown
