/- roundhouselaw1.SumMany answers true for every sum and every two rows of numbers; no condition. -/
import Derived.Test.YthjagmmkkfeffaaSumLaw
import Derived.Laws.Cover1
namespace Go.Proofs.Ythjagmmkkfeffaa.sumMany
set_option linter.unusedVariables false
open Go.RowKit Go.ChangeShapes Go.WideShapes Go.ChangeAt

/-- What the first k changes come to. -/
def dl (g g2 : Nat → Int) : Nat → Int
  | 0 => 0
  | k + 1 => dl g g2 k + (wi (g k) 65536 - wi (g2 k) 65536)
theorem turn_mod (x a b : Int) : turn x a b % 65535 = (x + (a - b)) % 65535 := by
  unfold turn plus
  split <;> split <;> omega

theorem walk (W : World) (s : Int) (rs : -9223372036854775808 ≤ s ∧ s ≤ 9223372036854775807)
    (A : Option Addr) (n c : Nat) (g : Nat → Int) (hn : n ≤ c) (hc : c ≤ maxLen) (h : Is W A n g) (hg : IsI g) (hl : ∀ ad, A = some ad → 0 < n → ad.block < W.heap.size) (re : c * 8 ≤ 140737488351232)
    (A2 : Option Addr) (n2 c2 : Nat) (g2 : Nat → Int) (hn2 : n2 ≤ c2) (hc2 : c2 ≤ maxLen) (h2 : Is W A2 n2 g2) (hg2 : IsI g2) (hl2 : ∀ ad, A2 = some ad → 0 < n2 → ad.block < W.heap.size) (re2 : c2 * 8 ≤ 140737488351232) :
    Calls Try.prog 12 #[.int .i64 s, .slice A n c, .slice A2 n2 c2] W fun e w' => e = .returned (.bool true) ∧ Below W.heap.size W w' := by
  obtain ⟨N, hN⟩ : ∃ N, N = min (min n n2) 12 := ⟨_, rfl⟩
  have hN1 : N ≤ n := by omega
  have hN2 : N ≤ n2 := by omega
  have hN3 : N ≤ 12 := by omega
  have hmin : ∀ w : World, (Builtin.min_ #[3, 3, 3] 3 #[.int .i64 (n : Int), .int .i64 (n2 : Int), .int .i64 12]).run Try.prog w = .ok (.int .i64 (N : Int)) w := fun w => by
    rw [run_min_int3]
    congr 2
    split <;> split <;> (try split) <;> omega
  clear hN
  have b0 := wi_bd s 65536 (by omega)
  obtain ⟨b0, b0'⟩ := b0
  go_enter Try.func12, Try.ntmps12
  go_wp2_with fail
  refine (known_any _).mono ?_
  rintro e w ⟨rfl, hb1⟩
  have hs := h.below hb1 (Nat.le_refl _)
  have hs2 := h2.below hb1 (Nat.le_refl _)
  clear h h2
  go_wp2_with fail
  refine (within_any s 65536 _ (by omega) (by omega)).mono ?_
  rintro e w2 ⟨rfl, rfl⟩
  generalize wi s 65536 = x0 at *
  go_wp2_with fail
  go_loopw [7, 10] (fun x i wr => ∃ k : Nat, k ≤ N ∧ i = .int .i64 k ∧ (∃ m, wr = w.drewN m) ∧ ∃ z : Int, x = .int .i64 z ∧ 0 ≤ z ∧ z ≤ 65535 ∧ Hid (z % 65535 = (x0 + dl g g2 k) % 65535)) (fun _ i _ => N - (intOf i).toNat)
  case atStart => exact ⟨0, by omega, rfl, ⟨0, rfl⟩, x0, rfl, b0, by omega, by unfold Hid; simp [dl]⟩
  case round =>
    obtain ⟨k, hk, rfl, ⟨m, rfl⟩, z, rfl, hz, hz', HZ⟩ := hrel
    by_cases hlt : k < N
    · obtain ⟨b, off, rfl, hblt, hcell⟩ := hs (by omega)
      obtain ⟨b2, off2, rfl, hblt2, hcell2⟩ := hs2 (by omega)
      have c1 : w.cell? ⟨b, off + k, none⟩ = some (.int .i64 (g k)) := hcell _ (by omega)
      have c2 : w.cell? ⟨b2, off2 + k, none⟩ = some (.int .i64 (g2 k)) := hcell2 _ (by omega)
      have i0 : (k : Int) < N := by omega
      have i1 : (k : Int) < n := by omega
      have i2 : (k : Int) < n2 := by omega
      have i3 : 0 ≤ (k : Int) := by omega
      have w1 := wi_bd (g k) 65536 (by omega)
      have w2 := wi_bd (g2 k) 65536 (by omega)
      obtain ⟨w1, w1'⟩ := w1
      obtain ⟨w2, w2'⟩ := w2
      have tb := turn_bd z _ _ hz hz' w1 (by omega) w2 (by omega)
      obtain ⟨tb, tb'⟩ := tb
      have hstep : Hid (turn z (wi (g k) 65536) (wi (g2 k) 65536) % 65535 = (x0 + dl g g2 (k + 1)) % 65535) := by
        have := HZ.out
        unfold Hid
        rw [turn_mod, dl]
        omega
      clear HZ hcell hcell2 hs hs2
      go_wp2_with fail
      go_quiet ((first | (go_at_call 21; exact q1p (within_any _ _ _ (by omega) (by omega))) | (go_at_call 23; exact q1p (turn_any _ _ _ _ hz hz' w1 (by omega) w2 (by omega)))))
      go_wp2_with fail
      go_roundw
      case rel => exact ⟨k + 1, by omega, by go_num, ⟨_, rfl⟩, _, rfl, tb, tb', hstep⟩
      case measure => simp [intOf]; omega
    · have hkN : k = N := by omega
      subst hkN
      have i0 : ¬ (k : Int) < k := by omega
      go_wp2_with fail
      go_loopw [8, 11] (fun y i wr => ∃ j : Nat, j ≤ k ∧ i = .int .i64 ((j : Int) - 1) ∧ (∃ m, wr = w.drewN m) ∧ ∃ v : Int, y = .int .i64 v ∧ 0 ≤ v ∧ v ≤ 65535 ∧ Hid (v % 65535 = (x0 + (dl g g2 k - dl g g2 j)) % 65535)) (fun _ i _ => (intOf i + 1).toNat)
      case atStart => exact ⟨k, by omega, rfl, ⟨m, rfl⟩, x0, rfl, b0, by omega, by unfold Hid; simp⟩
      case round =>
        obtain ⟨j, hj, rfl, ⟨m2, rfl⟩, v, rfl, hv, hv', HV⟩ := hrel
        by_cases hpos : 0 < j
        · obtain ⟨q, rfl⟩ : ∃ q, j = q + 1 := ⟨j - 1, by omega⟩
          have e0 : (((q + 1 : Nat) : Int) - 1) = (q : Int) := by omega
          rw [e0]
          clear e0
          obtain ⟨b, off, rfl, hblt, hcell⟩ := hs (by omega)
          obtain ⟨b2, off2, rfl, hblt2, hcell2⟩ := hs2 (by omega)
          have c1 : w.cell? ⟨b, off + q, none⟩ = some (.int .i64 (g q)) := hcell _ (by omega)
          have c2 : w.cell? ⟨b2, off2 + q, none⟩ = some (.int .i64 (g2 q)) := hcell2 _ (by omega)
          have i1 : (q : Int) < n := by omega
          have i2 : (q : Int) < n2 := by omega
          have i3 : 0 ≤ (q : Int) := by omega
          have w1 := wi_bd (g q) 65536 (by omega)
          have w2 := wi_bd (g2 q) 65536 (by omega)
          obtain ⟨w1, w1'⟩ := w1
          obtain ⟨w2, w2'⟩ := w2
          have tb := turn_bd v _ _ hv hv' w1 (by omega) w2 (by omega)
          obtain ⟨tb, tb'⟩ := tb
          have hstep : Hid (turn v (wi (g q) 65536) (wi (g2 q) 65536) % 65535 = (x0 + (dl g g2 k - dl g g2 q)) % 65535) := by
            have := HV.out
            unfold Hid
            rw [turn_mod]
            rw [dl] at this
            omega
          clear HV HZ hcell hcell2 hs hs2
          go_wp2_with fail
          go_quiet ((first | (go_at_call 21; exact q1p (within_any _ _ _ (by omega) (by omega))) | (go_at_call 23; exact q1p (turn_any _ _ _ _ hv hv' w1 (by omega) w2 (by omega)))))
          go_wp2_with fail
          go_roundw
          case rel => exact ⟨q, by omega, by go_num, ⟨_, rfl⟩, _, rfl, tb, tb', hstep⟩
          case measure => simp [intOf]
        · have hj0 : j = 0 := by omega
          subst hj0
          have hfin : (z % 65535 == v % 65535) = true := by
            have h1 := HZ.out
            have h2 := HV.out
            rw [beq_iff_eq, h1, h2]
            simp [dl]
          clear HZ HV
          go_wp2
          go_ret
          exact ⟨rfl, below_drewN hb1 _⟩

set_option maxRecDepth 100000 in
theorem lifted (os : Os) (started : os.Started) (H : Type) (enc : TypeId × Value → H) :
    ReturnsInHanded {} Try.checked os 12 .any (Rows.sumManySpec.pre6 enc Try.prog Try.f12 [] false) (Rows.sumManySpec.post enc Try.prog Try.f12 false true false false) :=
  law_step (s := Rows.sumManySpec) started (by kernel_rfl) Try.func12
    (ChangeSpec.witness6 (s := Rows.sumManySpec) (enc := enc) (C := Try.checked) false ⟨#[], #[.int .i64 0, .slice none 0 0, .slice none 0 0], []⟩ 8 (by kernel_rfl) (by kernel_rfl) (by kernel_rfl) (by kernel_rfl))
    rfl (by rw [Try.params12]; decide +kernel) rfl Try.underlying4
    (fun ds h => by
      rw [Try.params12] at h
      match ds, h with
      | [_, _, _], _ => rfl)
    (fun W base args ds ps hval hA hsz => by
      rw [Try.params12] at hA hval hsz
      obtain ⟨v0, vs0, d0, ds0, p0, q0, hargs, rfl, rfl, h0, r0⟩ := trodAll_cons hA
      obtain ⟨v1, vs1, d1, ds1, p1, q1, rfl, rfl, rfl, h1, r1⟩ := trodAll_cons r0
      obtain ⟨v2, vs2, d2, ds2, p2, q2, rfl, rfl, rfl, h2, r2⟩ := trodAll_cons r1
      obtain ⟨rfl, rfl, rfl⟩ := trodAll_nil r2
      obtain rfl : args = #[v0, v1, v2] := by cases args; simp_all
      obtain ⟨a0, rfl, rfl, rfl, w0⟩ := open_int Try.underlying3 (hval 0 3 v0 rfl rfl) h0
      obtain ⟨A1, n1, c1, g1, rfl, hn1, hc1, hs1, hw1, hl1, hd1⟩ := open_row Try.underlying30 Try.underlying3 (by kernel_rfl) (hval 1 30 v1 rfl rfl) h1
      have re1 : c1 * 8 ≤ 140737488351232 := by
        rcases hd1 with ⟨_, h0⟩ | ⟨xs, ys, h1, h2⟩
        · omega
        · have := sized_slice hsz (j := 1) (t := 30) (e := 3) rfl (by rw [h1]; rfl) Try.underlying30
          rw [h2, show Try.prog.bytesOf 3 = 8 from by kernel_rfl] at this
          simpa [reachBytes] using this
      obtain ⟨A2, n2, c2, g2, rfl, hn2, hc2, hs2, hw2, hl2, hd2⟩ := open_row Try.underlying30 Try.underlying3 (by kernel_rfl) (hval 2 30 v2 rfl rfl) h2
      have re2 : c2 * 8 ≤ 140737488351232 := by
        rcases hd2 with ⟨_, h0⟩ | ⟨xs, ys, h1, h2⟩
        · omega
        · have := sized_slice hsz (j := 2) (t := 30) (e := 3) rfl (by rw [h1]; rfl) Try.underlying30
          rw [h2, show Try.prog.bytesOf 3 = 8 from by kernel_rfl] at this
          simpa [reachBytes] using this
      exact walk W a0 (bounds_i64 w0) A1 n1 c1 g1 hn1 hc1 hs1 (fun j => bounds_i64 (hw1 j)) hl1 re1 A2 n2 c2 g2 hn2 hc2 hs2 (fun j => bounds_i64 (hw2 j)) hl2 re2)

theorem proved : Rows.SumManySaid :=
  OpenClaim.holds_of_wide 12 Try.f12 rfl rfl rfl rfl rfl rfl rfl ⟨rfl, rfl, rfl, rfl, rfl⟩ rfl rfl rfl rfl rfl (by kernel_rfl) Try.func12 (by kernel_rfl)
    (of_decide_eq_true (by kernel_rfl)) (by unfold Func.isWrapper; first | (rw [if_pos (by decide +kernel)]; kernel_rfl) | (rw [if_neg (by decide +kernel)]; exact ⟨rfl, rfl⟩))
    (fun os started H enc _ => lifted os started H enc)
end Go.Proofs.Ythjagmmkkfeffaa.sumMany
