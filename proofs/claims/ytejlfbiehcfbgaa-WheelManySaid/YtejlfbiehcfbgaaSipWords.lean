/- The document's sum of numbers: of their bytes. -/
import Derived.Test.YtejlfbiehcfbgaaSipRef
namespace Go.Proofs.Ytejlfbiehcfbgaa
set_option linter.unusedVariables false
open Go.RowKit Go.ChangeShapes Go.WideShapes Go.ChangeAt

/-- Byte q of numbers laid one behind the other, the lowest byte first. -/
def byteOf (f : Nat → Int) (q : Nat) : Int := IntKind.u64.wrap (f (q / 8)) / 2 ^ (8 * (q % 8)) % 256
theorem byteOf_b (f : Nat → Int) : IsB (byteOf f) := fun q => by unfold byteOf; omega
theorem byteOf_at (f : Nat → Int) (i j : Nat) (hj : j < 8) : byteOf f (8 * i + j) = IntKind.u64.wrap (f i) / 256 ^ j % 256 := by
  have h1 : (8 * i + j) / 8 = i := by omega
  have h2 : (8 * i + j) % 8 = j := by omega
  have h3 : (2 : Int) ^ (8 * j) = 256 ^ j := by rw [Int.pow_mul]; rfl
  unfold byteOf
  rw [h1, h2, h3]
theorem num_byteOf (f : Nat → Int) (i : Nat) : num (fun j => byteOf f (8 * i + j)) 8 = IntKind.u64.wrap (f i) := by
  have hU := U_wrap (f i)
  generalize hx : IntKind.u64.wrap (f i) = x at *
  unfold U at hU
  simp only [num, byteOf_at f i _ (show 0 < 8 by omega), byteOf_at f i _ (show 1 < 8 by omega), byteOf_at f i _ (show 2 < 8 by omega), byteOf_at f i _ (show 3 < 8 by omega), byteOf_at f i _ (show 4 < 8 by omega), byteOf_at f i _ (show 5 < 8 by omega), byteOf_at f i _ (show 6 < 8 by omega), byteOf_at f i _ (show 7 < 8 by omega), hx]
  simp only [Int.pow_succ, Int.pow_zero, Int.one_mul, Int.ediv_one, Int.mul_one, Int.zero_add]
  omega
theorem sumB_words (a b : Int) (f : Nat → Int) (n : Nat) : sumB a b (byteOf f) (8 * n) = sumW a b f n := by
  have h1 : 8 * n / 8 = n := by omega
  have h2 : 8 * n % 8 = 0 := by omega
  unfold sumB sumW
  rw [h1, h2, eats_ext _ n (fun i _ => num_byteOf f i)]
  rfl

set_option maxRecDepth 100000 in
theorem rwords_any (a b : Int) (A : Option Addr) (n c : Nat) (f : Nat → Int) (w : World) (h : Is w A n f) (hf : IsI f) (hn : n ≤ 17592186044416) :
    Calls Try.prog 26 #[.agg #[.int .u64 a, .int .u64 b], .slice A n c] w fun e w' => e = .returned (.int .u64 (sumW a b f n)) ∧ Below w.heap.size w w' := by
  go_enter Try.func26, Try.ntmps26
  go_wp2_with fail
  have hs := h.below ((Below.refl w.heap.size w).alloc (Nat.le_refl _) (.cells #[.int .u64 a, .int .u64 b] 29)) (Nat.le_refl _)
  have hb0 : Below w.heap.size w (w.alloc (.cells #[.int .u64 a, .int .u64 b] 29)) := (Below.refl _ _).alloc (Nat.le_refl _) _
  have hk0 : (w.alloc (.cells #[.int .u64 a, .int .u64 b] 29)).cell? ⟨w.heap.size, 0, none⟩ = some (.int .u64 a) := by
    rw [cell_of_row _ _ _ _ _ _ (heap_alloc_new w _)]; rfl
  have hk1 : (w.alloc (.cells #[.int .u64 a, .int .u64 b] 29)).cell? ⟨w.heap.size, 1, none⟩ = some (.int .u64 b) := by
    rw [cell_of_row _ _ _ _ _ _ (heap_alloc_new w _)]; rfl
  have hsz : (w.alloc (.cells #[.int .u64 a, .int .u64 b] 29)).heap.size = w.heap.size + 1 := by simp
  have hsl : w.heap.size < (w.alloc (.cells #[.int .u64 a, .int .u64 b] 29)).heap.size := by simp
  clear hsz
  generalize hw1 : w.alloc (.cells #[.int .u64 a, .int .u64 b] 29) = w1 at *
  clear hw1 h
  go_loopw [5, 6, 7] (fun r i _ wr => ∃ (k : Nat) (A' : Option Addr) (c' : Nat), k ≤ n ∧ i = .int .i64 k ∧ r = .slice A' (8 * k) c' ∧ 8 * k ≤ c' ∧ Below w1.heap.size w1 wr ∧ Ow wr w1.heap.size 5 1 (.slice A' (8 * k) c') (8 * k) (fun q => .int .u8 (byteOf f q)))
    (fun _ i _ _ => n - (intOf i).toNat)
  case atStart => exact ⟨0, none, 0, by omega, rfl, rfl, by omega, Below.refl _ _, Ow.none_⟩
  case round =>
    obtain ⟨k, A', c', hk, rfl, rfl, hc', hb1, hO1⟩ := hrel
    obtain ⟨wo, rfl⟩ : ∃ wo : World, wo = wr := ⟨_, rfl⟩
    by_cases hlt : k < n
    · have i1 : (k : Int) < n := by omega
      go_wp2_with fail
      go_loopw [5, 7] (fun r j wr => ∃ (q : Nat) (A2 : Option Addr) (c2 : Nat), q ≤ 8 ∧ j = .int .i64 q ∧ r = .slice A2 (8 * k + q) c2 ∧ 8 * k + q ≤ c2 ∧ Below w1.heap.size w1 wr ∧ Ow wr w1.heap.size 5 1 (.slice A2 (8 * k + q) c2) (8 * k + q) (fun q => .int .u8 (byteOf f q)))
        (fun _ j _ => 8 - (intOf j).toNat)
      case atStart => exact ⟨0, A', c', by omega, rfl, rfl, hc', hb1, hO1⟩
      case round =>
        obtain ⟨q, A2, c2, hq, rfl, rfl, hc2, hb2, hO2⟩ := hrel
        by_cases hq8 : q < 8
        · have i2 : (q : Int) < 8 := by omega
          obtain ⟨ba, off, rfl, _, hcell⟩ := hs.below hb2 (Nat.le_refl _) (by omega)
          have c0 := hcell k hlt
          have hfk := hf k
          clear hcell
          have hx : Hid (byteOf f (8 * k + q) = IntKind.u64.wrap (f k) / 2 ^ (8 * q) % 256) := by
            unfold Hid byteOf
            rw [show (8 * k + q) / 8 = k from by omega, show (8 * k + q) % 8 = q from by omega]
          go_wp2_with (at_builtin
                       refine wp_app_b rfl (.tmp 18) (.tmp 29) rfl w1.heap.size (.slice A2 (8 * k + q) c2) (8 * k + q) (byteOf f) rfl (hO2.alloc _) (some ⟨wr.heap.size, 0, none⟩) 1 1 (fun j => [IntKind.u64.wrap (f k) / 2 ^ (8 * q) % 256].getD j 0) rfl (row_at .u8 [IntKind.u64.wrap (f k) / 2 ^ (8 * q) % 256] rfl) (by omega) (by have := hb2.size; simp; omega) ?_
                       intro A3 c3 w3 o3 hc3 hm3 hb3 hg3 ho3)
          have hb4 : Below w1.heap.size w1 w3 := (hb2.alloc hb2.size _).trans hb3
          go_roundw
          case rel => exact ⟨q + 1, A3, c3, by omega, by go_num, rfl, hc3, hb4, o3.as_ fun j hj => by
            show Value.int .u8 _ = Value.int .u8 _
            congr 1
            split
            · rfl
            · rw [show j = 8 * k + q from by omega, hx.out]; simp⟩
          case measure => simp [intOf]; omega
        · have e : q = 8 := by omega
          subst e
          have i2 : ¬ ((8 : Nat) : Int) < 8 := by omega
          go_wp2_with fail
          go_roundw
          case rel => exact ⟨k + 1, A2, c2, by omega, by go_num, by rw [show 8 * (k + 1) = 8 * k + 8 from by omega], by omega, hb2, by rw [show 8 * (k + 1) = 8 * k + 8 from by omega]; exact hO2⟩
          case measure => simp [intOf]; omega
    · have e : k = n := by omega
      subst e
      have i1 : ¬ (k : Int) < k := by omega
      have d0 : wo.cell? ⟨w.heap.size, 0, none⟩ = some (.int .u64 a) := (hb1.cell (p := ⟨w.heap.size, 0, none⟩) (by omega)).trans hk0
      have d1 : wo.cell? ⟨w.heap.size, 1, none⟩ = some (.int .u64 b) := (hb1.cell (p := ⟨w.heap.size, 1, none⟩) (by omega)).trans hk1
      have hfin := hid (sumB_words a b f k)
      have SB := hO1.sl1
      have hb5 := hb0.trans (hb1.mono (by omega))
      clear hO1 hk0 hk1
      go_wp2_with fail
      refine (rof_any a b A' (8 * k) c' (byteOf f) _ SB (byteOf_b f) hc' (by omega)).mono ?_
      rintro e w9 ⟨rfl, hb9⟩
      go_wp2
      go_ret
      exact ⟨ret_u64 hfin.out, hb5.trans (hb9.mono hb5.size)⟩

end Go.Proofs.Ytejlfbiehcfbgaa
