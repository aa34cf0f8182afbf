/- Words, one digit. -/
import Derived.Test.YtljgcffpijjliaaDoorPolWl
import Derived.Lib.OthersKept
import Derived.Laws.RangeAny
import Derived.Laws.RangeString
import Derived.BigQuiet
import Derived.Deep.RegionHeld3
import Derived.Deep.Cut
namespace Go.Proofs.YtljgcffpijjliaaDoor
set_option linter.unusedVariables false
set_option linter.unusedSimpArgs false
open Go.RowKit Go.ChangeShapes Go.WideShapes Go.ChangeAt

set_option maxRecDepth 100000 in
set_option maxHeartbeats 4000000 in
theorem word2 (w : World) : Calls Tryd.prog 45 #[.int .i64 2] w fun e w' => e = .returned (.string ⟨#[111, 112, 101, 110]⟩) ∧ w = w' := by
  go_enter Tryd.func45, Tryd.ntmps45
  go_wp2
  go_ret
  exact ⟨rfl, rfl⟩
set_option maxRecDepth 100000 in
set_option maxHeartbeats 4000000 in
theorem word1 (w : World) : Calls Tryd.prog 45 #[.int .i64 1] w fun e w' => e = .returned (.string ⟨#[98, 105, 110, 100]⟩) ∧ w = w' := by
  go_enter Tryd.func45, Tryd.ntmps45
  go_wp2
  go_ret
  exact ⟨rfl, rfl⟩
set_option maxRecDepth 100000 in
set_option maxHeartbeats 4000000 in
theorem small3 (w : World) : Calls Tryd.prog 69 #[.int .i64 3] w fun e w' => e = .returned (.string ⟨#[51]⟩) ∧ w = w' := by
  go_enter Tryd.func69, Tryd.ntmps69
  go_wp2
  go_ret
  exact ⟨rfl, rfl⟩
set_option maxRecDepth 100000 in
set_option maxHeartbeats 4000000 in
theorem fuin3 (w : World) : Calls Tryd.prog 63 #[.int .u64 3, .int .i64 10] w fun e w' => e = .returned (.string ⟨#[51]⟩) ∧ w = w' := by
  go_enter Tryd.func63, Tryd.ntmps63
  go_wp2_with fail
  refine (small3 _).mono ?_
  rintro e w' ⟨rfl, rfl⟩
  go_wp2_with fail
  go_ret
  exact ⟨rfl, rfl⟩
set_option maxRecDepth 100000 in
set_option maxHeartbeats 4000000 in
theorem fu3 (w : World) : Calls Tryd.prog 47 #[.int .u64 3, .int .i64 10] w fun e w' => e = .returned (.string ⟨#[51]⟩) ∧ w = w' := by
  go_enter Tryd.func47, Tryd.ntmps47
  go_wp2_with fail
  refine (fuin3 _).mono ?_
  rintro e w' ⟨rfl, rfl⟩
  go_wp2_with fail
  go_ret
  exact ⟨rfl, rfl⟩
set_option maxRecDepth 100000 in
set_option maxHeartbeats 4000000 in
theorem nums3 (w : World) : Calls Tryd.prog 46 #[.agg #[.int .i64 2, .int .i64 3, .int .i64 0, .int .i64 0, .int .i64 0, .int .u64 0, .int .u64 0]] w fun e w' => ∃ b : Nat, e = .returned (.slice (some ⟨b, 0, none⟩) 1 1) ∧ Ce w' b [.int .u64 3] ∧ Below w.heap.size w w' := by
  go_enter Tryd.func46, Tryd.ntmps46
  have HB := hid ((Below.refl w.heap.size w).alloc (Nat.le_refl _) (.cells #[.int .i64 2, .int .i64 3, .int .i64 0, .int .i64 0, .int .i64 0, .int .u64 0, .int .u64 0] 56))
  go_wp2_with fail
  go_ret
  exact ⟨_, rfl, Ce.made (l := [.int .u64 3]) (by simp), HB.out.alloc HB.out.size _⟩
set_option maxRecDepth 100000 in
set_option maxHeartbeats 4000000 in
theorem digit3 (w : World) : Calls Tryd.prog 78 #[.int .i32 51] w fun e w' => e = .returned (.tuple #[.int .u64 3, .bool true]) ∧ w = w' := by
  go_enter Tryd.func78, Tryd.ntmps78
  go_wp2
  go_ret2
  exact ⟨rfl, rfl⟩
set_option maxRecDepth 100000 in
set_option maxHeartbeats 4000000 in
theorem pnum3 (w : World) : Calls Tryd.prog 68 #[.string ⟨#[51]⟩] w fun e w' => e = .returned (.tuple #[.int .u64 3, .bool true]) ∧ Below w.heap.size w w' := by
  go_enter Tryd.func68, Tryd.ntmps68
  have hk0 : (w.iter ⟨#[51]⟩ 0).heap[w.heap.size]? = some (.stringIter ⟨#[51]⟩ 0) := World.iter_heap w _ 0
  have hb0 : Below w.heap.size w (w.iter ⟨#[51]⟩ 0) := (Below.refl _ w).alloc (Nat.le_refl _) _
  have HK0 := hid hk0
  have HB0 := hid hb0
  clear hk0 hb0
  go_wp2_with fail
  go_loopw [4] (fun n wr => ∃ pos : Nat, pos ≤ 1 ∧ wr.heap[w.heap.size]? = some (.stringIter ⟨#[51]⟩ pos) ∧ n = .int .u64 (if pos = 0 then 0 else 3) ∧ Below w.heap.size w wr) (fun _ wr => 1 - wr.iterPos w.heap.size)
  case atStart => exact ⟨0, by omega, HK0.out, rfl, HB0.out⟩
  case round =>
    clear HK0 HB0
    obtain ⟨pos, hps, hk, rfl, hnx⟩ := hrel
    by_cases hp : pos = 0
    · subst hp
      have h128 : ((⟨#[51]⟩ : ByteArray)[0]'(by decide)).toNat < 128 := by decide
      have hnext : ∀ ty, (Instr.next (.pointer (some ⟨w.heap.size, 0, none⟩)) true ty).run Tryd.prog wr = _ := fun ty => Lib.run_next_ascii_at wr w.heap.size ⟨#[51]⟩ 0 ty hk (by decide) h128
      have hv : ((((⟨#[51]⟩ : ByteArray)[0]'(by decide)).toNat : Nat) : Int) = 51 := by decide
      have hk1 := Lib.iterAt_heap wr w.heap.size ⟨#[51]⟩ 0 1 hk
      have hnx1 : Below w.heap.size w (wr.iterAt w.heap.size ⟨#[51]⟩ 1) := Lib.below_iterAt hnx (by omega) _ 1
      have hmu : wr.iterPos w.heap.size = 0 := by simp [World.iterPos, hk]
      have hmu1 : (wr.iterAt w.heap.size ⟨#[51]⟩ 1).iterPos w.heap.size = 1 := by simp [World.iterPos, hk1]
      rw [hv] at hnext
      have HK1 := hid hk1
      have HN1 := hid hnx1
      have HM := hid hmu
      have HM1 := hid hmu1
      clear hk1 hnx1 hmu hmu1 hk hnx hv
      rw [if_pos rfl]
      generalize wr.iterAt w.heap.size ⟨#[51]⟩ 1 = W1 at *
      go_wp2_with fail
      refine (digit3 _).mono ?_
      rintro e W2 ⟨rfl, rfl⟩
      go_wp2_with fail
      go_roundw
      case rel => exact ⟨1, by omega, HK1.out, rfl, HN1.out⟩
      case measure => rw [HM.out, HM1.out]; omega
    · have hp1 : pos = 1 := by omega
      subst hp1
      have hnext : ∀ ty, (Instr.next (.pointer (some ⟨w.heap.size, 0, none⟩)) true ty).run Tryd.prog wr = _ := fun ty => Lib.run_next_end_at wr w.heap.size ⟨#[51]⟩ 1 ty hk (by decide)
      have HN := hid hnx
      clear hk hnx
      rw [if_neg (by decide)]
      go_wp2_with fail
      go_ret2
      exact ⟨rfl, HN.out⟩
end Go.Proofs.YtljgcffpijjliaaDoor
