/- A kind's word, an entry's numbers. -/
import Derived.Test.YtljgcffpijjliaaDoorOrdKn
import Derived.BigQuiet
import Derived.Deep.RegionHeld3
import Derived.Deep.Cut
namespace Go.Proofs.YtljgcffpijjliaaDoor
set_option linter.unusedVariables false
set_option linter.unusedSimpArgs false
open Go.RowKit Go.ChangeShapes Go.WideShapes Go.ChangeAt

def wdL (k : Int) : List UInt8 := if k = 1 then [98, 105, 110, 100] else if k = 2 then [111, 112, 101, 110] else if k = 3 then [100, 114, 97, 105, 110] else if k = 4 then [115, 104, 117, 116] else if k = 5 then [102, 114, 101, 101] else [114, 111, 116, 97, 116, 101]
def nmL (e : En) : List Int := if e.k = 1 then [e.s, e.a, e.p, e.w] else if e.k = 6 then [e.y.a, e.y.b] else [e.s]
def U64 (x : Int) : Prop := 0 ≤ x ∧ x < 18446744073709551616
theorem wr_u {x : Int} (h : U64 x) : IntKind.u64.wrap x = x := by unfold U64 at h; rw [IntKind.wrap_u64]; omega
set_option maxRecDepth 100000 in
set_option maxHeartbeats 4000000 in
theorem word_any (k : Int) (w : World) : Calls Tryd.prog 45 #[.int .i64 k] w fun e w' => e = .returned (.string ⟨(wdL k).toArray⟩) ∧ w = w' := by
  by_cases h1 : k = 1
  · subst h1
    go_enter Tryd.func45, Tryd.ntmps45
    go_wp2
    go_ret
    exact ⟨rfl, rfl⟩
  · have b1 : (k == 1) = false := by simpa using h1
    by_cases h2 : k = 2
    · subst h2
      go_enter Tryd.func45, Tryd.ntmps45
      go_wp2
      go_ret
      exact ⟨rfl, rfl⟩
    · have b2 : (k == 2) = false := by simpa using h2
      by_cases h3 : k = 3
      · subst h3
        go_enter Tryd.func45, Tryd.ntmps45
        go_wp2
        go_ret
        exact ⟨rfl, rfl⟩
      · have b3 : (k == 3) = false := by simpa using h3
        by_cases h4 : k = 4
        · subst h4
          go_enter Tryd.func45, Tryd.ntmps45
          go_wp2
          go_ret
          exact ⟨rfl, rfl⟩
        · have b4 : (k == 4) = false := by simpa using h4
          by_cases h5 : k = 5
          · subst h5
            go_enter Tryd.func45, Tryd.ntmps45
            go_wp2
            go_ret
            exact ⟨rfl, rfl⟩
          · have b5 : (k == 5) = false := by simpa using h5
            have HW := hid (show wdL k = [114, 111, 116, 97, 116, 101] from by unfold wdL; rw [if_neg h1, if_neg h2, if_neg h3, if_neg h4, if_neg h5])
            rw [HW.out]
            clear h1 h2 h3 h4 h5
            go_enter Tryd.func45, Tryd.ntmps45
            go_wp2
            go_ret
            exact ⟨rfl, rfl⟩
set_option maxRecDepth 100000 in
set_option maxHeartbeats 4000000 in
theorem nums_any (e : En) (h : ∀ x ∈ nmL e, U64 x) (w : World) : Calls Tryd.prog 46 #[enV e] w fun r w' => ∃ b : Nat, r = .returned (.slice (some ⟨b, 0, none⟩) (nmL e).length (nmL e).length) ∧ w.heap.size ≤ b ∧ Ce w' b ((nmL e).map fun x => Value.int .u64 x) ∧ Below w.heap.size w w' := by
  obtain ⟨k, s, a, q, m, ya, yb⟩ := e
  unfold enV
  by_cases h1 : k = 1
  · subst h1
    have HN := hid (show nmL ⟨1, s, a, q, m, ⟨ya, yb⟩⟩ = [s, a, q, m] from rfl)
    have w1_ := wr_u (h s (by rw [HN.out]; simp))
    have w2_ := wr_u (h a (by rw [HN.out]; simp))
    have w3_ := wr_u (h q (by rw [HN.out]; simp))
    have w4_ := wr_u (h m (by rw [HN.out]; simp))
    clear h
    rw [show (nmL ⟨1, s, a, q, m, ⟨ya, yb⟩⟩).length = 4 from rfl]
    go_enter Tryd.func46, Tryd.ntmps46
    have HB := hid ((Below.refl w.heap.size w).alloc (Nat.le_refl _) (.cells #[.int .i64 1, .int .i64 s, .int .i64 a, .int .i64 q, .int .i64 m, .int .u64 ya, .int .u64 yb] 56))
    go_wp2_with fail
    go_ret
    refine ⟨_, rfl, ?_, ?_, HB.out.alloc HB.out.size _⟩
    · simp
    · rw [HN.out]; exact Ce.made (l := [.int .u64 s, .int .u64 a, .int .u64 q, .int .u64 m]) (by simp)
  · have b1 : (k == 1) = false := by simpa using h1
    by_cases h6 : k = 6
    · subst h6
      have HN := hid (show nmL ⟨6, s, a, q, m, ⟨ya, yb⟩⟩ = [ya, yb] from rfl)
      clear h
      rw [show (nmL ⟨6, s, a, q, m, ⟨ya, yb⟩⟩).length = 2 from rfl]
      go_enter Tryd.func46, Tryd.ntmps46
      have HB := hid ((Below.refl w.heap.size w).alloc (Nat.le_refl _) (.cells #[.int .i64 6, .int .i64 s, .int .i64 a, .int .i64 q, .int .i64 m, .int .u64 ya, .int .u64 yb] 56))
      go_wp2_with fail
      go_ret
      refine ⟨_, rfl, ?_, ?_, HB.out.alloc HB.out.size _⟩
      · simp
      · rw [HN.out]; exact Ce.made (l := [.int .u64 ya, .int .u64 yb]) (by simp)
    · have b6 : (k == 6) = false := by simpa using h6
      have HN := hid (show nmL ⟨k, s, a, q, m, ⟨ya, yb⟩⟩ = [s] from by unfold nmL; rw [if_neg h1, if_neg h6])
      have w1_ := wr_u (h s (by rw [HN.out]; simp))
      clear h h1 h6
      rw [show (nmL ⟨k, s, a, q, m, ⟨ya, yb⟩⟩).length = 1 from by rw [HN.out]; rfl]
      go_enter Tryd.func46, Tryd.ntmps46
      have HB := hid ((Below.refl w.heap.size w).alloc (Nat.le_refl _) (.cells #[.int .i64 k, .int .i64 s, .int .i64 a, .int .i64 q, .int .i64 m, .int .u64 ya, .int .u64 yb] 56))
      go_wp2_with fail
      go_ret
      refine ⟨_, rfl, ?_, ?_, HB.out.alloc HB.out.size _⟩
      · simp
      · rw [HN.out]; exact Ce.made (l := [.int .u64 s]) (by simp)
end Go.Proofs.YtljgcffpijjliaaDoor
