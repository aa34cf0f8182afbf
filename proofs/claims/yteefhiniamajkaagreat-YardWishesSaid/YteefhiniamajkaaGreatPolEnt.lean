/- Entries of numbers. -/
import Derived.Test.YteefhiniamajkaaGreatPolApp3
import Derived.BigQuiet
import Derived.Deep.RegionHeld3
import Derived.Deep.Cut
namespace Go.Proofs.YteefhiniamajkaaGreat
set_option linter.unusedVariables false
set_option linter.unusedSimpArgs false
open Go.RowKit Go.ChangeShapes Go.WideShapes Go.ChangeAt

def enS (k : Int) : Int := bif k / 48 % 29 == 0 then k / 48 % 66 else k / 8 % 6
def enK (k : Int) : Int → En
  | 0 => ⟨1, enS k, k / 400 % 5, k / 2000 % 3, 1 + k / 6000 % 8, zKy⟩
  | 1 => ⟨1, enS k, k / 400 % 5, k / 2000 % 3, 1 + k / 6000 % 8, zKy⟩
  | 2 => ⟨2, enS k, 0, 0, 0, zKy⟩
  | 3 => ⟨3, enS k, 0, 0, 0, zKy⟩
  | 4 => ⟨4, enS k, 0, 0, 0, zKy⟩
  | 5 => ⟨5, enS k, 0, 0, 0, zKy⟩
  | _ => ⟨6, 0, 0, 0, 0, kyN k⟩
/-- The entry of a number. -/
def enN (n : Int) : En := enK (wi n 1125899906842624) (wi n 1125899906842624 % 8)
set_option maxRecDepth 100000 in
set_option maxHeartbeats 4000000 in
theorem entry_any (n : Int) (w : World) : Calls Tryz.prog 9 #[.int .i64 n] w fun x w' => x = .returned (enV (enN n)) ∧ Below w.heap.size w w' := by
  obtain ⟨k, hk⟩ : ∃ k, k = wi n 1125899906842624 := ⟨_, rfl⟩
  have kb := wi_bd n 1125899906842624 (by omega)
  rw [← hk] at kb
  have WI := hid (fun w => re_i64 (within6_any n 1125899906842624 w (by omega) (by omega)) hk.symm)
  have LK := fun w => lkey_any k w
  unfold kyV at LK
  replace LK := hid LK
  unfold enN
  rw [← hk]
  clear hk
  obtain ⟨kb1, kb2⟩ := kb
  unfold enV
  have h8 : k % 8 = 0 ∨ k % 8 = 1 ∨ k % 8 = 2 ∨ k % 8 = 3 ∨ k % 8 = 4 ∨ k % 8 = 5 ∨ k % 8 = 6 ∨ k % 8 = 7 := by omega
  cases b29 : (k / 48 % 29 == 0)
  all_goals
    rcases h8 with h8 | h8 | h8 | h8 | h8 | h8 | h8 | h8
    · simp only [enS, enK, h8, b29, cond_true, cond_false]
      go_enter Tryz.func9, Tryz.ntmps9
      go_wp2_with fail
      have CR := hid (Ce.made (w := w) (l := [.int .i64 0, .int .i64 0, .int .i64 0, .int .i64 0, .int .i64 0, .int .u64 0, .int .u64 0]) (T := 44) (g := w.heap.size) rfl)
      have B := hid ((Below.refl w.heap.size w).alloc (Nat.le_refl _) (.cells #[.int .i64 0, .int .i64 0, .int .i64 0, .int .i64 0, .int .i64 0, .int .u64 0, .int .u64 0] 44))
      generalize w.alloc (.cells #[.int .i64 0, .int .i64 0, .int .i64 0, .int .i64 0, .int .i64 0, .int .u64 0, .int .u64 0] 44) = w1 at *
      generalize hK : w.heap.size = R at *
      have HK := hid hK
      clear hK
      refine (WI.out _).mono ?_
      rintro x w' ⟨rfl, rfl⟩
      have r0 := CR.out.2.1 0 _ rfl
      have f0 := CR.out.2.2 0
      have r1 := CR.out.2.1 1 _ rfl
      have f1 := CR.out.2.2 1
      have r2 := CR.out.2.1 2 _ rfl
      have f2 := CR.out.2.2 2
      have r3 := CR.out.2.1 3 _ rfl
      have f3 := CR.out.2.2 3
      have r4 := CR.out.2.1 4 _ rfl
      have f4 := CR.out.2.2 4
      have r5 := CR.out.2.1 5 _ rfl
      have f5 := CR.out.2.2 5
      have r6 := CR.out.2.1 6 _ rfl
      have f6 := CR.out.2.2 6
      go_wp2_with fail
      refine bodyPost_ret (by simp [results, Tryz.results9, go_sem, zKy, r0, r1, r2, r3, r4, r5, r6]) rfl ⟨rfl, ?_⟩
      rw [HK.out]
      repeat' (first | with_reducible exact B.out | with_reducible refine Below.drew ?_ | refine Below.setCell ?_ (by first | exact Nat.le_refl _ | omega) _)
    · simp only [enS, enK, h8, b29, cond_true, cond_false]
      go_enter Tryz.func9, Tryz.ntmps9
      go_wp2_with fail
      have CR := hid (Ce.made (w := w) (l := [.int .i64 0, .int .i64 0, .int .i64 0, .int .i64 0, .int .i64 0, .int .u64 0, .int .u64 0]) (T := 44) (g := w.heap.size) rfl)
      have B := hid ((Below.refl w.heap.size w).alloc (Nat.le_refl _) (.cells #[.int .i64 0, .int .i64 0, .int .i64 0, .int .i64 0, .int .i64 0, .int .u64 0, .int .u64 0] 44))
      generalize w.alloc (.cells #[.int .i64 0, .int .i64 0, .int .i64 0, .int .i64 0, .int .i64 0, .int .u64 0, .int .u64 0] 44) = w1 at *
      generalize hK : w.heap.size = R at *
      have HK := hid hK
      clear hK
      refine (WI.out _).mono ?_
      rintro x w' ⟨rfl, rfl⟩
      have r0 := CR.out.2.1 0 _ rfl
      have f0 := CR.out.2.2 0
      have r1 := CR.out.2.1 1 _ rfl
      have f1 := CR.out.2.2 1
      have r2 := CR.out.2.1 2 _ rfl
      have f2 := CR.out.2.2 2
      have r3 := CR.out.2.1 3 _ rfl
      have f3 := CR.out.2.2 3
      have r4 := CR.out.2.1 4 _ rfl
      have f4 := CR.out.2.2 4
      have r5 := CR.out.2.1 5 _ rfl
      have f5 := CR.out.2.2 5
      have r6 := CR.out.2.1 6 _ rfl
      have f6 := CR.out.2.2 6
      go_wp2_with fail
      refine bodyPost_ret (by simp [results, Tryz.results9, go_sem, zKy, r0, r1, r2, r3, r4, r5, r6]) rfl ⟨rfl, ?_⟩
      rw [HK.out]
      repeat' (first | with_reducible exact B.out | with_reducible refine Below.drew ?_ | refine Below.setCell ?_ (by first | exact Nat.le_refl _ | omega) _)
    · simp only [enS, enK, h8, b29, cond_true, cond_false]
      go_enter Tryz.func9, Tryz.ntmps9
      go_wp2_with fail
      have CR := hid (Ce.made (w := w) (l := [.int .i64 0, .int .i64 0, .int .i64 0, .int .i64 0, .int .i64 0, .int .u64 0, .int .u64 0]) (T := 44) (g := w.heap.size) rfl)
      have B := hid ((Below.refl w.heap.size w).alloc (Nat.le_refl _) (.cells #[.int .i64 0, .int .i64 0, .int .i64 0, .int .i64 0, .int .i64 0, .int .u64 0, .int .u64 0] 44))
      generalize w.alloc (.cells #[.int .i64 0, .int .i64 0, .int .i64 0, .int .i64 0, .int .i64 0, .int .u64 0, .int .u64 0] 44) = w1 at *
      generalize hK : w.heap.size = R at *
      have HK := hid hK
      clear hK
      refine (WI.out _).mono ?_
      rintro x w' ⟨rfl, rfl⟩
      have r0 := CR.out.2.1 0 _ rfl
      have f0 := CR.out.2.2 0
      have r1 := CR.out.2.1 1 _ rfl
      have f1 := CR.out.2.2 1
      have r2 := CR.out.2.1 2 _ rfl
      have f2 := CR.out.2.2 2
      have r3 := CR.out.2.1 3 _ rfl
      have f3 := CR.out.2.2 3
      have r4 := CR.out.2.1 4 _ rfl
      have f4 := CR.out.2.2 4
      have r5 := CR.out.2.1 5 _ rfl
      have f5 := CR.out.2.2 5
      have r6 := CR.out.2.1 6 _ rfl
      have f6 := CR.out.2.2 6
      go_wp2_with fail
      refine bodyPost_ret (by simp [results, Tryz.results9, go_sem, zKy, r0, r1, r2, r3, r4, r5, r6]) rfl ⟨rfl, ?_⟩
      rw [HK.out]
      repeat' (first | with_reducible exact B.out | with_reducible refine Below.drew ?_ | refine Below.setCell ?_ (by first | exact Nat.le_refl _ | omega) _)
    · simp only [enS, enK, h8, b29, cond_true, cond_false]
      go_enter Tryz.func9, Tryz.ntmps9
      go_wp2_with fail
      have CR := hid (Ce.made (w := w) (l := [.int .i64 0, .int .i64 0, .int .i64 0, .int .i64 0, .int .i64 0, .int .u64 0, .int .u64 0]) (T := 44) (g := w.heap.size) rfl)
      have B := hid ((Below.refl w.heap.size w).alloc (Nat.le_refl _) (.cells #[.int .i64 0, .int .i64 0, .int .i64 0, .int .i64 0, .int .i64 0, .int .u64 0, .int .u64 0] 44))
      generalize w.alloc (.cells #[.int .i64 0, .int .i64 0, .int .i64 0, .int .i64 0, .int .i64 0, .int .u64 0, .int .u64 0] 44) = w1 at *
      generalize hK : w.heap.size = R at *
      have HK := hid hK
      clear hK
      refine (WI.out _).mono ?_
      rintro x w' ⟨rfl, rfl⟩
      have r0 := CR.out.2.1 0 _ rfl
      have f0 := CR.out.2.2 0
      have r1 := CR.out.2.1 1 _ rfl
      have f1 := CR.out.2.2 1
      have r2 := CR.out.2.1 2 _ rfl
      have f2 := CR.out.2.2 2
      have r3 := CR.out.2.1 3 _ rfl
      have f3 := CR.out.2.2 3
      have r4 := CR.out.2.1 4 _ rfl
      have f4 := CR.out.2.2 4
      have r5 := CR.out.2.1 5 _ rfl
      have f5 := CR.out.2.2 5
      have r6 := CR.out.2.1 6 _ rfl
      have f6 := CR.out.2.2 6
      go_wp2_with fail
      refine bodyPost_ret (by simp [results, Tryz.results9, go_sem, zKy, r0, r1, r2, r3, r4, r5, r6]) rfl ⟨rfl, ?_⟩
      rw [HK.out]
      repeat' (first | with_reducible exact B.out | with_reducible refine Below.drew ?_ | refine Below.setCell ?_ (by first | exact Nat.le_refl _ | omega) _)
    · simp only [enS, enK, h8, b29, cond_true, cond_false]
      go_enter Tryz.func9, Tryz.ntmps9
      go_wp2_with fail
      have CR := hid (Ce.made (w := w) (l := [.int .i64 0, .int .i64 0, .int .i64 0, .int .i64 0, .int .i64 0, .int .u64 0, .int .u64 0]) (T := 44) (g := w.heap.size) rfl)
      have B := hid ((Below.refl w.heap.size w).alloc (Nat.le_refl _) (.cells #[.int .i64 0, .int .i64 0, .int .i64 0, .int .i64 0, .int .i64 0, .int .u64 0, .int .u64 0] 44))
      generalize w.alloc (.cells #[.int .i64 0, .int .i64 0, .int .i64 0, .int .i64 0, .int .i64 0, .int .u64 0, .int .u64 0] 44) = w1 at *
      generalize hK : w.heap.size = R at *
      have HK := hid hK
      clear hK
      refine (WI.out _).mono ?_
      rintro x w' ⟨rfl, rfl⟩
      have r0 := CR.out.2.1 0 _ rfl
      have f0 := CR.out.2.2 0
      have r1 := CR.out.2.1 1 _ rfl
      have f1 := CR.out.2.2 1
      have r2 := CR.out.2.1 2 _ rfl
      have f2 := CR.out.2.2 2
      have r3 := CR.out.2.1 3 _ rfl
      have f3 := CR.out.2.2 3
      have r4 := CR.out.2.1 4 _ rfl
      have f4 := CR.out.2.2 4
      have r5 := CR.out.2.1 5 _ rfl
      have f5 := CR.out.2.2 5
      have r6 := CR.out.2.1 6 _ rfl
      have f6 := CR.out.2.2 6
      go_wp2_with fail
      refine bodyPost_ret (by simp [results, Tryz.results9, go_sem, zKy, r0, r1, r2, r3, r4, r5, r6]) rfl ⟨rfl, ?_⟩
      rw [HK.out]
      repeat' (first | with_reducible exact B.out | with_reducible refine Below.drew ?_ | refine Below.setCell ?_ (by first | exact Nat.le_refl _ | omega) _)
    · simp only [enS, enK, h8, b29, cond_true, cond_false]
      go_enter Tryz.func9, Tryz.ntmps9
      go_wp2_with fail
      have CR := hid (Ce.made (w := w) (l := [.int .i64 0, .int .i64 0, .int .i64 0, .int .i64 0, .int .i64 0, .int .u64 0, .int .u64 0]) (T := 44) (g := w.heap.size) rfl)
      have B := hid ((Below.refl w.heap.size w).alloc (Nat.le_refl _) (.cells #[.int .i64 0, .int .i64 0, .int .i64 0, .int .i64 0, .int .i64 0, .int .u64 0, .int .u64 0] 44))
      generalize w.alloc (.cells #[.int .i64 0, .int .i64 0, .int .i64 0, .int .i64 0, .int .i64 0, .int .u64 0, .int .u64 0] 44) = w1 at *
      generalize hK : w.heap.size = R at *
      have HK := hid hK
      clear hK
      refine (WI.out _).mono ?_
      rintro x w' ⟨rfl, rfl⟩
      have r0 := CR.out.2.1 0 _ rfl
      have f0 := CR.out.2.2 0
      have r1 := CR.out.2.1 1 _ rfl
      have f1 := CR.out.2.2 1
      have r2 := CR.out.2.1 2 _ rfl
      have f2 := CR.out.2.2 2
      have r3 := CR.out.2.1 3 _ rfl
      have f3 := CR.out.2.2 3
      have r4 := CR.out.2.1 4 _ rfl
      have f4 := CR.out.2.2 4
      have r5 := CR.out.2.1 5 _ rfl
      have f5 := CR.out.2.2 5
      have r6 := CR.out.2.1 6 _ rfl
      have f6 := CR.out.2.2 6
      go_wp2_with fail
      refine bodyPost_ret (by simp [results, Tryz.results9, go_sem, zKy, r0, r1, r2, r3, r4, r5, r6]) rfl ⟨rfl, ?_⟩
      rw [HK.out]
      repeat' (first | with_reducible exact B.out | with_reducible refine Below.drew ?_ | refine Below.setCell ?_ (by first | exact Nat.le_refl _ | omega) _)
    · simp only [enS, enK, h8, b29, cond_true, cond_false]
      go_enter Tryz.func9, Tryz.ntmps9
      go_wp2_with fail
      have CR := hid (Ce.made (w := w) (l := [.int .i64 0, .int .i64 0, .int .i64 0, .int .i64 0, .int .i64 0, .int .u64 0, .int .u64 0]) (T := 44) (g := w.heap.size) rfl)
      have B := hid ((Below.refl w.heap.size w).alloc (Nat.le_refl _) (.cells #[.int .i64 0, .int .i64 0, .int .i64 0, .int .i64 0, .int .i64 0, .int .u64 0, .int .u64 0] 44))
      generalize w.alloc (.cells #[.int .i64 0, .int .i64 0, .int .i64 0, .int .i64 0, .int .i64 0, .int .u64 0, .int .u64 0] 44) = w1 at *
      generalize hK : w.heap.size = R at *
      have HK := hid hK
      clear hK
      refine (WI.out _).mono ?_
      rintro x w' ⟨rfl, rfl⟩
      go_wp2_with fail
      refine (LK.out _).mono ?_
      rintro x w2 ⟨rfl, hb⟩
      replace B := hid (B.out.trans (hb.mono (Nat.le_of_lt CR.out.1)))
      replace CR := hid (CR.out.below hb)
      clear hb
      have r0 := CR.out.2.1 0 _ rfl
      have f0 := CR.out.2.2 0
      have r1 := CR.out.2.1 1 _ rfl
      have f1 := CR.out.2.2 1
      have r2 := CR.out.2.1 2 _ rfl
      have f2 := CR.out.2.2 2
      have r3 := CR.out.2.1 3 _ rfl
      have f3 := CR.out.2.2 3
      have r4 := CR.out.2.1 4 _ rfl
      have f4 := CR.out.2.2 4
      have r5 := CR.out.2.1 5 _ rfl
      have f5 := CR.out.2.2 5
      have r6 := CR.out.2.1 6 _ rfl
      have f6 := CR.out.2.2 6
      skip
      go_wp2_with fail
      refine bodyPost_ret (by simp [results, Tryz.results9, go_sem, zKy, r0, r1, r2, r3, r4, r5, r6]) rfl ⟨rfl, ?_⟩
      rw [HK.out]
      repeat' (first | with_reducible exact B.out | with_reducible refine Below.drew ?_ | refine Below.setCell ?_ (by first | exact Nat.le_refl _ | omega) _)
    · simp only [enS, enK, h8, b29, cond_true, cond_false]
      go_enter Tryz.func9, Tryz.ntmps9
      go_wp2_with fail
      have CR := hid (Ce.made (w := w) (l := [.int .i64 0, .int .i64 0, .int .i64 0, .int .i64 0, .int .i64 0, .int .u64 0, .int .u64 0]) (T := 44) (g := w.heap.size) rfl)
      have B := hid ((Below.refl w.heap.size w).alloc (Nat.le_refl _) (.cells #[.int .i64 0, .int .i64 0, .int .i64 0, .int .i64 0, .int .i64 0, .int .u64 0, .int .u64 0] 44))
      generalize w.alloc (.cells #[.int .i64 0, .int .i64 0, .int .i64 0, .int .i64 0, .int .i64 0, .int .u64 0, .int .u64 0] 44) = w1 at *
      generalize hK : w.heap.size = R at *
      have HK := hid hK
      clear hK
      refine (WI.out _).mono ?_
      rintro x w' ⟨rfl, rfl⟩
      go_wp2_with fail
      refine (LK.out _).mono ?_
      rintro x w2 ⟨rfl, hb⟩
      replace B := hid (B.out.trans (hb.mono (Nat.le_of_lt CR.out.1)))
      replace CR := hid (CR.out.below hb)
      clear hb
      have r0 := CR.out.2.1 0 _ rfl
      have f0 := CR.out.2.2 0
      have r1 := CR.out.2.1 1 _ rfl
      have f1 := CR.out.2.2 1
      have r2 := CR.out.2.1 2 _ rfl
      have f2 := CR.out.2.2 2
      have r3 := CR.out.2.1 3 _ rfl
      have f3 := CR.out.2.2 3
      have r4 := CR.out.2.1 4 _ rfl
      have f4 := CR.out.2.2 4
      have r5 := CR.out.2.1 5 _ rfl
      have f5 := CR.out.2.2 5
      have r6 := CR.out.2.1 6 _ rfl
      have f6 := CR.out.2.2 6
      skip
      go_wp2_with fail
      refine bodyPost_ret (by simp [results, Tryz.results9, go_sem, zKy, r0, r1, r2, r3, r4, r5, r6]) rfl ⟨rfl, ?_⟩
      rw [HK.out]
      repeat' (first | with_reducible exact B.out | with_reducible refine Below.drew ?_ | refine Below.setCell ?_ (by first | exact Nat.le_refl _ | omega) _)
end Go.Proofs.YteefhiniamajkaaGreat
