/- Ticks, and all that is on its way. -/
import Derived.Test.YtnnilkdlpampdaaYdWays
import Derived.BigQuiet
import Derived.Deep.RegionHeld3
import Derived.Deep.Cut
import Derived.IntWalk
namespace Go.Proofs.Ytnnilkdlpampdaa
set_option linter.unusedVariables false
set_option linter.unusedSimpArgs false
open Go.RowKit Go.ChangeShapes Go.WideShapes Go.ChangeAt
set_option maxRecDepth 100000
attribute [local irreducible] FA FL
/-- What comes first arrives, till nothing is on its way. -/
def runD : Nat → Yd → Yd
  | 0, y => y
  | k + 1, y => if y.ns = [] then y else runD k (delY y 0 false)
def setl : Nat → Yd → Yd
  | 0, y => y
  | k + 1, y => runD 100 (tickY (setl k y))
theorem runD_nil {y : Yd} (k : Nat) (h : y.ns = []) : runD k y = y := by
  cases k with
  | zero => rfl
  | succ k => unfold runD; rw [if_pos h]
theorem runD_cons {y : Yd} (k : Nat) (h : 0 < y.ns.length) : runD (k + 1) y = runD k (delY y 0 false) := by
  rw [runD, if_neg (fun e => by rw [e] at h; exact absurd h (by simp))]
theorem del0_len (y : Yd) (h : 0 < y.ns.length) : (delY y 0 false).ns.length ≤ y.ns.length := by
  have hd : (dropL y.ns 0 false).length = y.ns.length - 1 := by
    show (y.ns.eraseIdx 0).length = _
    rw [List.length_eraseIdx, if_pos h]
  obtain ⟨n, hn⟩ : ∃ n, y.ns[0]? = some n := ⟨_, List.getElem?_eq_getElem h⟩
  rw [delY_some hn]
  unfold getY
  split
  · show (dropL y.ns 0 false).length ≤ _
    omega
  · show (dropL y.ns 0 false ++ [_]).length ≤ _
    rw [List.length_append, hd, List.length_singleton]
    omega
section
variable {S : List Nat} {W w : World} {D : Yl} {y : Yd} {R : List Th} {N B n : Nat} {K : Int}
set_option maxHeartbeats 16000000 in
theorem settle_any (hY : YA S W w D y R N) (hF : Fit y K) (hK : K ≤ 10000) (hN : N ≤ 100000) (hns : y.ns.length ≤ B) (hB : B ≤ 10000) (hn : n ≤ 100) : Calls Try.prog 20 #[.pointer (some ⟨D.Y, 0, none⟩), .int .i64 (n : Int)] w fun x w' => x = .returned (.tuple #[]) ∧ YA S W w' D (setl n y) R (N + 101 * n) := by
  have Y0 := hid hY
  have F0 := hid hF
  have NS0 := hid hns
  clear hY hF hns
  go_enter Try.func20, Try.ntmps20
  go_wp2_with fail
  go_loopw [4] (fun i wr => ∃ k : Nat, k ≤ n ∧ i = .int .i64 (k : Int) ∧ YA S W wr D (setl k y) R (N + 101 * k) ∧ Fit (setl k y) (K + k) ∧ (setl k y).ns.length ≤ B + 16 * k) (fun i _ => n - (intOf i).toNat)
  case atStart => exact ⟨0, Nat.zero_le _, rfl, Y0.out, F0.out.mono (by omega), NS0.out⟩
  case round =>
    clear Y0 F0 NS0
    obtain ⟨k, hk, rfl, hY, hF, hns⟩ := hrel
    have Y1 := hid hY
    have F1 := hid hF
    have N1 := hid hns
    clear hY hF hns
    by_cases hlt : (k : Int) < n
    · have hkn : k < n := by omega
      go_wp2_with fail
      refine (ya_tick Y1.out F1.out (by omega) (by have := N1.out; omega)).mono ?_
      rintro x w2 ⟨rfl, hY⟩
      obtain ⟨y1, hy1⟩ : ∃ y1, y1 = setl k y := ⟨_, rfl⟩
      have HS_ := hid (show setl (k + 1) y = runD 100 (tickY y1) from by rw [hy1]; rfl)
      rw [← hy1] at hY F1 N1 ⊢
      have Y2 := hid hY
      have F2 := hid F1.out.tick
      have N2 := hid (show (tickY y1).ns.length ≤ B + 16 * (k + 1) from by have h1 := tickY_len y1; have h2 := F1.out.2.1.2; have h3 := N1.out; omega)
      clear hY Y1 F1 N1 hy1
      go_simp
      go_wp2_with fail
      go_loopw [5] (fun i wx => ∃ (j : Nat) (y' : Yd), j ≤ 100 ∧ i = .int .i64 (j : Int) ∧ runD 100 (tickY y1) = runD (100 - j) y' ∧ YA S W wx D y' R (N + 101 * k + j) ∧ Fit y' (K + k + 1) ∧ y'.ns.length ≤ B + 16 * (k + 1)) (fun i _ => 100 - (intOf i).toNat)
      case atStart => exact ⟨0, tickY y1, by omega, rfl, rfl, Y2.out, F2.out, N2.out⟩
      case round =>
        clear Y2 F2 N2
        obtain ⟨j, y', hj, rfl, hr, hY, hF, hns⟩ := hrel
        have Y3 := hid hY
        have F3 := hid hF
        have N3 := hid hns
        have RR := hid hr
        clear hY hF hns hr
        by_cases hjl : (j : Int) < 100
        · by_cases h0 : y'.ns.length = 0
          · have DL := hid (ya_delN Y3.out 0 (by rw [h0]; rfl) false)
            have E9 := hid (show runD (100 - j) y' = y' from runD_nil _ (List.length_eq_zero_iff.1 h0))
            clear h0 Y3
            go_wp2_with fail
            refine DL.out.mono ?_
            rintro x w3 ⟨rfl, hY⟩
            have Y4 := hid hY
            clear hY DL
            go_simp
            go_wp2_with fail
            go_roundw
            case rel => exact ⟨k + 1, by omega, by go_num, by rw [HS_.out, RR.out, E9.out]; exact Y4.out.mono (by omega), by rw [HS_.out, RR.out, E9.out]; exact F3.out.mono (by omega), by rw [HS_.out, RR.out, E9.out]; exact N3.out⟩
            case measure => simp [intOf]; omega
          · have h1 : 0 < y'.ns.length := by omega
            have DL := hid (ya_del Y3.out F3.out (by omega) (by omega) (by have := N3.out; omega) 0 h1 false)
            have FD := hid (F3.out.del 0 false)
            have E9 := hid (show runD (100 - j) y' = runD (100 - (j + 1)) (delY y' 0 false) from by rw [show 100 - j = (100 - (j + 1)) + 1 by omega]; exact runD_cons _ h1)
            have ND := hid (show (delY y' 0 false).ns.length ≤ B + 16 * (k + 1) from by have h2 := del0_len y' h1; have h3 := N3.out; omega)
            clear h0 h1 Y3 N3 F3
            go_wp2_with fail
            refine DL.out.mono ?_
            rintro x w3 ⟨rfl, hY⟩
            have Y4 := hid hY
            clear hY DL
            go_simp
            go_wp2_with fail
            go_roundw
            case rel => exact ⟨j + 1, _, by omega, by go_num, by rw [RR.out, E9.out], Y4.out.mono (by omega), FD.out, ND.out⟩
            case measure => simp [intOf]; omega
        · have hje : j = 100 := by omega
          subst hje
          have E9 := hid (show runD (100 - 100) y' = y' from rfl)
          go_wp2_with fail
          go_roundw
          case rel => exact ⟨k + 1, by omega, by go_num, by rw [HS_.out, RR.out, E9.out]; exact Y3.out.mono (by omega), by rw [HS_.out, RR.out, E9.out]; exact F3.out.mono (by omega), by rw [HS_.out, RR.out, E9.out]; exact N3.out⟩
          case measure => simp [intOf]; omega
    · have hkn : k = n := by omega
      subst hkn
      go_wp2_with fail
      go_end0
      exact ⟨rfl, Y1.out⟩
end
end Go.Proofs.Ytnnilkdlpampdaa
