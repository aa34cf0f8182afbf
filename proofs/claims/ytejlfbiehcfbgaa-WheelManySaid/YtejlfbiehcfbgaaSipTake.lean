/- Numbers taken into a keyed sum. -/
import Derived.Test.YtejlfbiehcfbgaaSipRound
namespace Go.Proofs.Ytejlfbiehcfbgaa
set_option linter.unusedVariables false
open Go.RowKit Go.ChangeShapes Go.WideShapes Go.ChangeAt

set_option maxRecDepth 100000 in
theorem take_u64 (g : Nat) (v : V4) (A : Option Addr) (n c : Nat) (f : Nat → Int) (w : World) (hS : St w g v) (hU : v.U) (h : Sl w A n (fun j => .int .u64 (f j))) (hf : ∀ j, U (f j)) (hA : ∀ ad, A = some ad → 0 < n → ad.block ≠ g) (hn : n ≤ 140737488355328) :
    Calls Try.prog 54 #[.pointer (some ⟨g, 0, none⟩), .slice A n c] w fun e w' => e = .returned (.tuple #[]) ∧ Onl g w w' ∧ St w' g (eats f n v) := by
  have hO := Onl.refl_ g w
  go_enter Try.func54, Try.ntmps54
  go_wp2_with fail
  go_loopw [5, 8] (fun _ i wr => ∃ k : Nat, k ≤ n ∧ i = .int .i64 k ∧ Onl g w wr ∧ St wr g (eats f k v)) (fun _ i _ => n - (intOf i).toNat)
  case atStart => exact ⟨0, by omega, rfl, hO, hS⟩
  case round =>
    obtain ⟨k, hk, rfl, hO1, hS1⟩ := hrel
    have hU1 := eats_U (f := f) hU k
    have hE : Hid (eats f (k + 1) v = eat (eats f k v) (f k)) := rfl
    clear hO hS
    by_cases hlt : k < n
    · generalize eats f k v = v1 at *
      obtain ⟨b, off, rfl, _, hc⟩ := hO1.sl h hA (by omega)
      have c0 : wr.cell? ⟨b, off + k, none⟩ = some (.int .u64 (f k)) := hc _ hlt
      have i1 : (k : Int) < n := by omega
      have hfk := hf k
      have hS2 := hS1
      obtain ⟨ca, cb, cc, cd, fa, fb, fc, fd⟩ := hS1
      clear hc h ca cb cc fa fb fc
      go_wp2_with fail
      refine (round_any g { v1 with d := xo v1.d (f k) } _ (hS2.setd _) ⟨hU1.1, hU1.2.1, hU1.2.2.1, U_xo _ _⟩).mono ?_
      rintro e w1 ⟨rfl, hO3, hS3⟩
      have hU3 := rnd_U (v := { v1 with d := xo v1.d (f k) }) ⟨hU1.1, hU1.2.1, hU1.2.2.1, U_xo _ _⟩
      go_wp2_with fail
      refine (round_any g _ _ hS3 hU3).mono ?_
      rintro e w2 ⟨rfl, hO4, hS4⟩
      have hO5 := ((hO1.setCell 3 _).trans hO3).trans hO4
      have hS5 := hS4
      obtain ⟨ca, cb, cc, cd', fa, fb, fc, fd'⟩ := hS4
      clear cb cc cd' fb fc fd' cd fd hO3 hO4 hS3 hS2
      go_wp2_with fail
      go_roundw
      case rel => exact ⟨k + 1, by omega, by go_num, hO5.setCell 0 _, by rw [hE.out]; exact hS5.seta _⟩
      case measure => simp [intOf]; omega
    · have e : k = n := by omega
      subst e
      have i1 : ¬ (k : Int) < k := by omega
      have hS2 := hid hS1
      have hO2 := hid hO1
      clear hS1 hO1 hE
      go_wp2_with fail
      go_end0
      exact ⟨rfl, hO2.out, hS2.out⟩

set_option maxRecDepth 100000 in
theorem take_int (g : Nat) (v : V4) (A : Option Addr) (n c : Nat) (f : Nat → Int) (w : World) (hS : St w g v) (hU : v.U) (h : Sl w A n (fun j => .int .i64 (f j))) (hf : ∀ j, (-9223372036854775808 ≤ f j ∧ f j ≤ 9223372036854775807)) (hA : ∀ ad, A = some ad → 0 < n → ad.block ≠ g) (hn : n ≤ 140737488355328) :
    Calls Try.prog 50 #[.pointer (some ⟨g, 0, none⟩), .slice A n c] w fun e w' => e = .returned (.tuple #[]) ∧ Onl g w w' ∧ St w' g (eats (fun j => IntKind.u64.wrap (f j)) n v) := by
  have hO := Onl.refl_ g w
  go_enter Try.func50, Try.ntmps50
  go_wp2_with fail
  go_loopw [5, 8] (fun _ i wr => ∃ k : Nat, k ≤ n ∧ i = .int .i64 k ∧ Onl g w wr ∧ St wr g (eats (fun j => IntKind.u64.wrap (f j)) k v)) (fun _ i _ => n - (intOf i).toNat)
  case atStart => exact ⟨0, by omega, rfl, hO, hS⟩
  case round =>
    obtain ⟨k, hk, rfl, hO1, hS1⟩ := hrel
    have hU1 := eats_U (f := (fun j => IntKind.u64.wrap (f j))) hU k
    have hE : Hid (eats (fun j => IntKind.u64.wrap (f j)) (k + 1) v = eat (eats (fun j => IntKind.u64.wrap (f j)) k v) (IntKind.u64.wrap (f k))) := rfl
    clear hO hS
    by_cases hlt : k < n
    · generalize eats (fun j => IntKind.u64.wrap (f j)) k v = v1 at *
      obtain ⟨b, off, rfl, _, hc⟩ := hO1.sl h hA (by omega)
      have c0 : wr.cell? ⟨b, off + k, none⟩ = some (.int .i64 (f k)) := hc _ hlt
      have i1 : (k : Int) < n := by omega
      have hfk := hf k
      have hS2 := hS1
      obtain ⟨ca, cb, cc, cd, fa, fb, fc, fd⟩ := hS1
      clear hc h ca cb cc fa fb fc
      go_wp2_with fail
      refine (round_any g { v1 with d := xo v1.d (IntKind.u64.wrap (f k)) } _ (hS2.setd _) ⟨hU1.1, hU1.2.1, hU1.2.2.1, U_xo _ _⟩).mono ?_
      rintro e w1 ⟨rfl, hO3, hS3⟩
      have hU3 := rnd_U (v := { v1 with d := xo v1.d (IntKind.u64.wrap (f k)) }) ⟨hU1.1, hU1.2.1, hU1.2.2.1, U_xo _ _⟩
      go_wp2_with fail
      refine (round_any g _ _ hS3 hU3).mono ?_
      rintro e w2 ⟨rfl, hO4, hS4⟩
      have hO5 := ((hO1.setCell 3 _).trans hO3).trans hO4
      have hS5 := hS4
      obtain ⟨ca, cb, cc, cd', fa, fb, fc, fd'⟩ := hS4
      clear cb cc cd' fb fc fd' cd fd hO3 hO4 hS3 hS2
      go_wp2_with fail
      go_roundw
      case rel => exact ⟨k + 1, by omega, by go_num, hO5.setCell 0 _, by rw [hE.out]; exact hS5.seta _⟩
      case measure => simp [intOf]; omega
    · have e : k = n := by omega
      subst e
      have i1 : ¬ (k : Int) < k := by omega
      have hS2 := hid hS1
      have hO2 := hid hO1
      clear hS1 hO1 hE
      go_wp2_with fail
      go_end0
      exact ⟨rfl, hO2.out, hS2.out⟩

end Go.Proofs.Ytejlfbiehcfbgaa
