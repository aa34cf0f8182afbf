/- Package sip's sums of bytes. -/
import Derived.Test.YtmkkglhbfgeecaaSipEnd
namespace Go.Proofs.Ytmkkglhbfgeecaa
set_option linter.unusedVariables false
open Go.RowKit Go.ChangeShapes Go.WideShapes Go.ChangeAt

theorem number_any (A : Option Addr) (n c : Nat) (f : Nat → Int) (w : World) (h : By w A n f) (hf : IsB f) (hn : n ≤ 8) :
    Calls Try.prog 10 #[.slice A n c] w fun e w' => e = .returned (.int .u64 (num f n)) ∧ w = w' := by
  go_enter Try.func10, Try.ntmps10
  go_wp2_with fail
  go_loop [3, 4, 5, 8] (fun t _ _ i => ∃ k : Nat, k ≤ n ∧ i = .int .i64 k ∧ t = .int .u64 (num f k)) (fun _ _ _ i => n - (intOf i).toNat)
  case atStart => exact ⟨0, by omega, rfl, rfl⟩
  case round =>
    obtain ⟨k, hk, rfl, rfl⟩ := hrel
    by_cases hlt : k < n
    · obtain ⟨b, off, rfl, _, hc⟩ := h (by omega)
      have c0 : w.cell? ⟨b, off + k, none⟩ = some (.int .u8 (f k)) := hc _ hlt
      have i1 : (k : Int) < n := by omega
      have b0 := hf k
      clear hc h
      have hor := hid (or_num f hf k (by omega))
      go_wp2_with fail
      go_round
      case rel => exact ⟨k + 1, by omega, by go_num, by rw [hor.out]⟩
      case measure => simp [intOf]; omega
    · have e : k = n := by omega
      subst e
      have i1 : ¬ (k : Int) < k := by omega
      go_wp2
      go_ret
      exact ⟨rfl, rfl⟩
set_option maxRecDepth 100000 in
theorem of_any (a b : Int) (A : Option Addr) (n c : Nat) (f : Nat → Int) (w : World) (h : By w A n f) (hf : IsB f) (hnc : n ≤ c) (hn : n ≤ 140737488355328) :
    Calls Try.prog 8 #[.agg #[.int .u64 a, .int .u64 b], .slice A n c] w fun e w' => e = .returned (.int .u64 (sumB a b f n)) ∧ Below w.heap.size w w' := by
  go_enter Try.func8, Try.ntmps8
  go_wp2_with fail
  refine (start_any a b _).mono ?_
  rintro e w1 ⟨rfl, hb1⟩
  go_wp2_with fail
  have hb1 := ((Below.refl w.heap.size w).alloc (Nat.le_refl _) (.cells #[.int .u64 a, .int .u64 b] 26)).trans (hb1.mono (by simp))
  have hS := St.made (w := w1) (T := 34) (v := strt a b) (g := w1.heap.size) rfl
  have hb2 : Below w.heap.size w (w1.alloc (.cells #[.int .u64 (strt a b).a, .int .u64 (strt a b).b, .int .u64 (strt a b).c, .int .u64 (strt a b).d] 34)) := hb1.alloc hb1.size _
  have hs := h.below hb2 (Nat.le_refl _)
  have hz := hb1.size
  have hA : ∀ ad, A = some ad → 0 < n → ad.block ≠ w1.heap.size := fun ad e h0 => by
    obtain ⟨b', off, e', hlt, _⟩ := h h0
    rw [e] at e'
    injection e' with e'
    subst e'
    simp only
    omega
  clear h hb1
  generalize w1.heap.size = g at *
  generalize w1.alloc _ = w2 at *
  have hO := Onl.refl_ g w2
  go_loopw [6] (fun r wr => ∃ (p L C : Nat) (A' : Option Addr), 8 * p + L = n ∧ L ≤ C ∧ r = .slice A' L C ∧ (∀ V : World, By V A n f → By V A' L (fun j => f (8 * p + j))) ∧ Onl g w2 wr ∧ St wr g (eats (fun i => num (fun j => f (8 * i + j)) 8) p (strt a b)))
    (fun r _ => match r with | .slice _ l _ => l | _ => 0)
  case atStart => exact ⟨0, n, c, A, by omega, hnc, rfl, fun V hV => by simpa using hV, hO, hS⟩
  case round =>
    obtain ⟨p, L, C, A', hpL, hLC, rfl, hcut, hO1, hS1⟩ := hrel
    have hB := hcut _ (hO1.sl hs hA)
    have hU1 := eats_U (f := fun i => num (fun j => f (8 * i + j)) 8) (strt_U a b) p
    have hE : Hid (eats (fun i => num (fun j => f (8 * i + j)) 8) (p + 1) (strt a b) = eat (eats (fun i => num (fun j => f (8 * i + j)) 8) p (strt a b)) (num (fun j => f (8 * p + j)) 8)) := rfl
    have hfp : IsB (fun j => f (8 * p + j)) := fun j => hf _
    have hpL' := hid hpL
    have hpn : p ≤ 17592186044416 := by omega
    have hLn : L ≤ 140737488355328 := by omega
    clear hO hS hpL
    by_cases hlt : 8 ≤ L
    · generalize eats (fun i => num (fun j => f (8 * i + j)) 8) p (strt a b) = v1 at *
      obtain ⟨A2, k2, S2⟩ := cut_from_b A' L C 8 hlt hLC 8 rfl
      have i1 : (8 : Int) ≤ L := by omega
      have i2 : (8 : Int) ≤ C := by omega
      have HC := hid hcut
      have HS := hid S2
      clear S2 hcut
      go_wp2_with fail
      refine (number_any A' 8 C (fun j => f (8 * p + j)) _ (hB.less hlt) hfp (by omega)).mono ?_
      rintro e w3 ⟨rfl, rfl⟩
      have hmU : U (num (fun j => f (8 * p + j)) 8) := by
        have := num_bd _ hfp 8
        unfold U
        omega
      generalize num (fun j => f (8 * p + j)) 8 = m at *
      have hgl := hS1.lt
      go_wp2_with fail
      have hw1 : Onl g w2 (wr.alloc (.cells #[.int .u64 m] 24)) := hO1.trans (Onl.of_below ((Below.refl _ _).alloc (Nat.le_refl _) _))
      refine (take_u64 g v1 _ 1 1 (fun j => [m].getD j 0) _ (hS1.below ((Below.refl wr.heap.size wr).alloc (Nat.le_refl _) _) hgl) hU1 (by exact row_at .u64 [m] rfl) (fun j => ?_) (fun ad e _ => ?_) (by omega)).mono ?_
      · rcases j with _ | j
        · exact hmU
        · exact ⟨by simp, by simp⟩
      · injection e with e
        subst e
        simp only
        omega
      rintro e w4 ⟨rfl, hO2, hS2⟩
      have hS3 : St w4 g (eat v1 m) := hS2
      have hO3 := hid (hw1.trans hO2)
      have HS3 := hid hS3
      clear hS2 hO2 hw1 hS1 hO1 hB hS3
      go_wp2_with fail
      go_roundw
      case rel => exact ⟨p + 1, L - 8, C - 8, A2, by have := hpL'.out; omega, by omega, rfl, fun V hV => (HS.out V _ (HC.out V hV)).as (fun j _ => by simp only [Value.int.injEq, true_and]; congr 1; omega), hO3.out, by rw [hE.out]; exact HS3.out⟩
      case measure => simp; omega
    · have hfin := hid (sumB_at a b f n p L hpL'.out (by omega))
      have i1 : ¬ (8 : Int) ≤ L := by omega
      generalize eats (fun i => num (fun j => f (8 * i + j)) 8) p (strt a b) = v1 at *
      clear hE hcut
      go_wp2_with fail
      refine (number_any A' L C (fun j => f (8 * p + j)) _ hB hfp (by omega)).mono ?_
      rintro e w3 ⟨rfl, rfl⟩
      go_wp2_with fail
      refine (end_any g v1 (num (fun j => f (8 * p + j)) L) (n : Int) _ hS1 hU1 (by omega) (by omega)).mono ?_
      rintro e w3 ⟨rfl, hO3⟩
      have hb4 := hb2.trans ((hO1.trans hO3).below hz hb2.size)
      go_wp2
      go_ret
      exact ⟨ret_u64 hfin.out, hb4⟩
end Go.Proofs.Ytmkkglhbfgeecaa
