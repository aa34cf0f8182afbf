/- Package sip's sums of numbers. -/
import Derived.Test.YtejlfbiehcfbgaaSipTake
import Derived.Test.YtejlfbiehcfbgaaSipNum
import Derived.Test.YtejlfbiehcfbgaaBytes
namespace Go.Proofs.Ytejlfbiehcfbgaa
set_option linter.unusedVariables false
open Go.RowKit Go.ChangeShapes Go.WideShapes Go.ChangeAt

theorem ret_u64 {a b : Int} (h : a = b) : Ending.returned (.int .u64 a) = .returned (.int .u64 b) := by rw [h]

theorem start_any (a b : Int) (w : World) : Calls Try.prog 49 #[.agg #[.int .u64 a, .int .u64 b]] w fun e w' => e = .returned (.agg #[.int .u64 (strt a b).a, .int .u64 (strt a b).b, .int .u64 (strt a b).c, .int .u64 (strt a b).d]) ∧ Below w.heap.size w w' := by
  go_enter Try.func49, Try.ntmps49
  go_wp2_with fail
  refine bodyPost_ret (v := .agg #[.int .u64 (strt a b).a, .int .u64 (strt a b).b, .int .u64 (strt a b).c, .int .u64 (strt a b).d]) (by simp [results, Try.results49, go_sem]; exact ⟨rfl, rfl, rfl, rfl⟩) rfl ⟨rfl, ?_⟩
  repeat' (first | with_reducible exact Below.refl _ _ | with_reducible refine Below.alloc ?_ ?_ _ | with_reducible refine Below.setCell ?_ ?_ _ | (simp; done) | (simp; omega))

def rndk : Nat → V4 → V4
  | 0, v => v
  | k + 1, v => rnd (rndk k v)
theorem rndk_U {v : V4} (h : v.U) : ∀ k, (rndk k v).U
  | 0 => h
  | k + 1 => rnd_U (rndk_U h k)

set_option maxRecDepth 100000 in
theorem end_any (g : Nat) (v : V4) (l : Int) (n : Int) (w : World) (hS : St w g v) (hU : v.U) (hn : 0 ≤ n) (hn' : n ≤ 1125899906842624) :
    Calls Try.prog 51 #[.pointer (some ⟨g, 0, none⟩), .int .u64 l, .int .i64 n] w fun e w' => e = .returned (.int .u64 (fin4 (eat v (bits .or .u64 l (IntKind.u64.wrap (n * 72057594037927936)))))) ∧ Onl g w w' := by
  have hg := hS.lt
  obtain ⟨m, hm⟩ : ∃ m, m = bits .or .u64 l (IntKind.u64.wrap (n * 72057594037927936)) := ⟨_, rfl⟩
  have hmU : U m := by rw [hm]; exact U_bits _ _ _
  go_enter Try.func51, Try.ntmps51
  go_wp2_with fail
  rw [← hm]
  have HM := hid hm
  clear hm
  have hw1 : Onl g w (w.alloc (.cells #[.int .u64 m] 27)) := Onl.of_below ((Below.refl _ _).alloc (Nat.le_refl _) _)
  refine (take_u64 g v _ 1 1 (fun j => [m].getD j 0) _ (hS.below ((Below.refl w.heap.size w).alloc (Nat.le_refl _) _) hg) hU (by exact row_at .u64 [m] rfl) (fun j => ?_) (fun ad e _ => ?_) (by omega)).mono ?_
  · rcases j with _ | j
    · exact hmU
    · exact ⟨by simp, by simp⟩
  · injection e with e
    subst e
    simp only
    omega
  rintro e w1 ⟨rfl, hO1, hS1⟩
  have hS2 : St w1 g (eat v m) := hS1
  have hU2 := eat_U hU m
  have hO2 := hw1.trans hO1
  clear hO1 hw1 hS hS1
  obtain ⟨ca, cb, cc, cd, fa, fb, fc, fd⟩ := hS2
  have hS2 : St w1 g (eat v m) := ⟨ca, cb, cc, cd, fa, fb, fc, fd⟩
  clear ca cb cd fa fb fd
  go_wp2_with fail
  go_loopw [22] (fun i wr => ∃ k : Nat, k ≤ 4 ∧ i = .int .i64 k ∧ Onl g w wr ∧ St wr g (rndk k { eat v m with c := xo (eat v m).c 255 })) (fun i _ => 4 - (intOf i).toNat)
  case atStart => exact ⟨0, by omega, rfl, hO2.setCell 2 _, hS2.setc _⟩
  case round =>
    obtain ⟨k, hk, rfl, hO3, hS3⟩ := hrel
    have hU3 : (rndk k { eat v m with c := xo (eat v m).c 255 }).U := rndk_U (v := { eat v m with c := xo (eat v m).c 255 }) ⟨hU2.1, hU2.2.1, U_xo _ _, hU2.2.2.2⟩ k
    clear hO2 hS2 cc fc
    by_cases hlt : k < 4
    · have i1 : (k : Int) < 4 := by omega
      go_wp2_with fail
      refine (round_any g _ _ hS3 hU3).mono ?_
      rintro e w3 ⟨rfl, hO4, hS4⟩
      go_wp2_with fail
      go_roundw
      case rel => exact ⟨k + 1, by omega, by go_num, hO3.trans hO4, hS4⟩
      case measure => simp [intOf]; omega
    · have e : k = 4 := by omega
      subst e
      have hS5 : St wr g (last4 (eat v m)) := hS3
      clear hS3 hU3
      obtain ⟨ca, cb, cc, cd, fa, fb, fc, fd⟩ := hS5
      clear fa fb fc fd
      have i1 : ¬ ((4 : Nat) : Int) < 4 := by omega
      go_wp2_with fail
      go_quiet (fail)
      go_wp2
      go_ret
      exact ⟨ret_u64 (show xo (xo (xo (last4 (eat v m)).a (last4 (eat v m)).b) (last4 (eat v m)).c) (last4 (eat v m)).d = _ by rw [← HM.out]; rfl), hO3.drewN _⟩

/-- The sum of n bytes, by the key a, b. -/
def sumB (a b : Int) (f : Nat → Int) (n : Nat) : Int :=
  fin4 (eat (eats (fun i => num (fun j => f (8 * i + j)) 8) (n / 8) (strt a b)) (bits .or .u64 (num (fun j => f (8 * (n / 8) + j)) (n % 8)) (IntKind.u64.wrap ((n : Int) * 72057594037927936))))
/-- The sum of n numbers. -/
def sumW (a b : Int) (f : Nat → Int) (n : Nat) : Int :=
  fin4 (eat (eats (fun j => IntKind.u64.wrap (f j)) n (strt a b)) (bits .or .u64 0 (IntKind.u64.wrap (8 * (n : Int) * 72057594037927936))))

theorem St.made {w : World} {T : TypeId} {v : V4} {g : Nat} (hg : w.heap.size = g) : St (w.alloc (.cells #[.int .u64 v.a, .int .u64 v.b, .int .u64 v.c, .int .u64 v.d] T)) g v := by
  subst hg
  have h := heap_alloc_new w (.cells #[.int .u64 v.a, .int .u64 v.b, .int .u64 v.c, .int .u64 v.d] T)
  exact ⟨by rw [cell_of_row _ _ _ _ _ _ h]; rfl, by rw [cell_of_row _ _ _ _ _ _ h]; rfl, by rw [cell_of_row _ _ _ _ _ _ h]; rfl, by rw [cell_of_row _ _ _ _ _ _ h]; rfl,
    frozen_of_row _ _ _ _ _ h, frozen_of_row _ _ _ _ _ h, frozen_of_row _ _ _ _ _ h, frozen_of_row _ _ _ _ _ h⟩

theorem words_any (a b : Int) (A : Option Addr) (n c : Nat) (f : Nat → Int) (w : World) (h : Is w A n f) (hf : IsI f) (hn : n ≤ 140737488355328) :
    Calls Try.prog 44 #[.agg #[.int .u64 a, .int .u64 b], .slice A n c] w fun e w' => e = .returned (.int .u64 (sumW a b f n)) ∧ Below w.heap.size w w' := by
  go_enter Try.func44, Try.ntmps44
  go_wp2_with fail
  refine (start_any a b _).mono ?_
  rintro e w1 ⟨rfl, hb1⟩
  go_wp2_with fail
  have hb1 := ((Below.refl w.heap.size w).alloc (Nat.le_refl _) (.cells #[.int .u64 a, .int .u64 b] 29)).trans (hb1.mono (by simp))
  have hS := St.made (w := w1) (T := 89) (v := strt a b) (g := w1.heap.size) rfl
  have hb2 : Below w.heap.size w (w1.alloc (.cells #[.int .u64 (strt a b).a, .int .u64 (strt a b).b, .int .u64 (strt a b).c, .int .u64 (strt a b).d] 89)) := hb1.alloc hb1.size _
  have hs := h.below hb2 (Nat.le_refl _)
  have hz := hb1.size
  refine (take_int w1.heap.size (strt a b) A n c f _ hS (strt_U a b) hs hf (fun ad e h0 => ?_) hn).mono ?_
  · obtain ⟨b', off, e', hlt, _⟩ := h h0
    rw [e] at e'
    injection e' with e'
    subst e'
    simp only
    omega
  rintro e w2 ⟨rfl, hO2, hS2⟩
  have hU2 := eats_U (f := fun j => IntKind.u64.wrap (f j)) (strt_U a b) n
  have hb3 := hb2.trans (hO2.below hz (by simp; omega))
  clear hS hs h
  go_wp2_with fail
  refine (end_any w1.heap.size _ 0 (8 * (n : Int)) _ hS2 hU2 (by omega) (by omega)).mono ?_
  rintro e w3 ⟨rfl, hO3⟩
  have hb4 := hb3.trans (hO3.below hz hb3.size)
  go_wp2
  go_ret
  exact ⟨rfl, hb4⟩

theorem sumB_at (a b : Int) (f : Nat → Int) (n p L : Nat) (h : 8 * p + L = n) (hL : L < 8) :
    fin4 (eat (eats (fun i => num (fun j => f (8 * i + j)) 8) p (strt a b)) (bits .or .u64 (num (fun j => f (8 * p + j)) L) (IntKind.u64.wrap ((n : Int) * 72057594037927936)))) = sumB a b f n := by
  have h1 : n / 8 = p := by omega
  have h2 : n % 8 = L := by omega
  unfold sumB
  rw [h1, h2]

end Go.Proofs.Ytejlfbiehcfbgaa
