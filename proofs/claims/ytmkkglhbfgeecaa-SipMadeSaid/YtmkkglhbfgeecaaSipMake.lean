/- Keys out of sixteen bytes, of both packages. -/
import Derived.Test.YtmkkglhbfgeecaaSipWords
import Derived.Test.YtmkkglhbfgeecaaSipOf
namespace Go.Proofs.Ytmkkglhbfgeecaa
set_option linter.unusedVariables false
open Go.RowKit Go.ChangeShapes Go.WideShapes Go.ChangeAt

def keyV (a b : Int) : Value := .agg #[.int .u64 a, .int .u64 b]
theorem make_not (A : Option Addr) (n c : Nat) (w : World) (hn : n ≠ 16) (hn' : n ≤ 140737488355328) :
    Calls Try.prog 6 #[.slice A n c] w fun e w' => e = .returned (.tuple #[keyV 0 0, .bool false]) ∧ Below w.heap.size w w' := by
  have h1 : ((n : Int) != 16) = true := by simp; omega
  go_enter Try.func6, Try.ntmps6
  go_wp2
  refine bodyPost_ret (v := .tuple #[keyV 0 0, .bool false]) (by simp [results, Try.results6, go_sem]; rfl) rfl ⟨rfl, ?_⟩
  repeat' (first | with_reducible exact Below.refl _ _ | with_reducible refine Below.alloc ?_ ?_ _ | with_reducible refine Below.setCell ?_ ?_ _ | (simp; done) | (simp; omega))

theorem make_is (A : Option Addr) (c : Nat) (f : Nat → Int) (w : World) (h : By w A 16 f) (hf : IsB f) (hc : 16 ≤ c) :
    Calls Try.prog 6 #[.slice A 16 c] w fun e w' => e = .returned (.tuple #[keyV (num f 8) (num (fun j => f (8 + j)) 8), .bool true]) ∧ Below w.heap.size w w' := by
  obtain ⟨A2, k2, S2⟩ := cut_from_b A 16 c 8 (by omega) hc 8 rfl
  have hs2 := S2 w f h
  have hs1 := h.less (show 8 ≤ 16 by omega)
  have hf2 : IsB (fun j => f (8 + j)) := fun j => hf _
  have i1 : (8 : Int) ≤ c := by omega
  clear S2
  go_enter Try.func6, Try.ntmps6
  go_wp2_with fail
  go_region_with (first
    | (go_at_call 10
       with_reducible refine (number_any A 8 c f _ ?_ hf (Nat.le_refl 8)).mono ?_
       · first | exact hs1.alloc _ | exact (hs1.alloc _).drew | exact (hs1.alloc _).drew.drew
       rintro e w' ⟨rfl, rfl⟩)
    | (go_at_call 10
       with_reducible refine (number_any A2 8 (c - 8) (fun j => f (8 + j)) _ ?_ hf2 (Nat.le_refl 8)).mono ?_
       · first | exact hs2.alloc _ | exact (hs2.alloc _).drew | exact (hs2.alloc _).drew.drew
       rintro e w' ⟨rfl, rfl⟩))
  all_goals
    go_wp2_with fail
    refine bodyPost_ret (v := .tuple #[keyV (num f 8) (num (fun j => f (8 + j)) 8), .bool true]) (by simp [results, Try.results6, go_sem]; rfl) rfl ⟨rfl, ?_⟩
    repeat' (first | with_reducible exact Below.refl _ _ | with_reducible refine Below.drew ?_ | with_reducible refine Below.alloc ?_ ?_ _ | with_reducible refine Below.setCell ?_ ?_ _ | (simp; done) | (simp; omega))

theorem rmake_not (A : Option Addr) (n c : Nat) (w : World) (hn : n ≠ 16) (hn' : n ≤ 140737488355328) :
    Calls Try.prog 7 #[.slice A n c] w fun e w' => e = .returned (.tuple #[keyV 0 0, .bool false]) ∧ Below w.heap.size w w' := by
  have h1 : ((n : Int) != 16) = true := by simp; omega
  go_enter Try.func7, Try.ntmps7
  go_wp2
  refine bodyPost_ret (v := .tuple #[keyV 0 0, .bool false]) (by simp [results, Try.results7, go_sem]; rfl) rfl ⟨rfl, ?_⟩
  repeat' (first | with_reducible exact Below.refl _ _ | with_reducible refine Below.alloc ?_ ?_ _ | with_reducible refine Below.setCell ?_ ?_ _ | (simp; done) | (simp; omega))

theorem rmake_is (A : Option Addr) (c : Nat) (f : Nat → Int) (w : World) (h : By w A 16 f) (hf : IsB f) (hc : 16 ≤ c) :
    Calls Try.prog 7 #[.slice A 16 c] w fun e w' => e = .returned (.tuple #[keyV (num f 8) (num (fun j => f (8 + j)) 8), .bool true]) ∧ Below w.heap.size w w' := by
  obtain ⟨A2, k2, S2⟩ := cut_from_b A 16 c 8 (by omega) hc 8 rfl
  have hs2 := S2 w f h
  have hs1 := h.less (show 8 ≤ 16 by omega)
  have hf2 : IsB (fun j => f (8 + j)) := fun j => hf _
  have i1 : (8 : Int) ≤ c := by omega
  clear S2
  go_enter Try.func7, Try.ntmps7
  go_wp2_with fail
  go_region_with (first
    | (go_at_call 11
       with_reducible refine (low_any A 8 c f _ ?_ hf (Nat.le_refl 8)).mono ?_
       · first | exact hs1.alloc _ | exact (hs1.alloc _).drew | exact (hs1.alloc _).drew.drew
       rintro e w' ⟨rfl, rfl⟩)
    | (go_at_call 11
       with_reducible refine (low_any A2 8 (c - 8) (fun j => f (8 + j)) _ ?_ hf2 (Nat.le_refl 8)).mono ?_
       · first | exact hs2.alloc _ | exact (hs2.alloc _).drew | exact (hs2.alloc _).drew.drew
       rintro e w' ⟨rfl, rfl⟩))
  all_goals
    go_wp2_with fail
    refine bodyPost_ret (v := .tuple #[keyV (num f 8) (num (fun j => f (8 + j)) 8), .bool true]) (by simp [results, Try.results7, go_sem]; rfl) rfl ⟨rfl, ?_⟩
    repeat' (first | with_reducible exact Below.refl _ _ | with_reducible refine Below.drew ?_ | with_reducible refine Below.alloc ?_ ?_ _ | with_reducible refine Below.setCell ?_ ?_ _ | (simp; done) | (simp; omega))

end Go.Proofs.Ytmkkglhbfgeecaa
