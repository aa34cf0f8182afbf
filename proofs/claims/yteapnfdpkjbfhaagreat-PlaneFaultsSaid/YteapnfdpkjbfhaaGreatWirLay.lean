/- What the reference's Build lays. -/
import Derived.Test.YteapnfdpkjbfhaaGreatGa
import Derived.Test.YteapnfdpkjbfhaaGreatGwd
import Derived.BigQuiet
import Derived.Deep.RegionHeld3
import Derived.Deep.Cut
namespace Go.Proofs.YteapnfdpkjbfhaaGreat
set_option linter.unusedVariables false
set_option linter.unusedSimpArgs false
open Go.RowKit Go.ChangeShapes Go.WideShapes Go.ChangeAt
theorem wp_make_c {w : World} {ops : Array Oper} {rest : List Oper} {o : Oper} {a : Act} {Q : Exit → Act → World → Prop} (hgd : o.guard = none) (l c : Operand) (ho : o.op = .makeSlice 37 l c) (base m n : Nat) (M N : Int) (hl : a.eval l = .int .i64 M) (hc : a.eval c = .int .i64 N) (hM : M = (m : Int)) (hN : N = (n : Int)) (hmn : m ≤ n) (hsz : n ≤ 1000000) (hbase : base ≤ w.heap.size)
 (h : ∀ w', OB w' base (.slice (some ⟨w.heap.size, 0, none⟩) m n) m (fun _ => 0) → Below base w w' → wpList Tryz.prog ops Q rest (a.put o.dst (.slice (some ⟨w.heap.size, 0, none⟩) m n)) w') : wpList Tryz.prog ops Q (o :: rest) a w := by
 subst hM
 subst hN
 obtain ⟨i0, hi, hz0, hz1, hz2⟩ := info_parts info_u8
 have hr := run_make (P := Tryz.prog) w 37 5 i0 (.int .u8 0) Tryz.underlying37 hi hz0 .i64 .i64 (m : Int) (n : Int) (by omega) (by omega) (by rw [hz2]; omega) (by omega)
 refine wpList_plain hgd fun K hK' => ?_
 unfold Oper.wp
 simp [execOp, ho, hl, hc, hr, Result.andThen]
 refine hK' _ _ (h _ ⟨by simp, .inr ⟨w.heap.size, n, _, rfl, hbase, heap_alloc_new w _, hmn, by simp only [maxLen]; omega, ?_, ?_⟩⟩ ((Below.refl base w).alloc hbase _))
 ·rw [size_madeCells, hz1]
 ·rw [hz1, show (Value.int .u8 0).cells = #[Value.int .u8 0] from rfl, toList_madeCells_one]
  simp [List.map_const', hmn]
/-- The head's sixteen bytes as the reference lays them. -/
def hed16 (p : Pk) : Nat → Int := putF (putF (putF (putF (set1 (set1 (set1 (fun _ => 0) 0 p.kind) 1 p.life) 12 p.piece) 2 2 (lenP p : Int)) 4 4 p.src) 8 4 p.dst) 14 2 (65535 - norm (tot (rawF p) 16))
theorem raw16 {p : Pk} {j : Nat} (h : j < 16) : putF (putF (putF (set1 (set1 (set1 (fun _ => 0) 0 p.kind) 1 p.life) 12 p.piece) 2 2 (lenP p : Int)) 4 4 p.src) 8 4 p.dst j = rawF p j := by
 unfold rawF putF set1
 dsimp only
 (repeat' split)
 all_goals (first | rfl | (exfalso; omega) | (congr 1; omega))
theorem putF_at {g g' : Nat → Int} {off m j : Nat} {v : Int} (h : g j = g' j) : putF g off m v j = putF g' off m v j := by unfold putF; split; rfl; exact h
theorem hed16_at {p : Pk} {j : Nat} (h : j < 16) : hed16 p j = hedF p j := putF_at (raw16 h)
theorem hed_body {p : Pk} (j : Nat) : hedF p (16 + j) = bodyF p j := by
 unfold hedF
 rw [putF_out (by omega), raw_body]
/-- The sum that comes at last. -/
def lastS (p : Pk) : Int := 65535 - norm (tot (sumF (hedF p) (lenP p)) (sumN (hedF p) (lenP p)))
theorem lastS_bd (p : Pk) : 0 ≤ lastS p ∧ lastS p ≤ 65535 := by unfold lastS; have := norm_bd (tot (sumF (hedF p) (lenP p)) (sumN (hedF p) (lenP p))); omega
theorem built_3 {p : Pk} (h : p.kind ≠ 2) : builtF p = putF (hedF p) (sumA p.kind) 2 (lastS p) := by
 have hs := (sumA_even p.kind).choose_spec
 unfold builtF
 rw [if_neg (fun e => h e.1), fillF_3]
 ·rfl
 ·rw [putF_out (by omega)]
  unfold hedF
  rw [putF_out (by omega), raw_0]
  exact h
theorem built_2 {p : Pk} (h : p.kind = 2) : ∀ j, builtF p j = putF (hedF p) 22 2 (if p.bare = true then 0 else if lastS p = 0 then 65535 else lastS p) j := by
 intro j
 have hs : sumA p.kind = 22 := by unfold sumA; rw [if_neg (by omega)]
 have hz : ∀ j, 22 ≤ j → j < 24 → hedF p j = 0 := fun j h1 h2 => by
  obtain ⟨q, rfl⟩ : ∃ q, j = 16 + q := ⟨j - 16, by omega⟩
  rw [hed_body]
  unfold bodyF
  rw [if_neg (by omega), if_neg (by omega), if_neg (by omega), if_pos h, if_neg (by omega), if_pos (by omega)]
 unfold builtF
 by_cases hb : p.bare = true
 ·rw [if_pos ⟨h, hb⟩, if_pos hb]
  by_cases hj : 22 ≤ j ∧ j < 24
  ·rw [hz j hj.1 hj.2, putF_in hj.1 (by omega)]
   unfold by8
   simp
  ·rw [putF_out (by omega)]
 ·rw [if_neg (fun e => hb e.2), if_neg hb, hs]
  show fillF (putF (hedF p) 22 2 (lastS p)) j = _
  have lb := lastS_bd p
  have h0 : putF (hedF p) 22 2 (lastS p) 0 = 2 := by rw [putF_out (by omega)]; unfold hedF; rw [putF_out (by omega), raw_0, h]
  unfold fillF bareF
  rw [num_put2 lb.1 lb.2, h0]
  by_cases hl : lastS p = 0
  ·rw [hl, if_pos (by decide), if_pos rfl]
   unfold putF
   split <;> rfl
  ·rw [if_neg (by simpa using hl), if_neg hl]
theorem f16_B {p : Pk} (hk : isK p.kind = true) (hl : 0 ≤ p.life ∧ p.life ≤ 255) (hp : 0 ≤ p.piece ∧ p.piece ≤ 255) : IsB (putF (putF (putF (set1 (set1 (set1 (fun _ => 0) 0 p.kind) 1 p.life) 12 p.piece) 2 2 (lenP p : Int)) 4 4 p.src) 8 4 p.dst) := by
 have : 0 ≤ p.kind ∧ p.kind ≤ 255 := by unfold isK at hk; simp at hk; omega
 exact putF_B (putF_B (putF_B (set1_B (set1_B (set1_B (fun _ => ⟨by decide, by decide⟩) 0 p.kind (by omega) (by omega)) 1 p.life hl.1 hl.2) 12 p.piece hp.1 hp.2) _ _ _) _ _ _) _ _ _
theorem Ce.below_' {w w' : World} {B b : Nat} {l : List Value} (h : Ce w b l) (hb : Below B w w') (hB : b < B) : Ce w' b l := Ce.below_ h hb hB
theorem buildE_rng {p : Pk} (hk : isK p.kind = true) (h : rangeB p = false) : buildE p = 14 := by unfold buildE; rw [if_neg (by rw [hk]; decide), if_pos h]
theorem buildE_len {p : Pk} (hk : isK p.kind = true) (h : rangeB p = true) (h5 : ¬ (p.kind = 1 ∧ 40 < p.no)) (h3 : p.kind = 3 ∧ p.nd < 24 ∨ 1500 < lenP p) : buildE p = 3 := by unfold buildE; rw [if_neg (by rw [hk]; decide), if_neg (by rw [h]; decide), if_neg h5, if_pos h3]
theorem buildE_ok {p : Pk} (hk : isK p.kind = true) (h : rangeB p = true) (h5 : ¬ (p.kind = 1 ∧ 40 < p.no)) (h3 : ¬ (p.kind = 3 ∧ p.nd < 24 ∨ 1500 < lenP p)) : buildE p = 0 := by unfold buildE; rw [if_neg (by rw [hk]; decide), if_neg (by rw [h]; decide), if_neg h5, if_neg h3]
theorem lay3 {p : Pk} (h : p.kind = 3) (j : Nat) (hj : j < 2000) : (fun j => if j < 16 + 4 then (if j < 16 then hed16 p j else if j - 16 = 0 then p.code else 0) else p.gd (j - (16 + 4))) j = hedF p j := by
 dsimp only
 by_cases h1 : j < 16
 ·rw [if_pos (by omega), if_pos h1, hed16_at h1]
 ·obtain ⟨q, rfl⟩ : ∃ q, j = 16 + q := ⟨j - 16, by omega⟩
  rw [hed_body]
  unfold bodyF
  rw [if_pos h, if_neg h1, show 16 + q - 16 = q from by omega, show 16 + q - (16 + 4) = q - 4 from by omega]
  (repeat' split)
  all_goals (first | rfl | (exfalso; omega))
theorem lay2 {p : Pk} (h : p.kind = 2) (j : Nat) (hj : j < 2000) : (fun j => if j < 16 + 8 then putF (putF (putF (fun j => if j < 16 then hed16 p j else 0) 20 2 p.label) 16 2 p.fp) 18 2 p.tp j else p.gd (j - (16 + 8))) j = hedF p j := by
 dsimp only
 by_cases h1 : j < 16
 ·rw [if_pos (by omega), putF_out (by omega), putF_out (by omega), putF_out (by omega), if_pos h1, hed16_at h1]
 ·obtain ⟨q, rfl⟩ : ∃ q, j = 16 + q := ⟨j - 16, by omega⟩
  rw [hed_body]
  have h3 : ¬ p.kind = 3 := by omega
  unfold bodyF putF
  simp only [if_neg h3, if_pos h]
  (repeat' split)
  all_goals (first | rfl | (exfalso; omega) | (congr 1; omega))
end Go.Proofs.YteapnfdpkjbfhaaGreat
