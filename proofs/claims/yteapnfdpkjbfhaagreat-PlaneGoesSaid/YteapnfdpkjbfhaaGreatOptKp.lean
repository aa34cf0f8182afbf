/- Stamps that were made are found. -/
import Derived.Test.YteapnfdpkjbfhaaGreatGa
import Derived.Test.YteapnfdpkjbfhaaGreatGo
namespace Go.Proofs.YteapnfdpkjbfhaaGreat
set_option linter.unusedVariables false
set_option linter.unusedSimpArgs false
open Go.RowKit Go.ChangeShapes Go.WideShapes Go.ChangeAt
theorem walk_fill {g : Nat → Int} {n a : Nat} (ha : a < n) (h : g a = 1) : walk g n a = (walk g n (a + 1)).map ((1, (a : Int), 1) :: ·) := by
 have ho : oneO g n a = some (1, (a : Int), 1) := by unfold oneO; rw [h]; rfl
 exact walk_more ha ho (by simp)
theorem walk_st {g : Nat → Int} {n a : Nat} (ha : a + 10 ≤ n) (h : g a = 8) (h1 : g (a + 1) = 10) : walk g n a = (walk g n (a + 10)).map ((8, (a : Int), 10) :: ·) := by
 have ho : oneO g n a = some (8, (a : Int), 10) := by
  unfold oneO
  rw [h, h1, if_neg (by omega), if_neg (by omega), if_neg (by omega), if_neg (by omega)]
 exact walk_more (by omega) ho (by simp)
def MkAt (g : Nat → Int) (i : Nat) (v e : Int) : Prop := ∀ j, j < 12 → g (i + j) = mkBO v e j
theorem walk_mk {g : Nat → Int} {n i : Nat} {v e : Int} (h : MkAt g i v e) (hn : i + 12 ≤ n) :
 walk g n i = (walk g n (i + 12)).map ([(1, (i : Int), 1), (1, ((i + 1 : Nat) : Int), 1), (8, ((i + 2 : Nat) : Int), 10)] ++ ·) := by
 have h0 : g i = 1 := h 0 (by omega)
 have h1 : g (i + 1) = 1 := h 1 (by omega)
 have h2 : g (i + 2) = 8 := h 2 (by omega)
 have h3 : g (i + 2 + 1) = 10 := h 3 (by omega)
 rw [walk_fill (by omega) h0, walk_fill (by omega) h1, walk_st (by omega) h2 h3, show i + 1 + 1 + 10 = i + 12 from by omega, Option.map_map, Option.map_map]
 rfl
theorem num_mk {g : Nat → Int} {i : Nat} {v e : Int} (h : MkAt g i v e) (hv : U32 v) (he : U32 e) : numO g (i + 4) = v ∧ numO g (i + 8) = e := by
 have h4 : g (i + 4) = v / 16777216 := h 4 (by omega)
 have h5 : g (i + 4 + 1) = v / 65536 % 256 := h 5 (by omega)
 have h6 : g (i + 4 + 2) = v / 256 % 256 := h 6 (by omega)
 have h7 : g (i + 4 + 3) = v % 256 := h 7 (by omega)
 have h8 : g (i + 8) = e / 16777216 := h 8 (by omega)
 have h9 : g (i + 8 + 1) = e / 65536 % 256 := h 9 (by omega)
 have h10 : g (i + 8 + 2) = e / 256 % 256 := h 10 (by omega)
 have h11 : g (i + 8 + 3) = e % 256 := h 11 (by omega)
 unfold numO U32 at *
 rw [h4, h5, h6, h7, h8, h9, h10, h11]
 omega
theorem stamp_mk {g : Nat → Int} {n i : Nat} {v e : Int} {pre : List (Int × Int × Int)} (h : MkAt g i v e) (hn : i + 12 ≤ n) (hv : U32 v) (he : U32 e) (hp : ∀ o ∈ pre, isS o = false)
 (hw : walk g n 0 = (walk g n i).map (pre ++ ·)) (hr : (walk g n (i + 12)).isSome = true) : stamp g n = (((i + 4 : Nat) : Int), v, e, true) := by
 obtain ⟨r, hr⟩ := Option.isSome_iff_exists.1 hr
 rw [walk_mk h hn, hr] at hw
 simp only [Option.map_some] at hw
 unfold stamp
 rw [hw]
 have hf : fst (pre ++ ([(1, (i : Int), 1), (1, ((i + 1 : Nat) : Int), 1), (8, ((i + 2 : Nat) : Int), 10)] ++ r)) = some (8, ((i + 2 : Nat) : Int), 10) := by
  unfold fst
  rw [List.find?_append, List.find?_eq_none.2 (fun o ho => by rw [hp o ho]; simp)]
  rfl
 unfold stS
 simp only
 rw [hf]
 obtain ⟨n1, n2⟩ := num_mk h hv he
 simp only [Int.toNat_natCast]
 rw [show i + 2 + 2 = i + 4 from rfl, show i + 2 + 6 = i + 8 from rfl, n1, n2]
 congr 1
theorem stamp_mk0 {v e : Int} (hv : U32 v) (he : U32 e) : stamp (mkBO v e) 12 = (4, v, e, true) := by
 have h := stamp_mk (g := mkBO v e) (n := 12) (i := 0) (v := v) (e := e) (pre := []) (fun j _ => by rw [Nat.zero_add]) (by omega) hv he (fun o ho => by cases ho) (by cases walk (mkBO v e) 12 0 <;> simp) (by rw [walk_end _ (by omega)]; rfl)
 exact h
theorem one_ext {g g' : Nat → Int} {n a : Nat} (h : ∀ j, j < n → g j = g' j) (ha : a < n) : oneO g n a = oneO g' n a := by
 unfold oneO
 rw [h a ha]
 by_cases h1 : n ≤ a + 1
 ·rw [if_pos h1, if_pos h1]
 ·rw [h (a + 1) (by omega)]
theorem wk_ext {g g' : Nat → Int} {n : Nat} (h : ∀ j, j < n → g j = g' j) : ∀ f a, wk g n f a = wk g' n f a := by
 intro f
 induction f with
 | zero => intro a; rfl
 | succ f ih =>
   intro a
   simp only [wk]
   by_cases hn : n ≤ a
   ·rw [if_pos hn, if_pos hn]
   ·rw [if_neg hn, if_neg hn, one_ext h (by omega)]
    cases oneO g' n a with
    | none => rfl
    | some o => simp only [ih]
theorem stamp_ext {g g' : Nat → Int} {n : Nat} (h : ∀ j, j < n → g j = g' j) : stamp g n = stamp g' n := by
 unfold stamp
 have hw : walk g n 0 = walk g' n 0 := wk_ext h _ _
 rw [hw]
 cases hc : walk g' n 0 with
 | none => rfl
 | some l =>
   unfold stS
   dsimp only
   cases hf : fst l with
   | none => rfl
   | some o =>
     have := fst_is hc hf
     dsimp only
     unfold numO
     rw [h _ (by omega), h _ (by omega), h _ (by omega), h _ (by omega), h (o.2.1.toNat + 6) (by omega), h (o.2.1.toNat + 6 + 1) (by omega), h (o.2.1.toNat + 6 + 2) (by omega), h (o.2.1.toNat + 6 + 3) (by omega)]
end Go.Proofs.YteapnfdpkjbfhaaGreat
