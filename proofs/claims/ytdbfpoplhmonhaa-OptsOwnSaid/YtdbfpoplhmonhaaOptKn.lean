/- Stamps that were made are found; the laws' first line. -/
import Derived.Test.YtdbfpoplhmonhaaOptAs
import Derived.Test.YtdbfpoplhmonhaaOptMake
namespace Go.Proofs.Ytdbfpoplhmonhaa
set_option linter.unusedVariables false
set_option linter.unusedSimpArgs false
open Go.RowKit Go.ChangeShapes Go.WideShapes Go.ChangeAt

theorem walk_fill {g : Nat → Int} {n a : Nat} (ha : a < n) (h : g a = 1) : walk g n a = (walk g n (a + 1)).map ((1, (a : Int), 1) :: ·) := by
  have ho : oneO g n a = some (1, (a : Int), 1) := by unfold oneO; rw [h]; rfl
  exact walk_more ha ho (by simp)
theorem walk_st {g : Nat → Int} {n a : Nat} (ha : a + 10 ≤ n) (h : g a = 8) (h1 : g (a + 1) = 10) : walk g n a = (walk g n (a + 10)).map ((8, (a : Int), 10) :: ·) := by
  have ho : oneO g n a = some (8, (a : Int), 10) := by
    unfold oneO
    rw [h, h1, if_neg (by omega), if_neg (by omega), if_neg (by omega), if_neg (by omega)]
  exact walk_more (by omega) ho (by simp)
/-- A stamp that was made, at place i. -/
def MkAt (g : Nat → Int) (i : Nat) (v e : Int) : Prop := ∀ j, j < 12 → g (i + j) = mkB v e j
theorem walk_mk {g : Nat → Int} {n i : Nat} {v e : Int} (h : MkAt g i v e) (hn : i + 12 ≤ n) :
    walk g n i = (walk g n (i + 12)).map ([(1, (i : Int), 1), (1, ((i + 1 : Nat) : Int), 1), (8, ((i + 2 : Nat) : Int), 10)] ++ ·) := by
  have h0 : g i = 1 := h 0 (by omega)
  have h1 : g (i + 1) = 1 := h 1 (by omega)
  have h2 : g (i + 2) = 8 := h 2 (by omega)
  have h3 : g (i + 2 + 1) = 10 := h 3 (by omega)
  rw [walk_fill (by omega) h0, walk_fill (by omega) h1, walk_st (by omega) h2 h3, show i + 1 + 1 + 10 = i + 12 from by omega, Option.map_map, Option.map_map]
  rfl
theorem num_mk {g : Nat → Int} {i : Nat} {v e : Int} (h : MkAt g i v e) (hv : U32 v) (he : U32 e) : num g (i + 4) = v ∧ num g (i + 8) = e := by
  have h4 : g (i + 4) = v / 16777216 := h 4 (by omega)
  have h5 : g (i + 4 + 1) = v / 65536 % 256 := h 5 (by omega)
  have h6 : g (i + 4 + 2) = v / 256 % 256 := h 6 (by omega)
  have h7 : g (i + 4 + 3) = v % 256 := h 7 (by omega)
  have h8 : g (i + 8) = e / 16777216 := h 8 (by omega)
  have h9 : g (i + 8 + 1) = e / 65536 % 256 := h 9 (by omega)
  have h10 : g (i + 8 + 2) = e / 256 % 256 := h 10 (by omega)
  have h11 : g (i + 8 + 3) = e % 256 := h 11 (by omega)
  unfold num U32 at *
  rw [h4, h5, h6, h7, h8, h9, h10, h11]
  omega
/-- Where what lies ahead is no stamp, and what lies behind may be walked, the stamp is told. -/
theorem stamp_mk {g : Nat → Int} {n i : Nat} {v e : Int} {pre : List (Int × Int × Int)} (h : MkAt g i v e) (hn : i + 12 ≤ n) (hv : U32 v) (he : U32 e) (hp : ∀ o ∈ pre, isS o = false)
    (hw : walk g n 0 = (walk g n i).map (pre ++ ·)) (hr : (walk g n (i + 12)).isSome = true) : stamp g n = (((i + 4 : Nat) : Int), v, e, true) := by
  obtain ⟨r, hr⟩ := Option.isSome_iff_exists.1 hr
  rw [walk_mk h hn, hr] at hw
  simp only [Option.map_some] at hw
  unfold stamp
  rw [hw]
  have hf : fst (pre ++ ([(1, (i : Int), 1), (1, ((i + 1 : Nat) : Int), 1), (8, ((i + 2 : Nat) : Int), 10)] ++ r)) = some (8, ((i + 2 : Nat) : Int), 10) := by
    unfold fst
    rw [List.find?_append, List.find?_eq_none.2 (fun o ho => by rw [hp o ho]; simp)]
    rfl
  unfold stS
  simp only
  rw [hf]
  obtain ⟨n1, n2⟩ := num_mk h hv he
  simp only [Int.toNat_natCast]
  rw [show i + 2 + 2 = i + 4 from rfl, show i + 2 + 6 = i + 8 from rfl, n1, n2]
  congr 1
theorem stamp_mk0 {v e : Int} (hv : U32 v) (he : U32 e) : stamp (mkB v e) 12 = (4, v, e, true) := by
  have h := stamp_mk (g := mkB v e) (n := 12) (i := 0) (v := v) (e := e) (pre := []) (fun j _ => by rw [Nat.zero_add]) (by omega) hv he (fun o ho => by cases ho) (by cases walk (mkB v e) 12 0 <;> simp) (by rw [walk_end _ (by omega)]; rfl)
  exact h
theorem OwO.ce {E : TypeId} {w : World} {B m c : Nat} {A : Option Addr} {l : List (Int × Int × Int)} (h : OwO E w B (.slice A m c) l) (hm : m = l.length) (h0 : 0 < m) :
    ∃ g : Nat, A = some ⟨g, 0, none⟩ ∧ B ≤ g ∧ Ce w g ((List.range (l.length * 3)).map fun j => .int .i64 (lc l j)) := by
  subst hm
  obtain ⟨g, e, hB, hg, hc, hf⟩ := Ow.block_ h h0
  refine ⟨g, e, hB, hg, fun j v hj => ?_, hf⟩
  obtain ⟨hj1, hj2⟩ := List.getElem?_eq_some_iff.1 hj
  simp at hj1 hj2
  rw [hc j hj1, ← hj2]
theorem Ow.form12 {w : World} {B : Nat} {e : TypeId} {A : Option Addr} {n c : Nat} {f : Nat → Value} (h : Ow w B e 1 (.slice A n c) n f) : n ≤ c := by
  obtain ⟨A', c', hv, h1, _⟩ := h.form_
  injection hv with _ _ h3
  omega

set_option maxRecDepth 100000 in
set_option maxHeartbeats 4000000 in
theorem known_any (w : World) : Calls Try.prog 13 #[] w fun e w' => e = .returned (.bool true) ∧ Below w.heap.size w w' := by
  have hW := walk_any (some ⟨w.heap.size, 0, none⟩) 1 1 (fun j => ([0] : List Int).getD j 0) (w.alloc (.cells #[.int .u8 0] 5)) (row_at0 .u8 [0] rfl rfl rfl) (lit_b _ (by decide)) (by omega)
  have e1 : wl (fun j => ([0] : List Int).getD j 0) 1 = [(0, 0, 1)] := by decide
  have e2 : we (fun j => ([0] : List Int).getD j 0) 1 = 0 := by decide
  unfold Walked at hW
  rw [e1, e2] at hW
  replace hW := hid hW
  clear e1 e2
  have F1 := fun w => re_i64 (b := 2) (far_any 1 3 ⟨by omega, by omega⟩ ⟨by omega, by omega⟩ w) (by decide)
  have F2 := fun w => re_bool (b := true) (less_any 1 2 ⟨by omega, by omega⟩ ⟨by omega, by omega⟩ w) (by decide)
  have F3 := fun w => re_bool (b := false) (less_any 2 2 ⟨by omega, by omega⟩ ⟨by omega, by omega⟩ w) (by decide)
  replace F1 := hid F1
  replace F2 := hid F2
  replace F3 := hid F3
  go_enter Try.func13, Try.ntmps13
  go_wp2_with fail
  refine hW.out.mono ?_
  rintro e w1 ⟨A1, c1, rfl, ho, hb⟩
  obtain ⟨g, rfl, hg, hC⟩ := OwO.ce ho rfl (by simp)
  have B1 := hid (((Below.refl w.heap.size w).alloc (Nat.le_refl _) _).trans (hb.mono (by simp)))
  have hC' : Ce w1 g [.int .i64 0, .int .i64 0, .int .i64 1] := hC
  have C1 := hid hC'
  clear ho hb hC hC' hg
  go_wp2_with fail
  refine (make_any 5 6 w1 ⟨by omega, by omega⟩ ⟨by omega, by omega⟩).mono ?_
  rintro e w2 ⟨A2, c2, rfl, ho, hb⟩
  have C2 := hid (C1.out.below hb)
  have B2 := hid (B1.out.trans (hb.mono B1.out.size))
  have hS := stamp_any A2 12 c2 (mkB 5 6) w2 (Ow.sl1 ho) (mkB_bd ⟨by omega, by omega⟩ ⟨by omega, by omega⟩) (by omega) (Ow.form12 ho)
  rw [stamp_mk0 ⟨by omega, by omega⟩ ⟨by omega, by omega⟩] at hS
  unfold StV at hS
  replace hS := hid hS
  clear ho hb C1 B1
  go_wp2_with fail
  refine hS.out.mono ?_
  rintro e w3 ⟨rfl, hb⟩
  have C3 := C2.out.below hb
  have B3 := hid (B2.out.trans (hb.mono B2.out.size))
  have c2 := C3.2.1 2 _ rfl
  clear hb C2 B2 C3
  go_wp2_with fail
  refine (F1.out _).mono ?_
  rintro e w4 ⟨rfl, rfl⟩
  go_wp2_with fail
  refine (F2.out _).mono ?_
  rintro e w4 ⟨rfl, rfl⟩
  go_wp2_with fail
  refine (F3.out _).mono ?_
  rintro e w4 ⟨rfl, rfl⟩
  go_wp2
  go_ret
  exact ⟨rfl, B3.out⟩
end Go.Proofs.Ytdbfpoplhmonhaa
