/- Stamps are made. -/
import Derived.Test.YteapnfdpkjbfhaaGreatGa
import Derived.Test.YteapnfdpkjbfhaaGreatGo
namespace Go.Proofs.YteapnfdpkjbfhaaGreat
set_option linter.unusedVariables false
set_option linter.unusedSimpArgs false
open Go.RowKit Go.ChangeShapes Go.WideShapes Go.ChangeAt
theorem row_at0 (k : IntKind) (l : List Int) {w : World} {t : TypeId} {b : Nat} {cs : Array Value} {n : Nat} (hcs : cs = (l.map (Value.int k)).toArray) (hn : n = l.length) (hb : w.heap.size = b) : Sl (w.alloc (.cells cs t)) (some ⟨b, 0, none⟩) n (fun j => .int k (l.getD j 0)) := by
 subst hcs; subst hn; exact row_at k l hb
theorem rbytes_any (z : Int) (w : World) (hz : U32 z) (k : Nat) (hk : w.heap.size = k) :
 Calls Tryz.prog 39 #[.int .u32 z] w fun e w' => e = .returned (.slice (some ⟨k, 0, none⟩) 4 4) ∧ Sl w' (some ⟨k, 0, none⟩) 4 (fun j => .int .u8 (b4 z j)) ∧ Below w.heap.size w w' := by
 subst hk
 unfold U32 at hz
 obtain ⟨hz1, hz2⟩ := hz
 go_enter Tryz.func39, Tryz.ntmps39
 go_wp2
 go_ret
 exact ⟨rfl, row_at0 .u8 (b4L z) rfl rfl rfl, (Below.refl _ _).alloc (Nat.le_refl _) _⟩
/-- A stamp of the call's own. -/
def Stamped (v e : Int) (w : World) (r : Ending) (w' : World) : Prop :=
 ∃ (A' : Option Addr) (c' : Nat), r = .returned (.slice A' 12 c') ∧ Ow w' w.heap.size 5 1 (.slice A' 12 c') 12 (fun j => .int .u8 (mkBO v e j)) ∧ Below w.heap.size w w'
theorem mk_eq (v e : Int) (j : Nat) (hj : j < 12) : (if j < 4 + 4 then (if j < 4 then ([1, 1, 8, 10] : List Int).getD j 0 else b4 v (j - 4)) else b4 e (j - (4 + 4))) = mkBO v e j := by
 rcases (by omega : j = 0 ∨ j = 1 ∨ j = 2 ∨ j = 3 ∨ j = 4 ∨ j = 5 ∨ j = 6 ∨ j = 7 ∨ j = 8 ∨ j = 9 ∨ j = 10 ∨ j = 11) with rfl | rfl | rfl | rfl | rfl | rfl | rfl | rfl | rfl | rfl | rfl | rfl <;> rfl
theorem Ow.lit0 {w : World} {B g : Nat} {e : TypeId} {k : IntKind} (l : List Int) {cs : Array Value} {n : Nat} (hcs : cs = (l.map (Value.int k)).toArray) (hn : n = l.length) (hg : w.heap.size = g) (hB : B ≤ g) (hm : l.length ≤ maxLen) :
 Ow (w.alloc (.cells cs e)) B e 1 (.slice (some ⟨g, 0, none⟩) n n) n (fun j => .int k (l.getD j 0)) := by
 subst hcs; subst hn; exact Ow.lit l hg hB hm
theorem rmake_anyO (v e : Int) (w : World) (hv : U32 v) (he : U32 e) : Calls Tryz.prog 13 #[.int .u32 v, .int .u32 e] w (Stamped v e w) := by
 have h0 := hid (Ow.lit0 (w := w) (B := w.heap.size) (g := w.heap.size) (e := 5) (k := .u8) [1, 1, 8, 10] (cs := #[.int .u8 1, .int .u8 1, .int .u8 8, .int .u8 10]) (n := 4) rfl rfl rfl (Nat.le_refl _) (by decide))
 go_enter Tryz.func13, Tryz.ntmps13
 go_wp2_with fail
 refine (rbytes_any v _ hv (w.heap.size + 1) (by simp)).mono ?_
 rintro r w1 ⟨rfl, s1, hb1⟩
 have B1 := hid (((Below.refl w.heap.size w).alloc (Nat.le_refl _) _).trans (hb1.mono (by simp)))
 have H1 := hid (Ow.keep h0.out hb1 (Nat.le_refl _))
 have S1 := hid s1
 clear h0 hb1 s1
 go_wp2_with (at_builtin; refine wp_app_b rfl (.tmp 5) (.tmp 7) rfl w.heap.size _ 4 (fun j => ([1, 1, 8, 10] : List Int).getD j 0) rfl H1.out _ 4 4 (b4 v) rfl S1.out (by omega) B1.out.size ?_; intro A' c' w3 h1 h2 h3 h4 h5 h6; have H3 := hid h1; have B3 := hid (B1.out.trans h4); clear h1 h2 h3 h4 h5 h6 H1 S1 B1)
 refine (rbytes_any e _ he _ rfl).mono ?_
 rintro r w4 ⟨rfl, s4, hb4⟩
 have B4 := hid (B3.out.trans (hb4.mono B3.out.size))
 have H4 := hid (Ow.keep H3.out hb4 (Nat.le_refl _))
 have S4 := hid s4
 clear hb4 s4 H3 B3
 go_wp2_with (at_builtin; refine wp_app_b rfl (.tmp 8) (.tmp 10) rfl w.heap.size _ 8 _ rfl H4.out _ 4 4 (b4 e) rfl S4.out (by omega) B4.out.size ?_; intro A2 c2 w5 h1 h2 h3 h4 h5 h6; have H5 := hid h1; have B5 := hid (B4.out.trans h4); clear h1 h2 h3 h4 h5 h6 H4 S4 B4)
 go_ret
 exact ⟨A2, c2, rfl, H5.out.as_ fun j hj => congrArg _ (mk_eq v e j hj), B5.out⟩
end Go.Proofs.YteapnfdpkjbfhaaGreat
