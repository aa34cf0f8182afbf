/- A packet's body. -/
import Derived.Test.YtjljaecjnpmdoaaWirBld1
import Derived.BigQuiet
import Derived.Deep.RegionHeld3
import Derived.Deep.Cut
namespace Go.Proofs.Ytjljaecjnpmdoaa
set_option linter.unusedVariables false
set_option linter.unusedSimpArgs false
open Go.RowKit Go.ChangeShapes Go.WideShapes Go.ChangeAt

theorem range_facts {p : Pk} (h : rangeB p = true) : (0 ≤ p.life ∧ p.life ≤ 255) ∧ (0 ≤ p.piece ∧ p.piece ≤ 255) ∧ (p.kind = 3 → 0 ≤ p.code ∧ p.code ≤ 255) ∧ (p.kind ≠ 3 → p.kind ≠ 2 → 0 ≤ p.flags ∧ p.flags ≤ 15) := by
  unfold rangeB inR at h
  simp at h
  refine ⟨by omega, by omega, fun k => ?_, fun k k2 => ?_⟩
  · rw [if_pos k] at h; omega
  · rw [if_neg k, if_neg k2] at h; omega
theorem ow_base {w : World} {B n size : Nat} {e : TypeId} {v : Value} {f : Nat → Value} (h : Ow w B e size v n f) (hn : 0 < n * size) : B ≤ w.heap.size := by
  rcases h.2 with ⟨_, h0⟩ | ⟨g, cap, cur, _, hB, hh, _⟩
  · subst h0; simp at hn
  · rcases Nat.lt_or_ge g w.heap.size with h1 | h1
    · omega
    · rw [Array.getElem?_eq_none h1] at hh; cases hh
theorem rowc {w : World} {x : Int} : OB (w.alloc (.cells #[.int .u8 x, .int .u8 0, .int .u8 0, .int .u8 0] 5)) w.heap.size (.slice (some ⟨w.heap.size, 0, none⟩) 4 4) 4 (fun j => if j = 0 then x else 0) := by
  refine OB.of_cells (Nat.le_refl _) (by simp only [maxLen]; omega) ?_
  rw [heap_alloc_new]
  rfl
/-- What a body tells: its row. -/
def Bodied (w : World) (p : Pk) (e : Ending) (w' : World) : Prop := ∃ A' c', e = .returned (.slice A' (lenP p - 16) c') ∧ OB w' w.heap.size (.slice A' (lenP p - 16) c') (lenP p - 16) (bodyF p) ∧ lenP p - 16 ≤ c' ∧ Below w.heap.size w w'
set_option maxHeartbeats 8000000 in
theorem body_any (p : Pk) (AO : Option Addr) (cO : Nat) (AD : Option Addr) (cD : Nat) (w : World) (HO : By w AO p.no p.go) (HD : By w AD p.nd p.gd) (hE : buildE p = 0) :
    Calls Try.prog 36 #[.agg #[.int .i64 p.kind, .int .i64 p.life, .int .i64 p.piece, .int .i64 p.src, .int .i64 p.dst, .int .i64 p.fp, .int .i64 p.tp, .int .i64 p.flags, .int .i64 p.label, .bool p.bare, .int .i64 p.code, .slice AO p.no cO, .slice AD p.nd cD]] w (Bodied w p) := by
  obtain ⟨e1, e2, e3, e4, e5, e6⟩ := buildE_0 hE
  obtain ⟨_, _, rc, rf⟩ := range_facts e2
  have hno := e3
  have hl : p.nd ≤ 1500 := by unfold lenP at e5; split at e5; omega; split at e5 <;> omega
  have HOW := hid (fun (W : World) (hw : Below w.heap.size w W) => Sl.below HO hw (Nat.le_refl _))
  have HDW := hid (fun (W : World) (hw : Below w.heap.size w W) => Sl.below HD hw (Nat.le_refl _))
  have CE := hid (Ce.made (w := w) (l := [.int .i64 p.kind, .int .i64 p.life, .int .i64 p.piece, .int .i64 p.src, .int .i64 p.dst, .int .i64 p.fp, .int .i64 p.tp, .int .i64 p.flags, .int .i64 p.label, .bool p.bare, .int .i64 p.code, .slice AO p.no cO, .slice AD p.nd cD]) (T := 26) (g := w.heap.size) rfl)
  have B0 := hid ((Below.refl w.heap.size w).alloc (Nat.le_refl _) (.cells #[.int .i64 p.kind, .int .i64 p.life, .int .i64 p.piece, .int .i64 p.src, .int .i64 p.dst, .int .i64 p.fp, .int .i64 p.tp, .int .i64 p.flags, .int .i64 p.label, .bool p.bare, .int .i64 p.code, .slice AO p.no cO, .slice AD p.nd cD] 26))
  simp only [List.toArray] at CE
  have hE_ := hE
  clear HO HD hE e1 e2 e4 e5 e6
  cases k3 : (p.kind == 3)
  · have k3' : ¬ p.kind = 3 := by simpa using k3
    cases k2 : (p.kind == 2)
    · have k2' : ¬ p.kind = 2 := by simpa using k2
      have k1' : p.kind = 1 := by have := kind_of hE_; omega
      have rf' := rf k3' k2'
      obtain ⟨rf0, rf1⟩ := rf'
      have no40 := hno k1'
      have HL : Hid (lenP p - 16 = 8 + p.no + p.nd) := hid (by unfold lenP; rw [if_neg k3', if_neg k2']; omega)
      have HF : Hid (bodyF p = fun j => if j < 8 + p.no then (if j < 8 then set1 (set1 (putF (putF (fun _ => 0) 0 2 p.fp) 2 2 p.tp) 4 p.flags) 5 (p.no : Int) j else p.go (j - 8)) else p.gd (j - (8 + p.no))) := hid (by funext j; unfold bodyF; rw [if_neg k3', if_neg k2']; unfold set1 putF; dsimp only; (repeat' split); all_goals (first | rfl | (exfalso; omega) | (congr 1; omega)))
      clear k1' k2' k3' rc rf hno hE_
      go_enter Try.func36, Try.ntmps36
      go_upto_region 1 with (fail)
      generalize (w.alloc (.cells #[.int .i64 p.kind, .int .i64 p.life, .int .i64 p.piece, .int .i64 p.src, .int .i64 p.dst, .int .i64 p.fp, .int .i64 p.tp, .int .i64 p.flags, .int .i64 p.label, .bool p.bare, .int .i64 p.code, .slice AO p.no cO, .slice AD p.nd cD] 26)) = w1 at *
      have lP : w.heap.size < w1.heap.size := CE.out.1
      have y0 := CE.out.2.1 0 _ rfl
      have CP0 : ∀ W, (Instr.slice 23 (.slice (some ⟨w1.heap.size, 0, none⟩) 8 8) none (some (.int .i64 2)) (some (.int .i64 2))).run Try.prog W = .ok (.slice (some ⟨w1.heap.size, 0, none⟩) 2 2) W := fun W => by rw [run_slice_hm W 23 _ 8 8 elem_b .i64 .i64 _ _ (by omega) (by omega) (by omega), size_b W]; rfl
      have CP2 := fun W => cut_put (G := w1.heap.size) (n := 8) (c := 8) 2 2 (by omega) (Nat.le_refl _) (by omega) 2 4 4 rfl rfl rfl W
      have CP4 := fun W => cut_put (G := w1.heap.size) (n := 8) (c := 8) 4 2 (by omega) (Nat.le_refl _) (by omega) 4 6 6 rfl rfl rfl W
      go_upto_region 4 with (at_make; refine wp_make_b rfl _ _ rfl w1.heap.size 8 _ _ rfl rfl rfl rfl (by omega) (Nat.le_refl _) ?_; intro w2 hO hb2; have HO := hid (show OB w2 w1.heap.size (.slice (some ⟨w1.heap.size, 0, none⟩) 8 8) 8 (fun _ => 0) from hO); have HC := hid (CE.out.below hb2); have HB := hid (B0.out.trans (hb2.mono B0.out.size)); clear hO hb2 CE B0)
      clear y0
      refine wp_region_held_drew (S := fun w' => Ce w' w.heap.size [.int .i64 p.kind, .int .i64 p.life, .int .i64 p.piece, .int .i64 p.src, .int .i64 p.dst, .int .i64 p.fp, .int .i64 p.tp, .int .i64 p.flags, .int .i64 p.label, .bool p.bare, .int .i64 p.code, .slice AO p.no cO, .slice AD p.nd cD]) (by kernel_rfl) ?_ (fun hHeld => ?_)
      · exact HC.out.drew_
      refine tk 0 (v := ?_) rfl (by kernel_rfl) (by kernel_rfl) (by kernel_rfl) (fun _ _ _ h => h) rfl ?_ hHeld ?_; rotate_left; (focus (intro w hSw; (try dsimp only at hSw);  go_simp; (try with_reducible rfl))); (try simp only [Act.put, List.setIfInBounds_toArray, List.set_cons_zero, List.set_cons_succ])
      refine tk 1 (v := ?_) rfl (by kernel_rfl) (by kernel_rfl) (by kernel_rfl) (fun _ _ _ h => h) rfl ?_ hHeld ?_; rotate_left; (focus (intro w hSw; (try dsimp only at hSw);  go_simp; (try with_reducible rfl))); (try simp only [Act.put, List.setIfInBounds_toArray, List.set_cons_zero, List.set_cons_succ])
      refine tk 2 (v := ?_) rfl (by kernel_rfl) (by kernel_rfl) (by kernel_rfl) (fun _ _ _ h => h) rfl ?_ hHeld ?_; rotate_left; (focus (intro w hSw; (try dsimp only at hSw);  go_simp; (try with_reducible rfl))); (try simp only [Act.put, List.setIfInBounds_toArray, List.set_cons_zero, List.set_cons_succ])
      refine tk 3 (v := ?_) rfl (by kernel_rfl) (by kernel_rfl) (by kernel_rfl) (fun _ _ _ h => h) rfl ?_ hHeld ?_; rotate_left; (focus (intro w hSw; (try dsimp only at hSw); have y := hSw.2.1 5 _ rfl; go_simp; (try with_reducible rfl))); (try simp only [Act.put, List.setIfInBounds_toArray, List.set_cons_zero, List.set_cons_succ])
      refine only 4 rfl (by kernel_rfl) rfl (fun K hK => ?_)
      go_simp
      refine (put_any (Ow.drew HO.out) 0 2 2 p.fp (by omega) (by omega)).mono ?_
      rintro e' w3 ⟨rfl, hO, hg⟩
      try go_wp2_with fail
      refine hK.out _ _ (hHeld.grown hg (fun e => by injection e with e; omega)) (fun _ => ?_)
      have HO2 := hid hO
      have HC2 := hid (hHeld.grown hg (fun e => by injection e with e; omega))
      have HB2 := hid (HB.out.trans (below_of_grown (grown_drew hg) (by omega) HB.out.size))
      clear hK hHeld hO hg HO HC HB
      (try simp only [Act.put, List.setIfInBounds_toArray, List.set_cons_zero, List.set_cons_succ])
      refine wpAnyH_done (by kernel_rfl) ?_ _
      have HO := HO2
      have HC := HC2
      have HB := HB2
      clear HO2 HC2 HB2
      go_upto_region 5 with (fail)
      refine wp_region_held_drew (S := fun w' => Ce w' w.heap.size [.int .i64 p.kind, .int .i64 p.life, .int .i64 p.piece, .int .i64 p.src, .int .i64 p.dst, .int .i64 p.fp, .int .i64 p.tp, .int .i64 p.flags, .int .i64 p.label, .bool p.bare, .int .i64 p.code, .slice AO p.no cO, .slice AD p.nd cD]) (by kernel_rfl) ?_ (fun hHeld => ?_)
      · exact HC.out.drew_
      refine tk 0 (v := ?_) rfl (by kernel_rfl) (by kernel_rfl) (by kernel_rfl) (fun _ _ _ h => h) rfl ?_ hHeld ?_; rotate_left; (focus (intro w hSw; (try dsimp only at hSw);  go_simp; (try with_reducible rfl))); (try simp only [Act.put, List.setIfInBounds_toArray, List.set_cons_zero, List.set_cons_succ])
      refine tk 1 (v := ?_) rfl (by kernel_rfl) (by kernel_rfl) (by kernel_rfl) (fun _ _ _ h => h) rfl ?_ hHeld ?_; rotate_left; (focus (intro w hSw; (try dsimp only at hSw);  go_simp; (try with_reducible rfl))); (try simp only [Act.put, List.setIfInBounds_toArray, List.set_cons_zero, List.set_cons_succ])
      refine tk 2 (v := ?_) rfl (by kernel_rfl) (by kernel_rfl) (by kernel_rfl) (fun _ _ _ h => h) rfl ?_ hHeld ?_; rotate_left; (focus (intro w hSw; (try dsimp only at hSw);  go_simp; (try with_reducible rfl))); (try simp only [Act.put, List.setIfInBounds_toArray, List.set_cons_zero, List.set_cons_succ])
      refine tk 3 (v := ?_) rfl (by kernel_rfl) (by kernel_rfl) (by kernel_rfl) (fun _ _ _ h => h) rfl ?_ hHeld ?_; rotate_left; (focus (intro w hSw; (try dsimp only at hSw); have y := hSw.2.1 6 _ rfl; go_simp; (try with_reducible rfl))); (try simp only [Act.put, List.setIfInBounds_toArray, List.set_cons_zero, List.set_cons_succ])
      refine only 4 rfl (by kernel_rfl) rfl (fun K hK => ?_)
      go_simp
      refine (put_any (Ow.drew HO.out) 2 2 2 p.tp (by omega) (by omega)).mono ?_
      rintro e' w4 ⟨rfl, hO, hg⟩
      try go_wp2_with fail
      refine hK.out _ _ (hHeld.grown hg (fun e => by injection e with e; omega)) (fun _ => ?_)
      have HO2 := hid hO
      have HC2 := hid (hHeld.grown hg (fun e => by injection e with e; omega))
      have HB2 := hid (HB.out.trans (below_of_grown (grown_drew hg) (by omega) HB.out.size))
      clear hK hHeld hO hg HO HC HB
      (try simp only [Act.put, List.setIfInBounds_toArray, List.set_cons_zero, List.set_cons_succ])
      refine wpAnyH_done (by kernel_rfl) ?_ _
      have HO := HO2
      have HC := HC2
      have HB := HB2
      clear HO2 HC2 HB2
      have y0 := HC.out.2.1 0 _ rfl
      go_upto_region 9 with (fail)
      clear y0
      obtain ⟨g', e, hB, hgs, hce, hfr⟩ := Ow.block_ HO.out (by omega)
      injection e with e
      injection e with e _
      subst e
      have c4 := hce 4 (by omega)
      have c5 := hce 5 (by omega)
      have f4 := hfr 4
      have f5 := hfr 5
      clear hce hfr
      have u7 : IntKind.u8.wrap p.flags = p.flags := by rw [IntKind.wrap_u8]; omega
      have u11 : IntKind.u8.wrap (p.no : Int) = (p.no : Int) := by rw [IntKind.wrap_u8]; omega
      have n40 : (p.no : Int) ≤ 255 := by omega
      have n0 : (0 : Int) ≤ p.no := by omega
      refine wp_region_held_drew (S := fun w' => Ce w' w.heap.size [.int .i64 p.kind, .int .i64 p.life, .int .i64 p.piece, .int .i64 p.src, .int .i64 p.dst, .int .i64 p.fp, .int .i64 p.tp, .int .i64 p.flags, .int .i64 p.label, .bool p.bare, .int .i64 p.code, .slice AO p.no cO, .slice AD p.nd cD]) (by kernel_rfl) ?_ (fun hHeld => ?_)
      · exact HC.out.drew_
      refine tk 0 (v := ?_) rfl (by kernel_rfl) (by kernel_rfl) (by kernel_rfl) (fun _ _ _ h => h) rfl ?_ hHeld ?_; rotate_left; (focus (intro w hSw; (try dsimp only at hSw);  go_simp; (try with_reducible rfl))); (try simp only [Act.put, List.setIfInBounds_toArray, List.set_cons_zero, List.set_cons_succ])
      refine tk 1 (v := ?_) rfl (by kernel_rfl) (by kernel_rfl) (by kernel_rfl) (fun _ _ _ h => h) rfl ?_ hHeld ?_; rotate_left; (focus (intro w hSw; (try dsimp only at hSw);  go_simp; (try with_reducible rfl))); (try simp only [Act.put, List.setIfInBounds_toArray, List.set_cons_zero, List.set_cons_succ])
      refine tk 2 (v := ?_) rfl (by kernel_rfl) (by kernel_rfl) (by kernel_rfl) (fun _ _ _ h => h) rfl ?_ hHeld ?_; rotate_left; (focus (intro w hSw; (try dsimp only at hSw);  go_simp; (try with_reducible rfl))); (try simp only [Act.put, List.setIfInBounds_toArray, List.set_cons_zero, List.set_cons_succ])
      refine tk 3 (v := ?_) rfl (by kernel_rfl) (by kernel_rfl) (by kernel_rfl) (fun _ _ _ h => h) rfl ?_ hHeld ?_; rotate_left; (focus (intro w hSw; (try dsimp only at hSw); have q7 := hSw.2.1 7 _ rfl; have q11 := hSw.2.1 11 _ rfl; go_simp; (try with_reducible rfl))); (try simp only [Act.put, List.setIfInBounds_toArray, List.set_cons_zero, List.set_cons_succ])
      refine tk 4 (v := ?_) rfl (by kernel_rfl) (by kernel_rfl) (by kernel_rfl) (fun _ _ _ h => h) rfl ?_ hHeld ?_; rotate_left; (focus (intro w hSw; (try dsimp only at hSw);  go_simp; (try with_reducible rfl))); (try simp only [Act.put, List.setIfInBounds_toArray, List.set_cons_zero, List.set_cons_succ])
      refine tk 5 (v := ?_) rfl (by kernel_rfl) (by kernel_rfl) (by kernel_rfl) (fun _ _ _ h => h) rfl ?_ hHeld ?_; rotate_left; (focus (intro w hSw; (try dsimp only at hSw);  go_simp; (try with_reducible rfl))); (try simp only [Act.put, List.setIfInBounds_toArray, List.set_cons_zero, List.set_cons_succ])
      refine tk 6 (v := ?_) rfl (by kernel_rfl) (by kernel_rfl) (by kernel_rfl) (fun _ _ _ h => h) rfl ?_ hHeld ?_; rotate_left; (focus (intro w hSw; (try dsimp only at hSw); have q7 := hSw.2.1 7 _ rfl; have q11 := hSw.2.1 11 _ rfl; go_simp; (try with_reducible rfl))); (try simp only [Act.put, List.setIfInBounds_toArray, List.set_cons_zero, List.set_cons_succ])
      refine tk 7 (v := ?_) rfl (by kernel_rfl) (by kernel_rfl) (by kernel_rfl) (fun _ _ _ h => h) rfl ?_ hHeld ?_; rotate_left; (focus (intro w hSw; (try dsimp only at hSw);  go_simp; (try with_reducible rfl))); (try simp only [Act.put, List.setIfInBounds_toArray, List.set_cons_zero, List.set_cons_succ])
      refine tk 8 (v := ?_) rfl (by kernel_rfl) (by kernel_rfl) (by kernel_rfl) (fun _ _ _ h => h) rfl ?_ hHeld ?_; rotate_left; (focus (intro w hSw; (try dsimp only at hSw);  go_simp; (try with_reducible rfl))); (try simp only [Act.put, List.setIfInBounds_toArray, List.set_cons_zero, List.set_cons_succ])
      refine tk 9 (v := ?_) rfl (by kernel_rfl) (by kernel_rfl) (by kernel_rfl) (fun _ _ _ h => h) rfl ?_ hHeld ?_; rotate_left; (focus (intro w hSw; (try dsimp only at hSw);  go_simp; (try with_reducible rfl))); (try simp only [Act.put, List.setIfInBounds_toArray, List.set_cons_zero, List.set_cons_succ])
      refine only 10 rfl (by kernel_rfl) rfl (fun K hK => ?_)
      go_simp
      have hH2 : Ce (w4.setCell ⟨w1.heap.size, 4, none⟩ (.int .u8 p.flags)).drew w.heap.size [.int .i64 p.kind, .int .i64 p.life, .int .i64 p.piece, .int .i64 p.src, .int .i64 p.dst, .int .i64 p.fp, .int .i64 p.tp, .int .i64 p.flags, .int .i64 p.label, .bool p.bare, .int .i64 p.code, .slice AO p.no cO, .slice AD p.nd cD] := Ce.drew_ (HC.out.grown (gs 4 (.int .u8 p.flags) (World.grownBy.refl w4 (some w1.heap.size))) (fun e => by injection e with e; omega))
      refine hK.out _ _ hH2 (fun _ => ?_)
      clear hK
      (try simp only [Act.put, List.setIfInBounds_toArray, List.set_cons_zero, List.set_cons_succ])
      refine tk 11 (v := ?_) rfl (by kernel_rfl) (by kernel_rfl) (by kernel_rfl) (fun _ _ _ h => h) rfl ?_ hH2 ?_; rotate_left; (focus (intro w hSw; (try dsimp only at hSw);  go_simp; (try with_reducible rfl))); (try simp only [Act.put, List.setIfInBounds_toArray, List.set_cons_zero, List.set_cons_succ])
      refine only 12 rfl (by kernel_rfl) rfl (fun K hK => ?_)
      go_simp
      have hH3 : Ce ((w4.setCell ⟨w1.heap.size, 4, none⟩ (.int .u8 p.flags)).setCell ⟨w1.heap.size, 5, none⟩ (.int .u8 (p.no : Int))).drew w.heap.size [.int .i64 p.kind, .int .i64 p.life, .int .i64 p.piece, .int .i64 p.src, .int .i64 p.dst, .int .i64 p.fp, .int .i64 p.tp, .int .i64 p.flags, .int .i64 p.label, .bool p.bare, .int .i64 p.code, .slice AO p.no cO, .slice AD p.nd cD] := Ce.drew_ (HC.out.grown (gs 5 (.int .u8 (p.no : Int)) (gs 4 (.int .u8 p.flags) (World.grownBy.refl w4 (some w1.heap.size)))) (fun e => by injection e with e; omega))
      refine hK.out _ _ hH3 (fun _ => ?_)
      clear hK
      (try simp only [Act.put, List.setIfInBounds_toArray, List.set_cons_zero, List.set_cons_succ])
      refine wpAnyH_done (by kernel_rfl) ?_ _
      have HO2 := hid (Ow.drew (OB.store (OB.store HO.out 4 p.flags) 5 (p.no : Int)))
      have HB2 := hid ((HB.out.trans (below_of_grown (gs 5 (.int .u8 (p.no : Int)) (gs 4 (.int .u8 p.flags) (World.grownBy.refl w4 (some w1.heap.size)))) (by omega) HB.out.size)).drew)
      have HC2 := hid hH3
      clear hH3 hH2 hHeld HO HC HB c4 c5 f4 f5
      generalize ((w4.setCell ⟨w1.heap.size, 4, none⟩ (.int .u8 p.flags)).setCell ⟨w1.heap.size, 5, none⟩ (.int .u8 (p.no : Int))).drew = w5 at *
      have y11 := HC2.out.2.1 11 _ rfl
      go_upto_region 11 with (at_builtin; refine wp_app_b rfl (.tmp 48) (.tmp 50) rfl w1.heap.size _ 8 _ rfl HO2.out _ p.no _ p.go rfl (HOW.out _ HB2.out) (by omega) (ow_base HO2.out (by omega)) ?_; intro A3 c3 w6 h1 h2 h3 h4 h5 h6; have O3 := hid h1; have B3 := hid (HB2.out.trans (h4.mono (by omega))); have C3 := hid (h4.cell (p := ⟨w.heap.size, 12, none⟩) (by exact lP)); have Z3 := hid h4.size; clear h1 h2 h3 h4 h5 h6)
      have y12 : w6.cell? ⟨w.heap.size, 12, none⟩ = some (.slice AD p.nd cD) := C3.out.trans (HC2.out.2.1 12 _ rfl)
      clear y11
      go_wp2_with (at_builtin; refine wp_app_b rfl (.tmp 52) (.tmp 54) rfl w1.heap.size _ (8 + p.no) _ rfl O3.out _ p.nd _ p.gd rfl (HDW.out _ B3.out) (by omega) (ow_base O3.out (by omega)) ?_; intro A4 c4 w7 h1 h2 h3 h4 h5 h6; have O4 := hid h1; have hc4 := h2; have B4 := hid (B3.out.trans (h4.mono (by omega))); clear h1 h2 h3 h4 h5 h6)
      go_ret
      refine ⟨A4, c4, by rw [HL.out]; rfl, ?_, by rw [HL.out]; exact hc4, B4.out⟩
      rw [HL.out, HF.out]
      exact OB.base O4.out (by omega)
    · have k2' : p.kind = 2 := by simpa using k2
      have HL : Hid (lenP p - 16 = 8 + p.nd) := hid (by unfold lenP; rw [if_neg k3', if_pos k2']; omega)
      have HF : Hid (bodyF p = fun j => if j < 8 then putF (putF (putF (fun _ => 0) 0 2 p.fp) 2 2 p.tp) 4 2 p.label j else p.gd (j - 8)) := hid (by funext j; unfold bodyF; rw [if_neg k3', if_pos k2']; unfold putF; dsimp only; (repeat' split); all_goals (first | rfl | (exfalso; omega) | (congr 1; omega)))
      clear k2' k3' rc rf hno
      go_enter Try.func36, Try.ntmps36
      go_upto_region 1 with (fail)
      generalize (w.alloc (.cells #[.int .i64 p.kind, .int .i64 p.life, .int .i64 p.piece, .int .i64 p.src, .int .i64 p.dst, .int .i64 p.fp, .int .i64 p.tp, .int .i64 p.flags, .int .i64 p.label, .bool p.bare, .int .i64 p.code, .slice AO p.no cO, .slice AD p.nd cD] 26)) = w1 at *
      have lP : w.heap.size < w1.heap.size := CE.out.1
      have y0 := CE.out.2.1 0 _ rfl
      have CP0 : ∀ W, (Instr.slice 23 (.slice (some ⟨w1.heap.size, 0, none⟩) 8 8) none (some (.int .i64 2)) (some (.int .i64 2))).run Try.prog W = .ok (.slice (some ⟨w1.heap.size, 0, none⟩) 2 2) W := fun W => by rw [run_slice_hm W 23 _ 8 8 elem_b .i64 .i64 _ _ (by omega) (by omega) (by omega), size_b W]; rfl
      have CP2 := fun W => cut_put (G := w1.heap.size) (n := 8) (c := 8) 2 2 (by omega) (Nat.le_refl _) (by omega) 2 4 4 rfl rfl rfl W
      have CP4 := fun W => cut_put (G := w1.heap.size) (n := 8) (c := 8) 4 2 (by omega) (Nat.le_refl _) (by omega) 4 6 6 rfl rfl rfl W
      go_upto_region 4 with (at_make; refine wp_make_b rfl _ _ rfl w1.heap.size 8 _ _ rfl rfl rfl rfl (by omega) (Nat.le_refl _) ?_; intro w2 hO hb2; have HO := hid (show OB w2 w1.heap.size (.slice (some ⟨w1.heap.size, 0, none⟩) 8 8) 8 (fun _ => 0) from hO); have HC := hid (CE.out.below hb2); have HB := hid (B0.out.trans (hb2.mono B0.out.size)); clear hO hb2 CE B0)
      clear y0
      refine wp_region_held_drew (S := fun w' => Ce w' w.heap.size [.int .i64 p.kind, .int .i64 p.life, .int .i64 p.piece, .int .i64 p.src, .int .i64 p.dst, .int .i64 p.fp, .int .i64 p.tp, .int .i64 p.flags, .int .i64 p.label, .bool p.bare, .int .i64 p.code, .slice AO p.no cO, .slice AD p.nd cD]) (by kernel_rfl) ?_ (fun hHeld => ?_)
      · exact HC.out.drew_
      refine tk 0 (v := ?_) rfl (by kernel_rfl) (by kernel_rfl) (by kernel_rfl) (fun _ _ _ h => h) rfl ?_ hHeld ?_; rotate_left; (focus (intro w hSw; (try dsimp only at hSw);  go_simp; (try with_reducible rfl))); (try simp only [Act.put, List.setIfInBounds_toArray, List.set_cons_zero, List.set_cons_succ])
      refine tk 1 (v := ?_) rfl (by kernel_rfl) (by kernel_rfl) (by kernel_rfl) (fun _ _ _ h => h) rfl ?_ hHeld ?_; rotate_left; (focus (intro w hSw; (try dsimp only at hSw);  go_simp; (try with_reducible rfl))); (try simp only [Act.put, List.setIfInBounds_toArray, List.set_cons_zero, List.set_cons_succ])
      refine tk 2 (v := ?_) rfl (by kernel_rfl) (by kernel_rfl) (by kernel_rfl) (fun _ _ _ h => h) rfl ?_ hHeld ?_; rotate_left; (focus (intro w hSw; (try dsimp only at hSw);  go_simp; (try with_reducible rfl))); (try simp only [Act.put, List.setIfInBounds_toArray, List.set_cons_zero, List.set_cons_succ])
      refine tk 3 (v := ?_) rfl (by kernel_rfl) (by kernel_rfl) (by kernel_rfl) (fun _ _ _ h => h) rfl ?_ hHeld ?_; rotate_left; (focus (intro w hSw; (try dsimp only at hSw); have y := hSw.2.1 5 _ rfl; go_simp; (try with_reducible rfl))); (try simp only [Act.put, List.setIfInBounds_toArray, List.set_cons_zero, List.set_cons_succ])
      refine only 4 rfl (by kernel_rfl) rfl (fun K hK => ?_)
      go_simp
      refine (put_any (Ow.drew HO.out) 0 2 2 p.fp (by omega) (by omega)).mono ?_
      rintro e' w3 ⟨rfl, hO, hg⟩
      try go_wp2_with fail
      refine hK.out _ _ (hHeld.grown hg (fun e => by injection e with e; omega)) (fun _ => ?_)
      have HO2 := hid hO
      have HC2 := hid (hHeld.grown hg (fun e => by injection e with e; omega))
      have HB2 := hid (HB.out.trans (below_of_grown (grown_drew hg) (by omega) HB.out.size))
      clear hK hHeld hO hg HO HC HB
      (try simp only [Act.put, List.setIfInBounds_toArray, List.set_cons_zero, List.set_cons_succ])
      refine wpAnyH_done (by kernel_rfl) ?_ _
      have HO := HO2
      have HC := HC2
      have HB := HB2
      clear HO2 HC2 HB2
      go_upto_region 5 with (fail)
      refine wp_region_held_drew (S := fun w' => Ce w' w.heap.size [.int .i64 p.kind, .int .i64 p.life, .int .i64 p.piece, .int .i64 p.src, .int .i64 p.dst, .int .i64 p.fp, .int .i64 p.tp, .int .i64 p.flags, .int .i64 p.label, .bool p.bare, .int .i64 p.code, .slice AO p.no cO, .slice AD p.nd cD]) (by kernel_rfl) ?_ (fun hHeld => ?_)
      · exact HC.out.drew_
      refine tk 0 (v := ?_) rfl (by kernel_rfl) (by kernel_rfl) (by kernel_rfl) (fun _ _ _ h => h) rfl ?_ hHeld ?_; rotate_left; (focus (intro w hSw; (try dsimp only at hSw);  go_simp; (try with_reducible rfl))); (try simp only [Act.put, List.setIfInBounds_toArray, List.set_cons_zero, List.set_cons_succ])
      refine tk 1 (v := ?_) rfl (by kernel_rfl) (by kernel_rfl) (by kernel_rfl) (fun _ _ _ h => h) rfl ?_ hHeld ?_; rotate_left; (focus (intro w hSw; (try dsimp only at hSw);  go_simp; (try with_reducible rfl))); (try simp only [Act.put, List.setIfInBounds_toArray, List.set_cons_zero, List.set_cons_succ])
      refine tk 2 (v := ?_) rfl (by kernel_rfl) (by kernel_rfl) (by kernel_rfl) (fun _ _ _ h => h) rfl ?_ hHeld ?_; rotate_left; (focus (intro w hSw; (try dsimp only at hSw);  go_simp; (try with_reducible rfl))); (try simp only [Act.put, List.setIfInBounds_toArray, List.set_cons_zero, List.set_cons_succ])
      refine tk 3 (v := ?_) rfl (by kernel_rfl) (by kernel_rfl) (by kernel_rfl) (fun _ _ _ h => h) rfl ?_ hHeld ?_; rotate_left; (focus (intro w hSw; (try dsimp only at hSw); have y := hSw.2.1 6 _ rfl; go_simp; (try with_reducible rfl))); (try simp only [Act.put, List.setIfInBounds_toArray, List.set_cons_zero, List.set_cons_succ])
      refine only 4 rfl (by kernel_rfl) rfl (fun K hK => ?_)
      go_simp
      refine (put_any (Ow.drew HO.out) 2 2 2 p.tp (by omega) (by omega)).mono ?_
      rintro e' w4 ⟨rfl, hO, hg⟩
      try go_wp2_with fail
      refine hK.out _ _ (hHeld.grown hg (fun e => by injection e with e; omega)) (fun _ => ?_)
      have HO2 := hid hO
      have HC2 := hid (hHeld.grown hg (fun e => by injection e with e; omega))
      have HB2 := hid (HB.out.trans (below_of_grown (grown_drew hg) (by omega) HB.out.size))
      clear hK hHeld hO hg HO HC HB
      (try simp only [Act.put, List.setIfInBounds_toArray, List.set_cons_zero, List.set_cons_succ])
      refine wpAnyH_done (by kernel_rfl) ?_ _
      have HO := HO2
      have HC := HC2
      have HB := HB2
      clear HO2 HC2 HB2
      have y0 := HC.out.2.1 0 _ rfl
      go_upto_region 7 with (fail)
      clear y0
      refine wp_region_held_drew (S := fun w' => Ce w' w.heap.size [.int .i64 p.kind, .int .i64 p.life, .int .i64 p.piece, .int .i64 p.src, .int .i64 p.dst, .int .i64 p.fp, .int .i64 p.tp, .int .i64 p.flags, .int .i64 p.label, .bool p.bare, .int .i64 p.code, .slice AO p.no cO, .slice AD p.nd cD]) (by kernel_rfl) ?_ (fun hHeld => ?_)
      · exact HC.out.drew_
      refine tk 0 (v := ?_) rfl (by kernel_rfl) (by kernel_rfl) (by kernel_rfl) (fun _ _ _ h => h) rfl ?_ hHeld ?_; rotate_left; (focus (intro w hSw; (try dsimp only at hSw);  go_simp; (try with_reducible rfl))); (try simp only [Act.put, List.setIfInBounds_toArray, List.set_cons_zero, List.set_cons_succ])
      refine tk 1 (v := ?_) rfl (by kernel_rfl) (by kernel_rfl) (by kernel_rfl) (fun _ _ _ h => h) rfl ?_ hHeld ?_; rotate_left; (focus (intro w hSw; (try dsimp only at hSw);  go_simp; (try with_reducible rfl))); (try simp only [Act.put, List.setIfInBounds_toArray, List.set_cons_zero, List.set_cons_succ])
      refine tk 2 (v := ?_) rfl (by kernel_rfl) (by kernel_rfl) (by kernel_rfl) (fun _ _ _ h => h) rfl ?_ hHeld ?_; rotate_left; (focus (intro w hSw; (try dsimp only at hSw);  go_simp; (try with_reducible rfl))); (try simp only [Act.put, List.setIfInBounds_toArray, List.set_cons_zero, List.set_cons_succ])
      refine tk 3 (v := ?_) rfl (by kernel_rfl) (by kernel_rfl) (by kernel_rfl) (fun _ _ _ h => h) rfl ?_ hHeld ?_; rotate_left; (focus (intro w hSw; (try dsimp only at hSw); have y := hSw.2.1 8 _ rfl; go_simp; (try with_reducible rfl))); (try simp only [Act.put, List.setIfInBounds_toArray, List.set_cons_zero, List.set_cons_succ])
      refine only 4 rfl (by kernel_rfl) rfl (fun K hK => ?_)
      go_simp
      refine (put_any (Ow.drew HO.out) 4 2 2 p.label (by omega) (by omega)).mono ?_
      rintro e' w5 ⟨rfl, hO, hg⟩
      try go_wp2_with fail
      refine hK.out _ _ (hHeld.grown hg (fun e => by injection e with e; omega)) (fun _ => ?_)
      have HO2 := hid hO
      have HC2 := hid (hHeld.grown hg (fun e => by injection e with e; omega))
      have HB2 := hid (HB.out.trans (below_of_grown (grown_drew hg) (by omega) HB.out.size))
      clear hK hHeld hO hg HO HC HB
      (try simp only [Act.put, List.setIfInBounds_toArray, List.set_cons_zero, List.set_cons_succ])
      refine wpAnyH_done (by kernel_rfl) ?_ _
      have HO := HO2
      have HC := HC2
      have HB := HB2
      clear HO2 HC2 HB2
      have y12 := HC.out.2.1 12 _ rfl
      go_wp2_with (at_builtin; refine wp_app_b rfl (.tmp 33) (.tmp 35) rfl w1.heap.size _ 8 _ rfl HO.out _ p.nd _ p.gd rfl (HDW.out _ HB.out) (by omega) (ow_base HO.out (by omega)) ?_; intro A3 c3 w6 h1 h2 h3 h4 h5 h6; have O3 := hid h1; have hc3 := h2; have B3 := hid (HB.out.trans (h4.mono (by omega))); clear h1 h2 h3 h4 h5 h6)
      go_ret
      refine ⟨A3, c3, by rw [HL.out]; rfl, ?_, by rw [HL.out]; exact hc3, B3.out⟩
      rw [HL.out, HF.out]
      exact OB.base O3.out (by omega)
  · have k3' : p.kind = 3 := by simpa using k3
    have rc' := rc k3'
    obtain ⟨rc0, rc1⟩ := rc'
    have HL : Hid (lenP p - 16 = 4 + p.nd) := hid (by unfold lenP; rw [if_pos k3']; omega)
    have HF : Hid (bodyF p = fun j => if j < 4 then (if j = 0 then p.code else 0) else p.gd (j - 4)) := hid (by funext j; unfold bodyF; rw [if_pos k3']; by_cases h0 : j = 0; (rw [if_pos h0, if_pos (by omega), if_pos h0]); (rw [if_neg h0]; by_cases h4 : j < 4; (rw [if_pos h4, if_pos h4, if_neg h0]); (rw [if_neg h4, if_neg h4])))
    clear k3' rc rf hno
    go_enter Try.func36, Try.ntmps36
    go_upto_region 1 with (fail)
    generalize (w.alloc (.cells #[.int .i64 p.kind, .int .i64 p.life, .int .i64 p.piece, .int .i64 p.src, .int .i64 p.dst, .int .i64 p.fp, .int .i64 p.tp, .int .i64 p.flags, .int .i64 p.label, .bool p.bare, .int .i64 p.code, .slice AO p.no cO, .slice AD p.nd cD] 26)) = w1 at *
    have y0 := CE.out.2.1 0 _ rfl
    have y10 := CE.out.2.1 10 _ rfl
    have y12 := CE.out.2.1 12 _ rfl
    have HR := hid (rowc (w := w1) (x := p.code))
    have CE2 := CE.out.alloc (.cells #[.int .u8 p.code, .int .u8 0, .int .u8 0, .int .u8 0] 5)
    have z12 := CE2.2.1 12 _ rfl
    clear CE2
    have HD2 := hid (HDW.out _ (B0.out.alloc B0.out.size (.cells #[.int .u8 p.code, .int .u8 0, .int .u8 0, .int .u8 0] 5)))
    have B2 := hid (B0.out.alloc B0.out.size (.cells #[.int .u8 p.code, .int .u8 0, .int .u8 0, .int .u8 0] 5))
    go_wp2_with (at_builtin; refine wp_app_b rfl (.tmp 10) (.tmp 12) rfl w1.heap.size _ 4 _ rfl HR.out _ p.nd _ p.gd rfl HD2.out (by omega) (by simp) ?_; intro A3 c3 w3 h1 h2 h3 h4 h5 h6; have O3 := hid h1; have hc3 := h2; have B3 := hid (B2.out.trans (h4.mono B0.out.size)); clear h1 h2 h3 h4 h5 h6)
    go_ret
    refine ⟨A3, c3, by rw [HL.out]; rfl, ?_, by rw [HL.out]; exact hc3, B3.out⟩
    rw [HL.out, HF.out]
    exact OB.base O3.out B0.out.size
end Go.Proofs.Ytjljaecjnpmdoaa
