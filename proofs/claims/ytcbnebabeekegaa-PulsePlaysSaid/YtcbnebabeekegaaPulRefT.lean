/- The reference's Told. -/
import Derived.Test.YtcbnebabeekegaaPulRef
import Derived.BigQuiet
import Derived.Deep.RegionHeld3
import Derived.Deep.Cut
namespace Go.Proofs.Ytcbnebabeekegaa
set_option linter.unusedVariables false
set_option linter.unusedSimpArgs false
open Go.RowKit Go.ChangeShapes Go.WideShapes Go.ChangeAt

theorem gs {w a : World} {p : Nat} (j : Nat) (v : Value) (h : w.grownBy a (some p)) : w.grownBy (a.setCell ⟨p, j, none⟩ v) (some p) := h.trans (grown_set a ⟨p, j, none⟩ v)
theorem grown_set4 {w w' : World} {p : Nat} (h : w.grownBy w' (some p)) (i : Nat) (a b c d : Value) : w.grownBy ((((w'.setCell ⟨p, 3 + i * 4, none⟩ a).setCell ⟨p, 3 + i * 4 + 1, none⟩ b).setCell ⟨p, 3 + i * 4 + 2, none⟩ c).setCell ⟨p, 3 + i * 4 + 3, none⟩ d) (some p) :=
  gs _ _ (gs _ _ (gs _ _ (gs _ _ h)))
theorem RefAt.as_ {w : World} {p : Nat} {r f e : Int} {L L' : Int → RS} (h : RefAt w p r f e L) (hL : L = L') : RefAt w p r f e L' := hL ▸ h
theorem cell_set (w : World) (p i j : Nat) (v : Value) (h : ∃ u, w.cell? ⟨p, j, none⟩ = some u) : (w.setCell ⟨p, i, none⟩ v).cell? ⟨p, j, none⟩ = if j = i then some v else w.cell? ⟨p, j, none⟩ := by
  obtain ⟨u, h⟩ := h
  split
  · rename_i e
    subst e
    exact World.cell?_setCell_same _ _ _ h
  · rename_i e
    exact World.cell?_setCell_other _ _ _ _ (fun x => e (by injection x with _ x; exact x.symm))
theorem cell_set4 (w : World) (p i j : Nat) (a b c d : Value) (h : ∃ u, w.cell? ⟨p, j, none⟩ = some u) :
    ((((w.setCell ⟨p, 3 + i * 4, none⟩ a).setCell ⟨p, 3 + i * 4 + 1, none⟩ b).setCell ⟨p, 3 + i * 4 + 2, none⟩ c).setCell ⟨p, 3 + i * 4 + 3, none⟩ d).cell? ⟨p, j, none⟩ =
      if j = 3 + i * 4 + 3 then some d else if j = 3 + i * 4 + 2 then some c else if j = 3 + i * 4 + 1 then some b else if j = 3 + i * 4 then some a else w.cell? ⟨p, j, none⟩ := by
  have k : ∀ (w : World) (i : Nat) (v : Value), (∃ u, w.cell? ⟨p, j, none⟩ = some u) → ∃ u, (w.setCell ⟨p, i, none⟩ v).cell? ⟨p, j, none⟩ = some u := fun w i v h => by
    rw [cell_set _ _ _ _ _ h]
    split
    · exact ⟨_, rfl⟩
    · exact h
  rw [cell_set _ _ _ _ _ (k _ _ _ (k _ _ _ (k _ _ _ h))), cell_set _ _ _ _ _ (k _ _ _ (k _ _ _ h)), cell_set _ _ _ _ _ (k _ _ _ h), cell_set _ _ _ _ _ h]
theorem RefAt.set4 {w : World} {p : Nat} {r f e : Int} {L : Int → RS} (h : RefAt w p r f e L) {i : Nat} (hi : i < 64) (a b : Bool) (c d : Int) :
    RefAt ((((w.setCell ⟨p, 3 + i * 4, none⟩ (.bool a)).setCell ⟨p, 3 + i * 4 + 1, none⟩ (.bool b)).setCell ⟨p, 3 + i * 4 + 2, none⟩ (.int .i64 c)).setCell ⟨p, 3 + i * 4 + 3, none⟩ (.int .i64 d)) p r f e (rupd L i (a, b, c, d)) := by
  obtain ⟨h1, h2, h3, h4, h5, h6⟩ := h
  refine ⟨by simpa using h1, fun j => by simp only [World.frozen?_setCell]; exact h2 j, ?_, ?_, ?_, fun k hk => ?_⟩
  · rw [cell_set4 _ _ _ _ _ _ _ _ ⟨_, h3⟩, if_neg (by omega), if_neg (by omega), if_neg (by omega), if_neg (by omega), h3]
  · rw [cell_set4 _ _ _ _ _ _ _ _ ⟨_, h4⟩, if_neg (by omega), if_neg (by omega), if_neg (by omega), if_neg (by omega), h4]
  · rw [cell_set4 _ _ _ _ _ _ _ _ ⟨_, h5⟩, if_neg (by omega), if_neg (by omega), if_neg (by omega), if_neg (by omega), h5]
  · obtain ⟨k0, k1, k2, k3⟩ := h6 k hk
    rw [cell_set4 _ _ _ _ _ _ _ _ ⟨_, k0⟩, cell_set4 _ _ _ _ _ _ _ _ ⟨_, k1⟩, cell_set4 _ _ _ _ _ _ _ _ ⟨_, k2⟩, cell_set4 _ _ _ _ _ _ _ _ ⟨_, k3⟩]
    unfold rupd
    by_cases e : k = i
    · subst e
      refine ⟨?_, ?_, ?_, ?_⟩ <;> (repeat (first | rw [if_pos rfl] | rw [if_neg (by omega)])) <;> rfl
    · rw [if_neg (show ¬ (k : Int) = (i : Int) from by omega)]
      refine ⟨?_, ?_, ?_, ?_⟩
      · rw [if_neg (by omega), if_neg (by omega), if_neg (by omega), if_neg (by omega), k0]
      · rw [if_neg (by omega), if_neg (by omega), if_neg (by omega), if_neg (by omega), k1]
      · rw [if_neg (by omega), if_neg (by omega), if_neg (by omega), if_neg (by omega), k2]
      · rw [if_neg (by omega), if_neg (by omega), if_neg (by omega), if_neg (by omega), k3]
theorem fin_ {w : World} {p : Nat} {r f e : Int} {L : Int → RS} (h : RefAt w p r f e L) (i : Nat) (hi : i < 64) (o : Obj) (n : Nat) (a b : Bool) (c d : Int) (l : RS) (hl : l = (a, b, c, d)) :
    RefAt (((((w.alloc o).drewN n).setCell ⟨p, 3 + i * 4, none⟩ (.bool a)).setCell ⟨p, 3 + i * 4 + 1, none⟩ (.bool b)).setCell ⟨p, 3 + i * 4 + 2, none⟩ (.int .i64 c) |>.setCell ⟨p, 3 + i * 4 + 3, none⟩ (.int .i64 d)) p r f e (rupd L i l) ∧
      w.grownBy (((((w.alloc o).drewN n).setCell ⟨p, 3 + i * 4, none⟩ (.bool a)).setCell ⟨p, 3 + i * 4 + 1, none⟩ (.bool b)).setCell ⟨p, 3 + i * 4 + 2, none⟩ (.int .i64 c) |>.setCell ⟨p, 3 + i * 4 + 3, none⟩ (.int .i64 d)) (some p) := by
  subst hl
  have hb : Below w.heap.size w ((w.alloc o).drewN n) := below_drewN ((Below.refl _ _).alloc (Nat.le_refl _) _) _
  exact ⟨(h.below hb).set4 hi _ _ _ _, grown_set4 (below_grown hb (some p)) _ _ _ _ _⟩
theorem RefAt.drew_ {w : World} {p : Nat} {r f e : Int} {L : Int → RS} (h : RefAt w p r f e L) : RefAt w.drew p r f e L := h
theorem grown_drew {w w' : World} {row : Option Nat} (h : w.grownBy w' row) : w.grownBy w'.drew row := ⟨h.os, h.tape, h.output, h.size, h.block⟩
theorem fin2_ {w : World} {p : Nat} {r f e : Int} {L : Int → RS} (h : RefAt w p r f e L) (i : Nat) (hi : i < 64) (o : Obj) (n : Nat) (u v : Value) (a b : Bool) (c d : Int) (l : RS) (hl : l = (a, b, c, d)) :
    RefAt ((((((((w.alloc o).drewN n).setCell ⟨w.heap.size, 1, none⟩ u).setCell ⟨w.heap.size, 3, none⟩ v).setCell ⟨p, 3 + i * 4, none⟩ (.bool a)).setCell ⟨p, 3 + i * 4 + 1, none⟩ (.bool b)).setCell ⟨p, 3 + i * 4 + 2, none⟩ (.int .i64 c)).setCell ⟨p, 3 + i * 4 + 3, none⟩ (.int .i64 d)).drew p r f e (rupd L i l) ∧
      w.grownBy ((((((((w.alloc o).drewN n).setCell ⟨w.heap.size, 1, none⟩ u).setCell ⟨w.heap.size, 3, none⟩ v).setCell ⟨p, 3 + i * 4, none⟩ (.bool a)).setCell ⟨p, 3 + i * 4 + 1, none⟩ (.bool b)).setCell ⟨p, 3 + i * 4 + 2, none⟩ (.int .i64 c)).setCell ⟨p, 3 + i * 4 + 3, none⟩ (.int .i64 d)).drew (some p) := by
  subst hl
  have hb : Below w.heap.size w ((((w.alloc o).drewN n).setCell ⟨w.heap.size, 1, none⟩ u).setCell ⟨w.heap.size, 3, none⟩ v) :=
    ((below_drewN ((Below.refl _ _).alloc (Nat.le_refl _) _) n).setCell (p := ⟨w.heap.size, 1, none⟩) (Nat.le_refl _) _).setCell (p := ⟨w.heap.size, 3, none⟩) (Nat.le_refl _) _
  generalize (((w.alloc o).drewN n).setCell ⟨w.heap.size, 1, none⟩ u).setCell ⟨w.heap.size, 3, none⟩ v = w1 at hb ⊢
  have h2 := (h.below hb).set4 hi a b c d
  have h3 := grown_set4 (below_grown hb (some p)) i (.bool a) (.bool b) (.int .i64 c) (.int .i64 d)
  exact ⟨h2.drew_, grown_drew h3⟩
theorem fin3_ {w : World} {p : Nat} {r f e : Int} {L : Int → RS} (h : RefAt w p r f e L) (i : Nat) (hi : i < 64) (o : Obj) (n : Nat) (u v : Value) (m : Nat) (a b : Bool) (c d : Int) (l : RS) (hl : l = (a, b, c, d)) :
    RefAt ((((((((((w.alloc o).drewN n).setCell ⟨w.heap.size, 1, none⟩ u).setCell ⟨w.heap.size, 3, none⟩ v).drewN m).setCell ⟨p, 3 + i * 4, none⟩ (.bool a)).setCell ⟨p, 3 + i * 4 + 1, none⟩ (.bool b)).setCell ⟨p, 3 + i * 4 + 2, none⟩ (.int .i64 c)).setCell ⟨p, 3 + i * 4 + 3, none⟩ (.int .i64 d))) p r f e (rupd L i l) ∧
      w.grownBy ((((((((((w.alloc o).drewN n).setCell ⟨w.heap.size, 1, none⟩ u).setCell ⟨w.heap.size, 3, none⟩ v).drewN m).setCell ⟨p, 3 + i * 4, none⟩ (.bool a)).setCell ⟨p, 3 + i * 4 + 1, none⟩ (.bool b)).setCell ⟨p, 3 + i * 4 + 2, none⟩ (.int .i64 c)).setCell ⟨p, 3 + i * 4 + 3, none⟩ (.int .i64 d))) (some p) := by
  subst hl
  have hb : Below w.heap.size w (((((w.alloc o).drewN n).setCell ⟨w.heap.size, 1, none⟩ u).setCell ⟨w.heap.size, 3, none⟩ v).drewN m) :=
    below_drewN (((below_drewN ((Below.refl _ _).alloc (Nat.le_refl _) _) n).setCell (p := ⟨w.heap.size, 1, none⟩) (Nat.le_refl _) _).setCell (p := ⟨w.heap.size, 3, none⟩) (Nat.le_refl _) _) m
  generalize ((((w.alloc o).drewN n).setCell ⟨w.heap.size, 1, none⟩ u).setCell ⟨w.heap.size, 3, none⟩ v).drewN m = w1 at hb ⊢
  exact ⟨(h.below hb).set4 hi _ _ _ _, grown_set4 (below_grown hb (some p)) _ _ _ _ _⟩
def RTold (w : World) (p : Nat) (r f e : Int) (L : Int → RS) (i : Nat) (now : Int) (ok : Bool) (x : Ending) (w' : World) : Prop :=
  x = .returned (.int .i64 (rtV r f (L i) ok)) ∧ RefAt w' p r f e (rupd L i (rtL r f (L i) now ok)) ∧ w.grownBy w' (some p)
set_option maxRecDepth 100000 in
set_option maxHeartbeats 4000000 in
theorem rtold_at {w : World} {p : Nat} {r f e : Int} {L : Int → RS} (h : RefAt w p r f e L) (i : Nat) (hi : i < 64) (now : Int) (ok : Bool) (hd : 0 ≤ (L i).2.2.2 ∧ (L i).2.2.2 ≤ 1000000) (hr : 1 ≤ r) (hf : 1 ≤ f) :
    Calls Try.prog 18 #[.pointer (some ⟨p, 0, none⟩), .int .i64 i, .int .i64 now, .bool ok] w (RTold w p r f e L i now ok) := by
  have IS := ris_any i
  rw [show isSl (i : Int) = true from by unfold isSl; simp; omega] at IS
  have H := hid IS
  have HR := hid h
  obtain ⟨h1, h2, h3, h4, h5, h6⟩ := h
  obtain ⟨c0, c1, c2, c3⟩ := h6 i hi
  have i0 : (0 : Int) ≤ i := by omega
  have i1 : (i : Int) < 64 := by omega
  obtain ⟨d1, d2⟩ := hd
  clear IS h6
  obtain ⟨l, hl⟩ : ∃ l, l = L i := ⟨_, rfl⟩
  rw [← hl] at c0 c1 c2 c3 d1 d2
  have HL := hid hl
  clear hl
  obtain ⟨a, b, c, d⟩ := l
  simp only at *
  have x1 : decide (r ≤ 0) = false := by simp; omega
  have x2 : decide (f ≤ 0) = false := by simp; omega
  cases ok <;> cases b
  · go_enter Try.func18, Try.ntmps18
    go_wp2_with fail
    refine (H.out _).mono ?_
    rintro x w' ⟨rfl, rfl⟩
    go_wp2_with fail
    go_quiet (fail)
    go_wp2_with fail
    go_quiet (fail)
    go_wp2_with fail
    go_region
    go_wp2_with fail
    go_ret
    unfold RTold
    rw [← HL.out]
    have F := fin_ HR.out i hi
    refine ⟨?_, ?_⟩
    · unfold rtV rtRow; simp [x1, x2]
    · with_reducible refine F _ _ _ _ _ _ _  ?_
      unfold rtL rtV rtRow; simp [x1, x2]
  · cases y : decide (f ≤ d + 1)
    · go_enter Try.func18, Try.ntmps18
      go_wp2_with fail
      refine (H.out _).mono ?_
      rintro x w' ⟨rfl, rfl⟩
      go_wp2_with fail
      go_quiet (fail)
      go_wp2_with fail
      go_quiet (fail)
      go_wp2_with fail
      go_region
      go_wp2_with fail
      go_ret
      unfold RTold
      rw [← HL.out]
      have F := fin_ HR.out i hi
      refine ⟨?_, ?_⟩
      · unfold rtV rtRow; simp [y]
      · with_reducible refine F _ _ _ _ _ _ _  ?_
        unfold rtL rtV rtRow; simp [y]
    · go_enter Try.func18, Try.ntmps18
      go_wp2_with fail
      refine (H.out _).mono ?_
      rintro x w' ⟨rfl, rfl⟩
      go_wp2_with fail
      go_quiet (fail)
      go_wp2_with fail
      go_quiet (fail)
      go_wp2_with fail
      go_region
      go_wp2_with fail
      go_ret
      unfold RTold
      rw [← HL.out]
      have F := fin2_ HR.out i hi
      refine ⟨?_, ?_⟩
      · unfold rtV rtRow; simp [y]
      · with_reducible refine F _ _ _ _ _ _ _ _ _  ?_
        unfold rtL rtV rtRow; simp [y]
  · cases y : decide (r ≤ d + 1)
    · go_enter Try.func18, Try.ntmps18
      go_wp2_with fail
      refine (H.out _).mono ?_
      rintro x w' ⟨rfl, rfl⟩
      go_wp2_with fail
      go_quiet (fail)
      go_wp2_with fail
      go_quiet (fail)
      go_wp2_with fail
      go_region
      go_wp2_with fail
      go_ret
      unfold RTold
      rw [← HL.out]
      have F := fin_ HR.out i hi
      refine ⟨?_, ?_⟩
      · unfold rtV rtRow; simp [y]
      · with_reducible refine F _ _ _ _ _ _ _  ?_
        unfold rtL rtV rtRow; simp [y]
    · go_enter Try.func18, Try.ntmps18
      go_wp2_with fail
      refine (H.out _).mono ?_
      rintro x w' ⟨rfl, rfl⟩
      go_wp2_with fail
      go_quiet (fail)
      go_wp2_with fail
      go_quiet (fail)
      go_wp2_with fail
      go_region
      go_wp2_with fail
      go_ret
      unfold RTold
      rw [← HL.out]
      have F := fin3_ HR.out i hi
      refine ⟨?_, ?_⟩
      · unfold rtV rtRow; simp [y]
      · with_reducible refine F _ _ _ _ _ _ _ _ _ _ ?_
        unfold rtL rtV rtRow; simp [y]
  · go_enter Try.func18, Try.ntmps18
    go_wp2_with fail
    refine (H.out _).mono ?_
    rintro x w' ⟨rfl, rfl⟩
    go_wp2_with fail
    go_quiet (fail)
    go_wp2_with fail
    go_quiet (fail)
    go_wp2_with fail
    go_region
    go_wp2_with fail
    go_ret
    unfold RTold
    rw [← HL.out]
    have F := fin_ HR.out i hi
    refine ⟨?_, ?_⟩
    · unfold rtV rtRow; simp [x1, x2]
    · with_reducible refine F _ _ _ _ _ _ _  ?_
      unfold rtL rtV rtRow; simp [x1, x2]
set_option maxRecDepth 100000 in
set_option maxHeartbeats 4000000 in
theorem rdrop_at {w : World} {p : Nat} {r f e : Int} {L : Int → RS} (h : RefAt w p r f e L) (i : Nat) (hi : i < 64) :
    Calls Try.prog 24 #[.pointer (some ⟨p, 0, none⟩), .int .i64 i] w fun x w' => x = .returned (.bool (L i).1) ∧ RefAt w' p r f e (if (L i).1 = true then rupd L i zRS else L) ∧ w.grownBy w' (some p) := by
  have IS := ris_any i
  rw [show isSl (i : Int) = true from by unfold isSl; simp; omega] at IS
  have H := hid IS
  have HR := hid h
  obtain ⟨h1, h2, h3, h4, h5, h6⟩ := h
  obtain ⟨c0, c1, c2, c3⟩ := h6 i hi
  have i0 : (0 : Int) ≤ i := by omega
  have i1 : (i : Int) < 64 := by omega
  clear IS h6
  generalize L i = l at *
  obtain ⟨a, b, c, d⟩ := l
  simp only at *
  have hz : ∀ w : World, (zeroValue 48).run Try.prog w = .ok (.agg #[.bool false, .bool false, .int .i64 0, .int .i64 0]) w := fun w => by kernel_rfl
  cases a
  · go_enter Try.func24, Try.ntmps24
    go_wp2_with fail
    refine (H.out _).mono ?_
    rintro x w' ⟨rfl, rfl⟩
    go_wp2_with fail
    go_ret
    exact ⟨rfl, by simpa using HR.out, World.grownBy.refl _ _⟩
  · go_enter Try.func24, Try.ntmps24
    go_wp2_with fail
    refine (H.out _).mono ?_
    rintro x w' ⟨rfl, rfl⟩
    go_wp2_with fail
    go_ret
    refine ⟨rfl, ?_, grown_set4 (World.grownBy.refl _ _) _ _ _ _ _⟩
    exact HR.out.set4 hi false false 0 0
end Go.Proofs.Ytcbnebabeekegaa
