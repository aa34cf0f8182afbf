/- What a body's sum is of; is a packet whole? -/
import Derived.Test.YtjljaecjnpmdoaaWirChg
import Derived.ArgAppend
import Derived.BigQuiet
import Derived.Deep.RegionHeld3
import Derived.Deep.Cut
namespace Go.Proofs.Ytjljaecjnpmdoaa
set_option linter.unusedVariables false
set_option linter.unusedSimpArgs false
open Go.RowKit Go.ChangeShapes Go.WideShapes Go.ChangeAt

theorem run_full {w : World} (A1 : Option Addr) (k : Nat) (f1 : Nat → Int) (hr1 : By w A1 k f1) (hk : 0 < k) (A : Option Addr) (m c : Nat) (f2 : Nat → Int) (hr : By w A m f2) (hm : 0 < m) (hsz : k + m ≤ 1000000) (ty : TypeId) :
    ∃ A' c' w', (Builtin.append_ #[23, 23] ty #[.slice A1 k k, .slice A m c]).run Try.prog w = .ok (.slice A' (k + m) c') w' ∧ OB w' w.heap.size (.slice A' (k + m) c') (k + m) (fun j => if j < k then f1 j else f2 (j - k)) ∧ w.grownBy w' none := by
  obtain ⟨i0, hi, hz0, hz1, hz2⟩ := info_parts info_u8
  obtain ⟨b1, o1, rfl, hl1, hc1⟩ := hr1 hk
  obtain ⟨b2, o2, rfl, hl2, hc2⟩ := hr hm
  have cells : ∀ (b o q : Nat) (f : Nat → Int), (∀ j, j < q → w.cell? ⟨b, o + j, none⟩ = some (.int .u8 (f j))) → ∀ j u, ((List.range q).map (fun j => Value.int .u8 (f j)))[j]? = some u → w.cell? ((⟨b, o, none⟩ : Addr).add j) = some u := by
    intro b o q f hc j u hu
    rcases Nat.lt_or_ge j q with hj | hj
    · simp [hj] at hu
      subst hu
      rw [add_plain]
      exact hc j hj
    · simp [Nat.not_lt.2 hj] at hu
  obtain ⟨v', w', hrun, h2, h3⟩ := run_append_arg_grows (P := Try.prog) w 23 ty 5 i0 (.int .u8 0) 1 1 Try.underlying23 hi hz0 hz1 hz2 rfl (by decide) ⟨b1, o1, none⟩ k k
    ((List.range k).map (fun j => Value.int .u8 (f1 j))) (by simp) (cells b1 o1 k f1 hc1) ⟨b2, o2, none⟩ m c ((List.range m).map (fun j => Value.int .u8 (f2 j))) (by simp) (cells b2 o2 m f2 hc2) (by omega) (by simp only [maxLen]; omega) (by omega)
  have h4 : Ow w' w.heap.size 5 1 v' (k + m) (fun j => .int .u8 (if j < k then f1 j else f2 (j - k))) := by
    unfold Ow
    rw [Nat.mul_one]
    have e := range_two (k * 1) (m * 1) (fun j => Value.int .u8 (f1 j)) (fun j => Value.int .u8 (f2 j))
    rw [Nat.mul_one, Nat.mul_one] at e
    rw [e] at h2
    have e2 : two k (fun j => Value.int .u8 (f1 j)) (fun j => Value.int .u8 (f2 j)) = (fun j => .int .u8 (if j < k then f1 j else f2 (j - k))) := by funext j; unfold two; split <;> rfl
    rw [e2] at h2
    exact h2
  obtain ⟨A', c', rfl, _, _, _⟩ := h4.form_
  exact ⟨A', c', w', hrun, h4, h3⟩
theorem wpo_full {w : World} {o : Oper} {a : Act} {K : Act → World → Prop} {Q : Exit → Act → World → Prop} (s x : Operand) (ho : o.op = .call { callee := .builtin .append, args := #[s, x], argTypes := #[23, 23] })
    (A1 : Option Addr) (k : Nat) (f1 : Nat → Int) (hs : a.eval s = .slice A1 k k) (hr1 : By w A1 k f1) (hk : 0 < k) (A : Option Addr) (m c : Nat) (f2 : Nat → Int) (hx : a.eval x = .slice A m c) (hr : By w A m f2) (hm : 0 < m) (hsz : k + m ≤ 1000000)
    (h : ∀ A' c' w', OB w' w.heap.size (.slice A' (k + m) c') (k + m) (fun j => if j < k then f1 j else f2 (j - k)) → w.grownBy w' none → K (a.put o.dst (.slice A' (k + m) c')) w') : Oper.wp Try.prog o a w K Q := by
  obtain ⟨A', c', w', hrun, h4, h3⟩ := run_full A1 k f1 hr1 hk A m c f2 hr hm hsz o.type
  unfold Oper.wp execOp
  simp only [ho, resolve, invoke, builtin, Sem.run_bind, Sem.run_pure, Result.andThen_ok, List.map_toArray, List.map_cons, List.map_nil, hs, hx, hrun]
  exact h A' c' w' h4 h3
theorem below_of_none {w w' : World} (h : w.grownBy w' none) : Below w.heap.size w w' := ⟨h.os, h.tape, h.output, h.size, fun k hk => h.block k hk (by simp)⟩
theorem by_row {w : World} {b : Nat} {x0 x1 x2 x3 : Int} (h : Ce w b [.int .u8 x0, .int .u8 x1, .int .u8 x2, .int .u8 x3]) : By w (some ⟨b, 0, none⟩) 4 (fun j => if j = 0 then x0 else if j = 1 then x1 else if j = 2 then x2 else x3) := by
  intro _
  refine ⟨b, 0, rfl, h.1, fun j hj => ?_⟩
  rw [Nat.zero_add]
  match j, hj with
  | 0, _ => exact h.2.1 0 _ rfl
  | 1, _ => exact h.2.1 1 _ rfl
  | 2, _ => exact h.2.1 2 _ rfl
  | 3, _ => exact h.2.1 3 _ rfl
def Sumd (w : World) (g : Nat → Int) (n : Nat) (e : Ending) (w' : World) : Prop := ∃ A' c', e = .returned (.slice A' (sumN g n) c') ∧ By w' A' (sumN g n) (sumF g n) ∧ Below w.heap.size w w'
set_option maxHeartbeats 4000000 in
theorem summed_any (A : Option Addr) (n c : Nat) (g : Nat → Int) (w : World) (h : By w A n g) (hg : IsB g) (hn : 24 ≤ n) (hc : n ≤ c) (hb : n ≤ 1500) :
    Calls Try.prog 39 #[.slice A n c] w (Sumd w g n) := by
  have HB := hid h
  have HG := hid hg
  obtain ⟨b, off, rfl, hblt, hcell⟩ := h (by omega)
  have c0 := hcell 0 (by omega)
  rw [Nat.add_zero] at c0
  have i0 : (0 : Int) < n := by omega
  have vn : IntKind.i64.wrap ((n : Int) - 16) = (n : Int) - 16 := IntWalk.i64_in _ (by omega)
  clear hcell h hg
  have HC := hid (Ce.made (w := w) (l := [.int .u8 0, .int .u8 (g 0), .int .u8 (((n : Int) - 16) / 256), .int .u8 (((n : Int) - 16) % 256)]) (T := 78) (g := w.heap.size) rfl)
  have HB1 := hid (HB.out.below ((Below.refl w.heap.size w).alloc (Nat.le_refl _) (.cells #[.int .u8 0, .int .u8 (g 0), .int .u8 (((n : Int) - 16) / 256), .int .u8 (((n : Int) - 16) % 256)] 78)) (Nat.le_refl _))
  have HW1 := hid ((Below.refl w.heap.size w).alloc (Nat.le_refl _) (.cells #[.int .u8 0, .int .u8 (g 0), .int .u8 (((n : Int) - 16) / 256), .int .u8 (((n : Int) - 16) % 256)] 78))
  simp only [List.toArray] at HC
  have HR := hid (by_row HC.out)
  have lW := HC.out.1
  have hE : Hid ((fun j => if j = 0 then (0 : Int) else if j = 1 then g 0 else if j = 2 then ((n : Int) - 16) / 256 else ((n : Int) - 16) % 256) = endF g n) := hid (by funext j; unfold endF; rw [by8_0, by8_1, show ((n : Int) - 16) / 256 % 256 = ((n : Int) - 16) / 256 from by omega])
  rw [hE.out] at HR
  clear hE HC
  have hal : Try.prog.arrayLen 78 = 4 := by kernel_rfl
  cases b3 : (g 0 == 3)
  · have k3 : ¬ g 0 = 3 := by simpa using b3
    have HN : Hid (sumN g n = 12 + (n - 16)) := hid (by unfold sumN; rw [if_neg k3]; omega)
    have HF : Hid (sumF g n = fun j => if j < 12 then (if j < 8 then g (4 + j) else endF g n (j - 8)) else g (16 + (j - 12))) := hid (by
      funext j; unfold sumF; rw [if_neg k3]
      by_cases h1 : j < 8
      · rw [if_pos h1, if_pos (by omega), if_pos h1]
      · rw [if_neg h1]
        by_cases h2 : j < 12
        · rw [if_pos h2, if_pos h2, if_neg h1]
        · rw [if_neg h2, if_neg h2, show 16 + (j - 12) = 4 + j from by omega])
    obtain ⟨A9, r1, r2⟩ := cut_from_b (some ⟨b, off, none⟩) n c 16 (by omega) hc 16 rfl
    replace r2 := hid r2
    have hk : ¬ c = 4 := by omega
    have hsl : ∀ W, (Instr.slice 23 (.slice (some ⟨b, off, none⟩) n c) (some (.int .i64 4)) (some (.int .i64 12)) (some (.int .i64 12))).run Try.prog W = .ok (.slice (some ⟨b, off + 4, none⟩) 8 8) W := fun W => by
      rw [run_slice_lhm W 23 _ n c elem_b .i64 .i64 .i64 _ _ _ (by omega) (by omega) (by omega) (by omega), size_b W]
      simp [Result.andThen, sliced, Addr.add]
    have HS8 := hid (fun (W : World) (hW : By W (some ⟨b, off, none⟩) n g) => (show By W (some ⟨b, off + 4, none⟩) 8 (fun j => g (4 + j)) from Sl.cut hW 8 (by omega)))
    clear k3
    go_enter Try.func39, Try.ntmps39
    go_upto_region 5 with (fail)
    generalize (w.alloc (.cells #[.int .u8 0, .int .u8 (g 0), .int .u8 (((n : Int) - 16) / 256), .int .u8 (((n : Int) - 16) % 256)] 78)) = w1 at *
    have hwz : w.heap.size ≤ w1.heap.size := HW1.out.size
    refine wp_region_held_drew (S := fun w' => By w' (some ⟨b, off, none⟩) n g) (by kernel_rfl) ?_ (fun hHeld => ?_)
    · exact HB1.out.drew
    refine tk 0 (v := ?_) rfl (by kernel_rfl) (by kernel_rfl) (by kernel_rfl) (fun _ _ _ h => h) rfl ?_ hHeld ?_; rotate_left; (focus (intro w hSw; (try dsimp only at hSw); go_simp; (try with_reducible rfl))); (try simp only [Act.put, List.setIfInBounds_toArray, List.set_cons_zero, List.set_cons_succ])
    refine tk 1 (v := ?_) rfl (by kernel_rfl) (by kernel_rfl) (by kernel_rfl) (fun _ _ _ h => h) rfl ?_ hHeld ?_; rotate_left; (focus (intro w hSw; (try dsimp only at hSw); go_simp; (try with_reducible rfl))); (try simp only [Act.put, List.setIfInBounds_toArray, List.set_cons_zero, List.set_cons_succ])
    refine tk 2 (v := ?_) rfl (by kernel_rfl) (by kernel_rfl) (by kernel_rfl) (fun _ _ _ h => h) rfl ?_ hHeld ?_; rotate_left; (focus (intro w hSw; (try dsimp only at hSw); go_simp; (try with_reducible rfl))); (try simp only [Act.put, List.setIfInBounds_toArray, List.set_cons_zero, List.set_cons_succ])
    refine only 3 rfl (by kernel_rfl) rfl (fun K hK => ?_)
    refine wpo_full (.tmp 27) (.tmp 28) rfl _ 8 _ rfl (HS8.out _ hHeld) (by omega) _ 4 _ (endF g n) rfl HR.out.drew (by omega) (by omega) ?_
    intro A2 c2 w2 O2 g2
    refine hK.out _ _ (Sl.below hHeld (below_of_none g2) (Nat.le_refl _)) (fun _ => ?_)
    have HB2 := hid (Sl.below hHeld (below_of_none g2) (Nat.le_refl _))
    have HW2 := hid (HW1.out.trans ((show Below w1.heap.size w1 w2 from below_of_none (grown_drew g2)).mono hwz))
    have HO2 := hid O2
    have hz2 : w1.heap.size ≤ w2.heap.size := (show Below w1.heap.size w1 w2 from below_of_none (grown_drew g2)).size
    clear hK O2 g2 hHeld HB1 HW1
    try simp only [Act.put, List.setIfInBounds_toArray, List.set_cons_zero, List.set_cons_succ]
    refine tk 4 (v := ?_) rfl (by kernel_rfl) (by kernel_rfl) (by kernel_rfl) (fun _ _ _ h => h) rfl ?_ (by assumption) ?_; rotate_left; (focus (intro w hSw; (try dsimp only at hSw); go_simp; (try with_reducible rfl))); (try simp only [Act.put, List.setIfInBounds_toArray, List.set_cons_zero, List.set_cons_succ])
    refine wpAnyH_done (by kernel_rfl) ?_ _
    go_wp2_with (at_builtin; refine wp_app_b rfl (.tmp 30) (.tmp 32) rfl w1.heap.size _ 12 _ rfl HO2.out _ (n - 16) _ (fun j => g (16 + j)) rfl (r2.out _ g HB2.out) (by omega) (by simpa using hz2) ?_; intro A3 c3 w3 h1 h2 h3 h4 h5 h6; have O3 := hid h1; have B3 := hid h4; clear h1 h2 h3 h4 h5 h6)
    go_ret
    refine ⟨A3, c3, by rw [HN.out]; rfl, ?_, HW2.out.trans (B3.out.mono hwz)⟩
    rw [HN.out, HF.out]
    exact O3.out.sl1
  · have k3 : g 0 = 3 := by simpa using b3
    have HN : Hid (sumN g n = 4 + (n - 16)) := hid (by unfold sumN; rw [if_pos k3]; omega)
    have HF : Hid (sumF g n = fun j => if j < 4 then endF g n j else g (16 + (j - 4))) := hid (by
      funext j; unfold sumF; rw [if_pos k3]
      by_cases h1 : j < 4
      · rw [if_pos h1, if_pos h1]
      · rw [if_neg h1, if_neg h1, show 16 + (j - 4) = 12 + j from by omega])
    obtain ⟨A9, r1, r2⟩ := cut_from_b (some ⟨b, off, none⟩) n c 16 (by omega) hc 16 rfl
    replace r2 := hid r2
    clear k3
    go_enter Try.func39, Try.ntmps39
    go_upto_region 4 with (fail)
    generalize (w.alloc (.cells #[.int .u8 0, .int .u8 (g 0), .int .u8 (((n : Int) - 16) / 256), .int .u8 (((n : Int) - 16) % 256)] 78)) = w1 at *
    have hwz : w.heap.size ≤ w1.heap.size := HW1.out.size
    refine wp_region_held_drew (S := fun w' => By w' (some ⟨b, off, none⟩) n g) (by kernel_rfl) ?_ (fun hHeld => ?_)
    · exact HB1.out.drew
    refine tk 0 (v := ?_) rfl (by kernel_rfl) (by kernel_rfl) (by kernel_rfl) (fun _ _ _ h => h) rfl ?_ hHeld ?_; rotate_left; (focus (intro w hSw; (try dsimp only at hSw); go_simp; (try with_reducible rfl))); (try simp only [Act.put, List.setIfInBounds_toArray, List.set_cons_zero, List.set_cons_succ])
    refine tk 1 (v := ?_) rfl (by kernel_rfl) (by kernel_rfl) (by kernel_rfl) (fun _ _ _ h => h) rfl ?_ hHeld ?_; rotate_left; (focus (intro w hSw; (try dsimp only at hSw); go_simp; (try with_reducible rfl))); (try simp only [Act.put, List.setIfInBounds_toArray, List.set_cons_zero, List.set_cons_succ])
    refine tk 2 (v := ?_) rfl (by kernel_rfl) (by kernel_rfl) (by kernel_rfl) (fun _ _ _ h => h) rfl ?_ hHeld ?_; rotate_left; (focus (intro w hSw; (try dsimp only at hSw); go_simp; (try with_reducible rfl))); (try simp only [Act.put, List.setIfInBounds_toArray, List.set_cons_zero, List.set_cons_succ])
    refine only 3 rfl (by kernel_rfl) rfl (fun K hK => ?_)
    refine wpo_full (.tmp 22) (.tmp 24) rfl _ 4 _ rfl HR.out.drew (by omega) _ (n - 16) _ (fun j => g (16 + j)) rfl (r2.out _ g hHeld) (by omega) (by omega) ?_
    intro A2 c2 w2 O2 g2
    refine hK.out _ _ (Sl.below hHeld (below_of_none g2) (Nat.le_refl _)) (fun _ => ?_)
    have HW2 := hid (HW1.out.trans ((show Below w1.heap.size w1 w2 from below_of_none (grown_drew g2)).mono hwz))
    have HO2 := hid O2
    clear hK O2 g2 hHeld HB1 HW1
    try simp only [Act.put, List.setIfInBounds_toArray, List.set_cons_zero, List.set_cons_succ]
    refine tk 4 (v := ?_) rfl (by kernel_rfl) (by kernel_rfl) (by kernel_rfl) (fun _ _ _ h => h) rfl ?_ (by assumption) ?_; rotate_left; (focus (intro w hSw; (try dsimp only at hSw); go_simp; (try with_reducible rfl))); (try simp only [Act.put, List.setIfInBounds_toArray, List.set_cons_zero, List.set_cons_succ])
    refine wpAnyH_done (by kernel_rfl) ?_ _
    go_wp2_with fail
    go_ret
    refine ⟨A2, c2, by rw [HN.out]; rfl, ?_, HW2.out⟩
    rw [HN.out, HF.out]
    exact HO2.out.sl1
theorem row4 {w : World} {g : Nat → Int} {n : Nat} (hb : n ≤ 1500) (hn : 16 ≤ n) : OB (w.alloc (.cells #[.int .u8 0, .int .u8 (g 0), .int .u8 (((n : Int) - 16) / 256), .int .u8 (((n : Int) - 16) % 256)] 5)) w.heap.size (.slice (some ⟨w.heap.size, 0, none⟩) 4 4) 4 (endF g n) := by
  refine OB.of_cells (Nat.le_refl _) (by simp only [maxLen]; omega) ?_
  rw [heap_alloc_new]
  have e : ((List.range 4).map (fun j => Value.int .u8 (endF g n j))) = [.int .u8 0, .int .u8 (g 0), .int .u8 (((n : Int) - 16) / 256), .int .u8 (((n : Int) - 16) % 256)] := by
    show [Value.int .u8 (endF g n 0), .int .u8 (endF g n 1), .int .u8 (endF g n 2), .int .u8 (endF g n 3)] = _
    simp only [endF, by8_0, by8_1, show ((n : Int) - 16) / 256 % 256 = ((n : Int) - 16) / 256 from by omega, if_true, if_neg (show ¬ (1 : Nat) = 0 from by omega), if_neg (show ¬ (2 : Nat) = 0 from by omega), if_neg (show ¬ (2 : Nat) = 1 from by omega), if_neg (show ¬ (3 : Nat) = 0 from by omega), if_neg (show ¬ (3 : Nat) = 1 from by omega), if_neg (show ¬ (3 : Nat) = 2 from by omega)]
  rw [e]
set_option maxHeartbeats 4000000 in
theorem rsummed_any (A : Option Addr) (n c : Nat) (g : Nat → Int) (w : World) (h : By w A n g) (hg : IsB g) (hn : 24 ≤ n) (hc : n ≤ c) (hb : n ≤ 1500) :
    Calls Try.prog 43 #[.slice A n c] w (Sumd w g n) := by
  have HB := hid h
  have HG := hid hg
  obtain ⟨b, off, rfl, hblt, hcell⟩ := h (by omega)
  have c0 := hcell 0 (by omega)
  rw [Nat.add_zero] at c0
  have i0 : (0 : Int) < n := by omega
  have vn : IntKind.i64.wrap ((n : Int) - 16) = (n : Int) - 16 := IntWalk.i64_in _ (by omega)
  clear hcell h hg
  have HR := hid (row4 (w := w) (g := g) hb (by omega))
  have HB1 := hid (HB.out.below ((Below.refl w.heap.size w).alloc (Nat.le_refl _) (.cells #[.int .u8 0, .int .u8 (g 0), .int .u8 (((n : Int) - 16) / 256), .int .u8 (((n : Int) - 16) % 256)] 5)) (Nat.le_refl _))
  have HW1 := hid ((Below.refl w.heap.size w).alloc (Nat.le_refl _) (.cells #[.int .u8 0, .int .u8 (g 0), .int .u8 (((n : Int) - 16) / 256), .int .u8 (((n : Int) - 16) % 256)] 5))
  obtain ⟨A9, r1, r2⟩ := cut_from_b (some ⟨b, off, none⟩) n c 16 (by omega) hc 16 rfl
  replace r2 := hid r2
  cases b3 : (g 0 != 3)
  · have k3 : g 0 = 3 := by simpa using b3
    have HN : Hid (sumN g n = 4 + (n - 16)) := hid (by unfold sumN; rw [if_pos k3]; omega)
    have HF : Hid (sumF g n = fun j => if j < 4 then endF g n j else g (16 + (j - 4))) := hid (by
      funext j; unfold sumF; rw [if_pos k3]
      by_cases h1 : j < 4
      · rw [if_pos h1, if_pos h1]
      · rw [if_neg h1, if_neg h1, show 16 + (j - 4) = 12 + j from by omega])
    clear k3
    go_enter Try.func43, Try.ntmps43
    go_upto_region 5 with (fail)
    generalize (w.alloc (.cells #[.int .u8 0, .int .u8 (g 0), .int .u8 (((n : Int) - 16) / 256), .int .u8 (((n : Int) - 16) % 256)] 5)) = w1 at *
    go_wp2_with (at_builtin; refine wp_app_b rfl (.tmp 27) (.tmp 29) rfl w.heap.size _ 4 _ rfl HR.out _ (n - 16) _ (fun j => g (16 + j)) rfl (r2.out _ g HB1.out) (by omega) HW1.out.size ?_; intro A3 c3 w3 h1 h2 h3 h4 h5 h6; have O3 := hid h1; have B3 := hid (HW1.out.trans h4); clear h1 h2 h3 h4 h5 h6)
    go_ret
    refine ⟨A3, c3, by rw [HN.out]; rfl, ?_, B3.out⟩
    rw [HN.out, HF.out]
    exact O3.out.sl1
  · have k3 : ¬ g 0 = 3 := by simpa using b3
    have HN : Hid (sumN g n = 12 + (n - 16)) := hid (by unfold sumN; rw [if_neg k3]; omega)
    have HF : Hid (sumF g n = fun j => if j < 12 then (if j < 8 then g (4 + j) else endF g n (j - 8)) else g (16 + (j - 12))) := hid (by
      funext j; unfold sumF; rw [if_neg k3]
      by_cases h1 : j < 8
      · rw [if_pos h1, if_pos (by omega), if_pos h1]
      · rw [if_neg h1]
        by_cases h2 : j < 12
        · rw [if_pos h2, if_pos h2, if_neg h1]
        · rw [if_neg h2, if_neg h2, show 16 + (j - 12) = 4 + j from by omega])
    obtain ⟨A8, s1, s2⟩ := cut_mid_b (some ⟨b, off, none⟩) n c 4 12 (by omega) (by omega) hc 4 12 rfl rfl
    replace s2 := hid s2
    clear k3
    go_enter Try.func43, Try.ntmps43
    go_upto_region 4 with (fail)
    generalize (w.alloc (.cells #[.int .u8 0, .int .u8 (g 0), .int .u8 (((n : Int) - 16) / 256), .int .u8 (((n : Int) - 16) % 256)] 5)) = w1 at *
    go_wp2_with (first
      | (at_builtin; refine wp_app_b0 rfl (.tmp 21) (.tmp 23) rfl w1.heap.size _ rfl (fun f => Ow.new' (w := w1) rfl) _ 8 _ (fun j => g (4 + j)) rfl (Sl.alloc (s2.out _ g HB1.out) _) (by omega) (by simp) ?_; intro A2 c2 w2 h1 h2 h3 h4 h5 h6; have O2 := hid h1; have B2 := hid (Below.trans ((Below.refl w1.heap.size w1).alloc (Nat.le_refl _) (.cells #[] 5)) h4); clear h1 h2 h3 h4 h5 h6)
      | (at_builtin; refine wp_app_b rfl (.tmp 24) (.tmp 25) rfl w1.heap.size _ 8 _ rfl O2.out _ 4 _ (endF g n) rfl (Sl.below HR.out.sl1 B2.out (Nat.le_refl _)) (by omega) B2.out.size ?_; intro A4 c4 w4 h1 h2 h3 h4 h5 h6; have O4 := hid h1; have B4 := hid (B2.out.trans h4); clear h1 h2 h3 h4 h5 h6)
      | (at_builtin; refine wp_app_b rfl (.tmp 27) (.tmp 29) rfl w1.heap.size _ 12 _ rfl O4.out _ (n - 16) _ (fun j => g (16 + j)) rfl (r2.out _ g (Sl.below HB1.out B4.out (Nat.le_refl _))) (by omega) B4.out.size ?_; intro A3 c3 w3 h1 h2 h3 h4 h5 h6; have O3 := hid h1; have B3 := hid (B4.out.trans h4); clear h1 h2 h3 h4 h5 h6))
    go_ret
    refine ⟨A3, c3, by rw [HN.out]; rfl, ?_, HW1.out.trans (B3.out.mono HW1.out.size)⟩
    rw [HN.out, HF.out]
    exact O3.out.sl1
theorem parseR_bare {g : Nat → Int} {n : Nat} (h : parseE g n = 0) : (parseR g n).bare = bareF g := by
  unfold parseR
  rw [if_pos h]
  unfold parseP bareF
  split
  · rename_i k; rw [k]; rfl
  · split
    · rename_i k; rw [k]; rfl
    · rename_i k; rw [show (g 0 == 2) = false from by simpa using k]; rfl
set_option maxHeartbeats 4000000 in
theorem whole_any (A : Option Addr) (n c : Nat) (g : Nat → Int) (w : World) (h : By w A n g) (hg : IsB g) (hc : n ≤ c) (hb : n ≤ 1000000) :
    Calls Try.prog 21 #[.slice A n c] w fun e w' => e = .returned (.bool (wholeB g n)) ∧ Below w.heap.size w w' := by
  have HP := hid (parse_any A n c g w h hg hc hb)
  have HBY := hid (fun (W : World) (hw : Below w.heap.size w W) => Sl.below h hw (Nat.le_refl _))
  have HG := hid hg
  clear h hg
  obtain ⟨z, hz⟩ : ∃ z, z = parseE g n := ⟨_, rfl⟩
  have HZ := hid hz
  cases hz0 : (z != 0)
  · have z0 : parseE g n = 0 := by rw [← hz]; simpa using hz0
    have pf := parse_facts z0
    have n24 := pf.1
    have n15 := pf.2.1
    have HW : Hid (wholeB g n = (bareF g || norm (tot (sumF g n) (sumN g n)) == 65535)) := hid (by unfold wholeB; rw [z0]; rfl)
    have HSB := hid (sumF_B HG.out n)
    have HSN : Hid (sumN g n ≤ 140737488355328) := hid (by unfold sumN; split <;> omega)
    have HBA := hid (fun W hW => isbare_any A n c g W hW HG.out (by omega) (.inr n24) hc hb)
    have HSM := hid (fun W hW => summed_any A n c g W hW HG.out n24 hc n15)
    clear pf z0 hz
    unfold wholeB at HW
    obtain ⟨bf, hbf⟩ : ∃ x, x = bareF g := ⟨_, rfl⟩
    obtain ⟨rs, hrs⟩ : ∃ x, x = (norm (tot (sumF g n) (sumN g n)) == 65535) := ⟨_, rfl⟩
    unfold Parsed at HP
    rw [← HZ.out] at HP
    generalize parseR g n = p at HP
    have HBF := hid hbf.symm
    have HRS := hid hrs.symm
    clear hbf hrs
    go_enter Try.func21, Try.ntmps21
    go_wp2_with fail
    refine HP.out.mono ?_
    rintro x w1 ⟨O, D, rfl, hO, hD, hb1⟩
    obtain ⟨AO, cO, rfl, _, _, _⟩ := hO.form_
    obtain ⟨AD, cD, rfl, _, _, _⟩ := hD.form_
    clear hO hD
    have B1 := hid hb1
    clear hb1 HP
    unfold pkV pkL
    go_simp
    cases bf
    · go_wp2_with fail
      refine (re_bool (HBA.out _ (HBY.out _ (B1.out.alloc B1.out.size _))) HBF.out).mono ?_
      rintro x w' ⟨rfl, rfl⟩
      go_wp2_with fail
      refine (HSM.out _ (HBY.out _ (B1.out.alloc B1.out.size _))).mono ?_
      rintro x w2 ⟨A2, c2, rfl, hS, hb2⟩
      have S2 := hid hS
      have B2 := hid ((B1.out.alloc B1.out.size _).trans (hb2.mono (B1.out.alloc B1.out.size _).size))
      clear hS hb2
      go_wp2_with fail
      refine (re_bool (right_any A2 _ c2 _ _ S2.out HSB.out HSN.out) HRS.out).mono ?_
      rintro x w' ⟨rfl, m, rfl⟩
      go_wp2_with fail
      go_ret
      refine ⟨ret_bool ?_, below_drewN B2.out m⟩
      unfold wholeB
      rw [HW.out, HBF.out, HRS.out]
      rfl
    · go_wp2_with fail
      refine (re_bool (HBA.out _ (HBY.out _ (B1.out.alloc B1.out.size _))) HBF.out).mono ?_
      rintro x w' ⟨rfl, rfl⟩
      go_wp2_with fail
      go_ret
      refine ⟨ret_bool ?_, B1.out.alloc B1.out.size _⟩
      unfold wholeB
      rw [HW.out, HBF.out]
      rfl
  · have HW : Hid (wholeB g n = false) := hid (by unfold wholeB; rw [← hz, show (z == 0) = false from by simpa using hz0]; rfl)
    unfold Parsed at HP
    rw [← hz] at HP
    generalize parseR g n = p at HP
    clear hz
    go_enter Try.func21, Try.ntmps21
    go_wp2_with fail
    refine HP.out.mono ?_
    rintro x w1 ⟨O, D, rfl, hO, hD, hb1⟩
    obtain ⟨AO, cO, rfl, _, _, _⟩ := hO.form_
    obtain ⟨AD, cD, rfl, _, _, _⟩ := hD.form_
    clear hO hD
    have B1 := hid hb1
    clear hb1 HP
    unfold pkV pkL
    go_simp
    go_wp2_with fail
    go_ret
    exact ⟨ret_bool HW.out.symm, B1.out.alloc B1.out.size _⟩
end Go.Proofs.Ytjljaecjnpmdoaa
