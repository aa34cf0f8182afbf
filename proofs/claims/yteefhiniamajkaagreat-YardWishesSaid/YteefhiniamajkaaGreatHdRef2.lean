/- The reference's head: Wish. -/
import Derived.Test.YteefhiniamajkaaGreatHdRef
import Derived.BigQuiet
import Derived.Deep.RegionHeld3
import Derived.Deep.Cut
import Derived.IntWalk
namespace Go.Proofs.YteefhiniamajkaaGreat
set_option linter.unusedVariables false
set_option linter.unusedSimpArgs false
open Go.RowKit Go.ChangeShapes Go.WideShapes Go.ChangeAt

theorem rall_fa (p : Pl) (g : Nat → En) (A : Option Addr) (n c : Nat) (w : World) (hA : Se w A n g) (hn : n ≤ 1000) (K : Int) (hp : Pinv p K) (hK : K ≤ 100000) : Calls Tryz.prog 58 #[.agg (FA 330 (pc p)), .slice A n c] w fun x w' => ∃ (q : Pl) (k : Nat) (er : Int), x = .returned (.tuple #[.agg (FA 330 (pc q)), .int .i64 (k : Int), .int .i64 er]) ∧ AllOut p g n q k er ∧ Below w.heap.size w w' := rall_any p g A n c w hA hn K hp hK
attribute [local irreducible] FA FL
def comb (n : Nat) (g0 g1 : Nat → En) : Nat → En := fun j => if j < n then g0 j else g1 (j - n)
section
variable {w : World} {ops : Array Oper} {rest : List Oper} {o : Oper} {a : Act} {Q : Exit → Act → World → Prop}
/-- append of a row of entries onto a row of the call's own. -/
theorem wp_app_es (hgd : o.guard = none) (s x : Operand) (ho : o.op = .call { callee := .builtin .append, args := #[s, x], argTypes := #[46, 46] })
    (base : Nat) (v : Value) (m : Nat) (G : Nat → En) (hs : a.eval s = v) (hown : OwE w base v m G)
    (A : Option Addr) (n c : Nat) (g : Nat → En) (hx : a.eval x = .slice A n c) (hr : Se w A n g) (hsz : m + n ≤ 1000000) (hbase : base ≤ w.heap.size)
    (h : ∀ A' c' w', OwE w' base (.slice A' (m + n) c') (m + n) (comb m G g) → Below base w w' → wpList Tryz.prog ops Q rest (a.put o.dst (.slice A' (m + n) c')) w') : wpList Tryz.prog ops Q (o :: rest) a w := by
  obtain ⟨i0, hi, hz0, hz1, hz2⟩ := info_parts info_e
  refine wp_app w hgd s x 46 ho base 44 i0 (.agg #[.int .i64 0, .int .i64 0, .int .i64 0, .int .i64 0, .int .i64 0, .int .u64 0, .int .u64 0]) 7 56 Tryz.underlying46 hi hz0 hz1 hz2 rfl (by decide) v m _ hs hown A n c _ hx hr (fun j _ => enc_one _ _) (by simp only [maxLen]; omega) (by omega) hbase ?_
  intro A' c' w' h1 h2 h3 h4 h5 h6
  refine h A' c' w' ?_ h4
  unfold OwE
  refine h1.as_ fun j hj => ?_
  unfold two comb
  by_cases hjm : j < m * 7
  · rw [if_pos hjm, if_pos (by omega)]
  · rw [if_neg hjm, if_neg (by omega)]
    have e1 : (j - m * 7) / 7 = j / 7 - m := by omega
    have e2 : (j - m * 7) % 7 = j % 7 := by omega
    show enc (g ((j - m * 7) / 7)) ((j - m * 7) % 7) = enc (g (j / 7 - m)) (j % 7)
    rw [e1, e2]
end
theorem run_bs0 (w : World) : (Instr.buildSlice 46 0 #[]).run Tryz.prog w = .ok (.slice (some ⟨w.heap.size, 0, none⟩) 0 0) (w.alloc (.cells #[] 44)) := by
  go_simp
theorem rh_pool (p : Pl) (l : Value) (e : En) (i : Bool) (u : Value) (j : Nat) (hj : j < 330) : rhc p l e i u (0 + j) = pc p j := by
  unfold rhc
  rw [Nat.zero_add, if_pos hj]
theorem rh_l (p : Pl) (l : Value) (e : En) (i : Bool) (u v : Value) (j : Nat) (hj : j < 340) : patch (rhc p l e i u) 330 1 (fun _ => v) j = rhc p v e i u j := by
  unfold patch rhc
  by_cases h : 330 ≤ j ∧ j < 330 + 1
  · rw [if_pos h, if_neg (by omega), if_pos (by omega)]
  · rw [if_neg h]
    by_cases h1 : j < 330
    · rw [if_pos h1, if_pos h1]
    · rw [if_neg h1, if_neg h1, if_neg (show ¬ j = 330 by omega), if_neg (show ¬ j = 330 by omega)]
set_option maxRecDepth 100000 in
set_option maxHeartbeats 8000000 in
theorem rhwish_no (p : Pl) (A0 : Option Addr) (n0 c0 : Nat) (g0 : Nat → En) (e : En) (i : Bool) (u : Value) (A1 : Option Addr) (n1 c1 : Nat) (g1 : Nat → En) (b : Nat) (w : World)
    (hF : Fb w b 340 (rhc p (.slice A0 n0 c0) e i u)) (h0 : Se w A0 n0 g0) (h1 : Se w A1 n1 g1) (hn0 : n0 ≤ 1000) (hn1 : n1 ≤ 1000) (hb : 200 < n0 + n1) : Calls Tryz.prog 32 #[.pointer (some ⟨b, 0, none⟩), .slice A1 n1 c1] w fun x w' => x = .returned (.int .i64 14) ∧ Below w.heap.size w w' := by
  have c330 : w.cell? ⟨b, 330, none⟩ = some (.slice A0 n0 c0) := hF.2.1 330 (by omega)
  go_enter Tryz.func32, Tryz.ntmps32
  go_wp2_with fail
  go_ret
  exact ⟨rfl, by first | exact Below.refl _ _ | exact (Below.refl _ _).alloc (Nat.le_refl _) _⟩
set_option maxRecDepth 100000 in
set_option maxHeartbeats 8000000 in
theorem rhwish_any (p : Pl) (A0 : Option Addr) (n0 c0 : Nat) (g0 : Nat → En) (e : En) (i : Bool) (u : Value) (A1 : Option Addr) (n1 c1 : Nat) (g1 : Nat → En) (b : Nat) (w : World)
    (hF : Fb w b 340 (rhc p (.slice A0 n0 c0) e i u)) (h0 : Se w A0 n0 g0) (h1 : Se w A1 n1 g1) (hn0 : n0 ≤ 1000) (hn1 : n1 ≤ 1000) (hb : n0 + n1 ≤ 200) (K : Int) (hp : Pinv p K) (hK : K ≤ 100000) : Calls Tryz.prog 32 #[.pointer (some ⟨b, 0, none⟩), .slice A1 n1 c1] w fun x w' => ∃ (q : Pl) (k : Nat) (er : Int), x = .returned (.int .i64 er) ∧ AllOut p (comb n0 g0 g1) (n0 + n1) q k er ∧
    ((er ≠ 0 ∧ Below w.heap.size w w') ∨ (er = 0 ∧ ∃ A' c', Fb w' b 340 (rhc p (.slice A' (n0 + n1) c') e i u) ∧ Se w' A' (n0 + n1) (comb n0 g0 g1) ∧ Ch [b] w w')) := by
  have c330 : w.cell? ⟨b, 330, none⟩ = some (.slice A0 n0 c0) := hF.2.1 330 (by omega)
  have hbn : ¬ (200 : Int) < (n0 : Int) + n1 := by omega
  go_enter Tryz.func32, Tryz.ntmps32
  go_upto_region 3 with (fail)
  apply wp_region_lit
  refine wl_ow rfl (ow_val (v := .slice (some ⟨w.heap.size, 0, none⟩) 0 0) (w' := w.alloc (.cells #[] 44)) (by unfold execOp; simp only [List.map_toArray, List.map_nil, Sem.run_bind, run_bs0, Result.andThen_ok, Sem.run_pure]) ?_)
  try simp only [Act.put, List.setIfInBounds_toArray, List.set_cons_zero, List.set_cons_succ]
  have HO1 : Hid (OwE (w.alloc (.cells #[] 44)) w.heap.size (.slice (some ⟨w.heap.size, 0, none⟩) 0 0) 0 g0) := hid (Ow.new (Nat.le_refl _))
  have HF1 := hid (hF.alloc (.cells #[] 44))
  have H01 : Hid (Se _ A0 n0 g0) := hid (Sl.alloc h0 (.cells #[] 44))
  have H11 : Hid (Se _ A1 n1 g1) := hid (Sl.alloc h1 (.cells #[] 44))
  have HB1 := hid ((Below.refl w.heap.size w).alloc (Nat.le_refl _) (.cells #[] 44))
  obtain ⟨B0, hB0⟩ : ∃ B0, B0 = w.heap.size := ⟨_, rfl⟩
  have hbB := hid (show b < B0 from hB0 ▸ hF.1)
  have HPi := hid hp
  have HA0 := hid h0
  have HA1 := hid h1
  have HFF := hid hF
  rw [← hB0] at HO1 ⊢
  replace hB0 := hid hB0
  clear hF h0 h1 c330 hp
  generalize w.alloc (.cells #[] 44) = w1 at *
  have c330 : w1.cell? ⟨b, 330, none⟩ = some (.slice A0 n0 c0) := HF1.out.2.1 330 (by omega)
  refine wl_val (v := ?_) rfl ?_ ?_; rotate_left; (focus ( go_simp; (try with_reducible rfl))); (try simp only [Act.put, List.setIfInBounds_toArray, List.set_cons_zero, List.set_cons_succ])
  refine wl_val (v := ?_) rfl ?_ ?_; rotate_left; (focus ( go_simp; (try with_reducible rfl))); (try simp only [Act.put, List.setIfInBounds_toArray, List.set_cons_zero, List.set_cons_succ])
  refine wl_val (v := ?_) rfl ?_ ?_; rotate_left; (focus ( go_simp; (try with_reducible rfl))); (try simp only [Act.put, List.setIfInBounds_toArray, List.set_cons_zero, List.set_cons_succ])
  refine wl_val (v := ?_) rfl ?_ ?_; rotate_left; (focus ( go_simp; (try with_reducible rfl))); (try simp only [Act.put, List.setIfInBounds_toArray, List.set_cons_zero, List.set_cons_succ])
  refine wp_app_es rfl (.tmp 18) (.tmp 22) rfl B0 (.slice (some ⟨B0, 0, none⟩) 0 0) 0 g0 rfl HO1.out A0 n0 c0 g0 rfl H01.out (by omega) (by have := HB1.out.size; have := hB0.out; omega) ?_
  intro A2 c2 w2 hO2 hB2
  try simp only [Act.put, List.setIfInBounds_toArray, List.set_cons_zero, List.set_cons_succ]
  have HO2 := hid hO2
  have HF2 := hid (HF1.out.same (hB2.block b hbB.out))
  have HB2 := hid (HB1.out.trans (hB2.mono (by have := hB0.out; omega)))
  have H12 : Hid (Se w2 A1 n1 g1) := hid (Se.below HA1.out HB2.out (Nat.le_refl _))
  clear hO2 hB2 HO1 HF1 HB1 H01 H11 c330
  refine wl_val (v := ?_) rfl ?_ ?_; rotate_left; (focus ( go_simp; (try with_reducible rfl))); (try simp only [Act.put, List.setIfInBounds_toArray, List.set_cons_zero, List.set_cons_succ])
  refine wp_app_es rfl (.tmp 23) (.tmp 24) rfl B0 (.slice A2 (0 + n0) c2) (0 + n0) (comb 0 g0 g0) rfl HO2.out A1 n1 c1 g1 rfl H12.out (by omega) (by have := HB2.out.size; have := hB0.out; omega) ?_
  intro A3 c3 w3 hO3 hB3
  try simp only [Act.put, List.setIfInBounds_toArray, List.set_cons_zero, List.set_cons_succ]
  have HO3 : Hid (OwE w3 B0 (.slice A3 (n0 + n1) c3) (n0 + n1) (comb n0 g0 g1)) := hid (by rw [Nat.zero_add] at hO3; exact hO3)
  rw [Nat.zero_add]
  have HF3 := hid (HF2.out.same (hB3.block b hbB.out))
  have HB3 := hid (HB2.out.trans (hB3.mono (by have := hB0.out; omega)))
  clear hO3 hB3 HO2 HF2 HB2 H12
  refine wl_val (v := ?_) rfl ?_ ?_; rotate_left; (focus ( go_simp; (try with_reducible rfl))); (try simp only [Act.put, List.setIfInBounds_toArray, List.set_cons_zero, List.set_cons_succ])
  go_simp
  apply_assumption
  go_upto_region 4 with (fail)
  apply wp_region_lit
  refine wl_val (v := ?_) rfl ?_ ?_; rotate_left; (focus ( go_simp; (try with_reducible rfl))); (try simp only [Act.put, List.setIfInBounds_toArray, List.set_cons_zero, List.set_cons_succ])
  refine wl_val (v := ?_) rfl ?_ ?_; rotate_left; (focus ( go_simp; (try with_reducible rfl))); (try simp only [Act.put, List.setIfInBounds_toArray, List.set_cons_zero, List.set_cons_succ])
  refine wl_val (v := ?_) rfl ?_ ?_; rotate_left; (focus ( go_simp; (try with_reducible rfl))); (try simp only [Act.put, List.setIfInBounds_toArray, List.set_cons_zero, List.set_cons_succ])
  refine wl_ow rfl (ov_val (ex_load rfl rfl (HF3.out.load 0 330 (pc p) (by omega) (rh_pool p _ e i u) Tryz.underlying33 rfl info_pl)) ?_)
  try simp only [Act.put, List.setIfInBounds_toArray, List.set_cons_zero, List.set_cons_succ]
  refine wl_val (v := ?_) rfl ?_ ?_; rotate_left; (focus ( go_simp; (try with_reducible rfl))); (try simp only [Act.put, List.setIfInBounds_toArray, List.set_cons_zero, List.set_cons_succ])
  go_wp2_with fail
  refine (rall_fa p (comb n0 g0 g1) A3 (n0 + n1) c3 _ HO3.out.se (by omega) K HPi.out hK).mono ?_
  rintro x w4 ⟨q, k, er, rfl, hAO, hB4⟩
  have HAO := hid hAO
  have HF4 := hid (HF3.out.below hB4)
  have HB4 := hid (HB3.out.trans (hB4.mono HB3.out.size))
  have HO4 := hid (HO3.out.keep hB4 (Nat.le_refl _))
  have S1 : Hid (HS [] w4 w4 []) := hid HS.start
  clear hAO hB4 HF3 HB3 HO3
  by_cases her : er = 0
  · subst her
    go_upto_region 7 with (first | ((with_reducible refine wl_id ?_); refine wl_ow rfl (ow_alloc rfl (zpl_fa _) (by omega) S1.out ?_); intro U w_ hZ _; have SA := hid hZ; clear hZ) | ((with_reducible refine wl_id ?_); refine wl_ow rfl (ow_store (A := []) 0 330 (pc q) (pc q) rfl rfl rfl SA.out (by omega) (fun j hj => patch_all _ _ _ j hj) info_pl (pc_one _) ?_); intro w_ hZ; have S3 := hid hZ; clear hZ))
    have HF6 := hid (HF4.out.below S3.out.bl)
    have HB6 := hid (HB4.out.trans (S3.out.bl.mono HB4.out.size))
    have HO6 := hid (HO4.out.keep S3.out.bl (Nat.le_refl _))
    have c330 : _ = some (Value.slice A0 n0 c0) := HF6.out.2.1 330 (by omega)
    have z330 := HF6.out.2.2 330
    apply wp_region_lit
    refine wl_val (v := ?_) rfl ?_ ?_; rotate_left; (focus ( go_simp; (try with_reducible rfl))); (try simp only [Act.put, List.setIfInBounds_toArray, List.set_cons_zero, List.set_cons_succ])
    refine wl_val (v := ?_) rfl ?_ ?_; rotate_left; (focus ( go_simp; (try with_reducible rfl))); (try simp only [Act.put, List.setIfInBounds_toArray, List.set_cons_zero, List.set_cons_succ])
    refine wl_val (v := ?_) rfl ?_ ?_; rotate_left; (focus ( go_simp; (try with_reducible rfl))); (try simp only [Act.put, List.setIfInBounds_toArray, List.set_cons_zero, List.set_cons_succ])
    refine wl_val (v := ?_) rfl ?_ ?_; rotate_left; (focus ( go_simp; (try with_reducible rfl))); (try simp only [Act.put, List.setIfInBounds_toArray, List.set_cons_zero, List.set_cons_succ])
    refine wl_ow rfl (ov_store rfl rfl rfl (w' := w_.setCell ⟨b, 330, none⟩ (.slice A3 (n0 + n1) c3)) (by go_simp) ?_)
    try simp only [Act.put, List.setIfInBounds_toArray, List.set_cons_zero, List.set_cons_succ]
    have HF7 := hid ((HF6.out.set1 330 (.slice A3 (n0 + n1) c3) (by omega)).as (rh_l p _ e i u (.slice A3 (n0 + n1) c3)))
    have HO7 : Hid (OwE _ B0 (.slice A3 (n0 + n1) c3) (n0 + n1) (comb n0 g0 g1)) := hid (ownsRow_setCell_below HO6.out (a := ⟨b, 330, none⟩) hbB.out (.slice A3 (n0 + n1) c3))
    have HC7 := hid ((Ch.of_below (S := [b]) HB6.out).set1 (c := b) (o := 330) (v := .slice A3 (n0 + n1) c3) (.inl (by simp)))
    go_wp2_with fail
    go_ret
    exact ⟨q, k, 0, rfl, HAO.out, .inr ⟨rfl, A3, c3, HF7.out, HO7.out.se, HC7.out⟩⟩
  · go_wp2_with (first | ((with_reducible refine wl_id ?_); refine wl_ow rfl (ow_alloc rfl (zpl_fa _) (by omega) S1.out ?_); intro U w_ hZ _; have SA := hid hZ; clear hZ) | ((with_reducible refine wl_id ?_); refine wl_ow rfl (ow_store (A := []) 0 330 (pc q) (pc q) rfl rfl rfl SA.out (by omega) (fun j hj => patch_all _ _ _ j hj) info_pl (pc_one _) ?_); intro w_ hZ; have S3 := hid hZ; clear hZ))
    have HB6 := hid (HB4.out.trans (S3.out.bl.mono HB4.out.size))
    go_ret
    exact ⟨q, k, er, rfl, HAO.out, .inl ⟨her, by first | exact HB6.out | (rw [hB0.out]; exact HB6.out)⟩⟩
end Go.Proofs.YteefhiniamajkaaGreat
