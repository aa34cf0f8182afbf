/- The reference's head: New with its words, Wish. The reference's head sends. -/
import Derived.Test.YteefhiniamajkaaGreatRyA
import Derived.Test.YteefhiniamajkaaGreatHdRef2
import Derived.Test.YteefhiniamajkaaGreatGy
import Derived.BigQuiet
import Derived.Deep.RegionHeld3
import Derived.Deep.Cut
import Derived.Deep.LoopGhost
import Derived.IntWalk
import Derived.Great.BuildSlice
import Derived.Test.YteefhiniamajkaaGreatHdSend
import Derived.Deep.CutRange
namespace Go.Proofs.YteefhiniamajkaaGreat
set_option linter.unusedVariables false
set_option linter.unusedSimpArgs false
open Go.RowKit Go.ChangeShapes Go.WideShapes Go.ChangeAt
section
variable {S : List Nat} {W w w' : World} {L A B : List Th} {t : Th}
theorem HS.updN (h : HS S W w (A ++ t :: B)) (t' u : Th) (hbs : t'.bs = t.bs) (hc : Ch t.bs w w') (ht : t'.at_ w') (hu : u.at_ w') (hn : u.bs.Nodup) (hg : ∀ b, b ∈ u.bs → w.heap.size ≤ b) : HS S W w' (u :: (A ++ t' :: B)) := by
  have h1 := h.upd t' hbs hc ht
  have hb2 : (A ++ t' :: B).flatMap Th.bs = (A ++ t :: B).flatMap Th.bs := by simp [hbs]
  have hlt : ∀ b, b ∈ (A ++ t' :: B).flatMap Th.bs → b < w.heap.size := fun b hb => by
    rw [hb2] at hb
    obtain ⟨x, hx, hxb⟩ := List.mem_flatMap.1 hb
    exact x.lt w (h.1 x hx) b hxb
  refine ⟨fun x hx => ?_, h1.2.1, ?_, fun b hb => ?_⟩
  · rcases List.mem_cons.1 hx with rfl | hx
    · exact hu
    · exact h1.1 x hx
  · rw [List.flatMap_cons, List.nodup_append]
    refine ⟨hn, h1.2.2.1, fun a ha b hb e => ?_⟩
    subst e
    have := hlt a hb
    have := hg a ha
    omega
  · rw [List.flatMap_cons] at hb
    rcases List.mem_append.1 hb with hb | hb
    · exact .inr (Nat.le_trans h.wsize (hg b hb))
    · exact h1.2.2.2 b hb
end
section
attribute [local irreducible] FA FL
set_option maxRecDepth 100000
set_option maxHeartbeats 8000000 in
theorem rhwish_own (p : Pl) (A0 : Option Addr) (n0 c0 : Nat) (g0 : Nat → En) (e : En) (i : Bool) (u : Value) (A1 : Option Addr) (n1 c1 : Nat) (g1 : Nat → En) (b : Nat) (w : World)
    (hF : Fb w b 340 (rhc p (.slice A0 n0 c0) e i u)) (h0 : Se w A0 n0 g0) (h1 : Se w A1 n1 g1) (hn0 : n0 ≤ 1000) (hn1 : n1 ≤ 1000) (hb : n0 + n1 ≤ 200) (K : Int) (hp : Pinv p K) (hK : K ≤ 100000) : Calls Tryz.prog 32 #[.pointer (some ⟨b, 0, none⟩), .slice A1 n1 c1] w fun x w' => ∃ (q : Pl) (k : Nat) (er : Int), x = .returned (.int .i64 er) ∧ AllOut p (comb n0 g0 g1) (n0 + n1) q k er ∧
    ((er ≠ 0 ∧ Below w.heap.size w w') ∨ (er = 0 ∧ ∃ A' c', Fb w' b 340 (rhc p (.slice A' (n0 + n1) c') e i u) ∧ OwE w' w.heap.size (.slice A' (n0 + n1) c') (n0 + n1) (comb n0 g0 g1) ∧ Ch [b] w w')) := by
  have c330 : w.cell? ⟨b, 330, none⟩ = some (.slice A0 n0 c0) := hF.2.1 330 (by omega)
  have hbn : ¬ (200 : Int) < (n0 : Int) + n1 := by omega
  go_enter Tryz.func32, Tryz.ntmps32
  go_upto_region 3 with (fail)
  apply wp_region_lit
  refine wl_ow rfl (ow_val (v := .slice (some ⟨w.heap.size, 0, none⟩) 0 0) (w' := w.alloc (.cells #[] 44)) (by unfold execOp; simp only [List.map_toArray, List.map_nil, Sem.run_bind, run_bs0, Result.andThen_ok, Sem.run_pure]) ?_)
  try simp only [Act.put, List.setIfInBounds_toArray, List.set_cons_zero, List.set_cons_succ]
  have HO1 : Hid (OwE (w.alloc (.cells #[] 44)) w.heap.size (.slice (some ⟨w.heap.size, 0, none⟩) 0 0) 0 g0) := hid (Ow.new (Nat.le_refl _))
  have HF1 := hid (hF.alloc (.cells #[] 44))
  have H01 : Hid (Se _ A0 n0 g0) := hid (Sl.alloc h0 (.cells #[] 44))
  have H11 : Hid (Se _ A1 n1 g1) := hid (Sl.alloc h1 (.cells #[] 44))
  have HB1 := hid ((Below.refl w.heap.size w).alloc (Nat.le_refl _) (.cells #[] 44))
  obtain ⟨B0, hB0⟩ : ∃ B0, B0 = w.heap.size := ⟨_, rfl⟩
  have hbB := hid (show b < B0 from hB0 ▸ hF.1)
  have HPi := hid hp
  have HA0 := hid h0
  have HA1 := hid h1
  have HFF := hid hF
  rw [← hB0] at HO1 ⊢
  replace hB0 := hid hB0
  clear hF h0 h1 c330 hp
  generalize w.alloc (.cells #[] 44) = w1 at *
  have c330 : w1.cell? ⟨b, 330, none⟩ = some (.slice A0 n0 c0) := HF1.out.2.1 330 (by omega)
  refine wl_val (v := ?_) rfl ?_ ?_; rotate_left; (focus ( go_simp; (try with_reducible rfl))); (try simp only [Act.put, List.setIfInBounds_toArray, List.set_cons_zero, List.set_cons_succ])
  refine wl_val (v := ?_) rfl ?_ ?_; rotate_left; (focus ( go_simp; (try with_reducible rfl))); (try simp only [Act.put, List.setIfInBounds_toArray, List.set_cons_zero, List.set_cons_succ])
  refine wl_val (v := ?_) rfl ?_ ?_; rotate_left; (focus ( go_simp; (try with_reducible rfl))); (try simp only [Act.put, List.setIfInBounds_toArray, List.set_cons_zero, List.set_cons_succ])
  refine wl_val (v := ?_) rfl ?_ ?_; rotate_left; (focus ( go_simp; (try with_reducible rfl))); (try simp only [Act.put, List.setIfInBounds_toArray, List.set_cons_zero, List.set_cons_succ])
  refine wp_app_es rfl (.tmp 18) (.tmp 22) rfl B0 (.slice (some ⟨B0, 0, none⟩) 0 0) 0 g0 rfl HO1.out A0 n0 c0 g0 rfl H01.out (by omega) (by have := HB1.out.size; have := hB0.out; omega) ?_
  intro A2 c2 w2 hO2 hB2
  try simp only [Act.put, List.setIfInBounds_toArray, List.set_cons_zero, List.set_cons_succ]
  have HO2 := hid hO2
  have HF2 := hid (HF1.out.same (hB2.block b hbB.out))
  have HB2 := hid (HB1.out.trans (hB2.mono (by have := hB0.out; omega)))
  have H12 : Hid (Se w2 A1 n1 g1) := hid (Se.below HA1.out HB2.out (Nat.le_refl _))
  clear hO2 hB2 HO1 HF1 HB1 H01 H11 c330
  refine wl_val (v := ?_) rfl ?_ ?_; rotate_left; (focus ( go_simp; (try with_reducible rfl))); (try simp only [Act.put, List.setIfInBounds_toArray, List.set_cons_zero, List.set_cons_succ])
  refine wp_app_es rfl (.tmp 23) (.tmp 24) rfl B0 (.slice A2 (0 + n0) c2) (0 + n0) (comb 0 g0 g0) rfl HO2.out A1 n1 c1 g1 rfl H12.out (by omega) (by have := HB2.out.size; have := hB0.out; omega) ?_
  intro A3 c3 w3 hO3 hB3
  try simp only [Act.put, List.setIfInBounds_toArray, List.set_cons_zero, List.set_cons_succ]
  have HO3 : Hid (OwE w3 B0 (.slice A3 (n0 + n1) c3) (n0 + n1) (comb n0 g0 g1)) := hid (by rw [Nat.zero_add] at hO3; exact hO3)
  rw [Nat.zero_add]
  have HF3 := hid (HF2.out.same (hB3.block b hbB.out))
  have HB3 := hid (HB2.out.trans (hB3.mono (by have := hB0.out; omega)))
  clear hO3 hB3 HO2 HF2 HB2 H12
  refine wl_val (v := ?_) rfl ?_ ?_; rotate_left; (focus ( go_simp; (try with_reducible rfl))); (try simp only [Act.put, List.setIfInBounds_toArray, List.set_cons_zero, List.set_cons_succ])
  go_simp
  apply_assumption
  go_upto_region 4 with (fail)
  apply wp_region_lit
  refine wl_val (v := ?_) rfl ?_ ?_; rotate_left; (focus ( go_simp; (try with_reducible rfl))); (try simp only [Act.put, List.setIfInBounds_toArray, List.set_cons_zero, List.set_cons_succ])
  refine wl_val (v := ?_) rfl ?_ ?_; rotate_left; (focus ( go_simp; (try with_reducible rfl))); (try simp only [Act.put, List.setIfInBounds_toArray, List.set_cons_zero, List.set_cons_succ])
  refine wl_val (v := ?_) rfl ?_ ?_; rotate_left; (focus ( go_simp; (try with_reducible rfl))); (try simp only [Act.put, List.setIfInBounds_toArray, List.set_cons_zero, List.set_cons_succ])
  refine wl_ow rfl (ov_val (ex_load rfl rfl (HF3.out.load 0 330 (pc p) (by omega) (rh_pool p _ e i u) Tryz.underlying33 rfl info_pl)) ?_)
  try simp only [Act.put, List.setIfInBounds_toArray, List.set_cons_zero, List.set_cons_succ]
  refine wl_val (v := ?_) rfl ?_ ?_; rotate_left; (focus ( go_simp; (try with_reducible rfl))); (try simp only [Act.put, List.setIfInBounds_toArray, List.set_cons_zero, List.set_cons_succ])
  go_wp2_with fail
  refine (rall_fa p (comb n0 g0 g1) A3 (n0 + n1) c3 _ HO3.out.se (by omega) K HPi.out hK).mono ?_
  rintro x w4 ⟨q, k, er, rfl, hAO, hB4⟩
  have HAO := hid hAO
  have HF4 := hid (HF3.out.below hB4)
  have HB4 := hid (HB3.out.trans (hB4.mono HB3.out.size))
  have HO4 := hid (HO3.out.keep hB4 (Nat.le_refl _))
  have S1 : Hid (HS [] w4 w4 []) := hid HS.start
  clear hAO hB4 HF3 HB3 HO3
  by_cases her : er = 0
  · subst her
    go_upto_region 7 with (first | ((with_reducible refine wl_id ?_); refine wl_ow rfl (ow_alloc rfl (zpl_fa _) (by omega) S1.out ?_); intro U w_ hZ _; have SA := hid hZ; clear hZ) | ((with_reducible refine wl_id ?_); refine wl_ow rfl (ow_store (A := []) 0 330 (pc q) (pc q) rfl rfl rfl SA.out (by omega) (fun j hj => patch_all _ _ _ j hj) info_pl (pc_one _) ?_); intro w_ hZ; have S3 := hid hZ; clear hZ))
    have HF6 := hid (HF4.out.below S3.out.bl)
    have HB6 := hid (HB4.out.trans (S3.out.bl.mono HB4.out.size))
    have HO6 := hid (HO4.out.keep S3.out.bl (Nat.le_refl _))
    have c330 : _ = some (Value.slice A0 n0 c0) := HF6.out.2.1 330 (by omega)
    have z330 := HF6.out.2.2 330
    apply wp_region_lit
    refine wl_val (v := ?_) rfl ?_ ?_; rotate_left; (focus ( go_simp; (try with_reducible rfl))); (try simp only [Act.put, List.setIfInBounds_toArray, List.set_cons_zero, List.set_cons_succ])
    refine wl_val (v := ?_) rfl ?_ ?_; rotate_left; (focus ( go_simp; (try with_reducible rfl))); (try simp only [Act.put, List.setIfInBounds_toArray, List.set_cons_zero, List.set_cons_succ])
    refine wl_val (v := ?_) rfl ?_ ?_; rotate_left; (focus ( go_simp; (try with_reducible rfl))); (try simp only [Act.put, List.setIfInBounds_toArray, List.set_cons_zero, List.set_cons_succ])
    refine wl_val (v := ?_) rfl ?_ ?_; rotate_left; (focus ( go_simp; (try with_reducible rfl))); (try simp only [Act.put, List.setIfInBounds_toArray, List.set_cons_zero, List.set_cons_succ])
    refine wl_ow rfl (ov_store rfl rfl rfl (w' := w_.setCell ⟨b, 330, none⟩ (.slice A3 (n0 + n1) c3)) (by go_simp) ?_)
    try simp only [Act.put, List.setIfInBounds_toArray, List.set_cons_zero, List.set_cons_succ]
    have HF7 := hid ((HF6.out.set1 330 (.slice A3 (n0 + n1) c3) (by omega)).as (rh_l p _ e i u (.slice A3 (n0 + n1) c3)))
    have HO7 : Hid (OwE _ B0 (.slice A3 (n0 + n1) c3) (n0 + n1) (comb n0 g0 g1)) := hid (ownsRow_setCell_below HO6.out (a := ⟨b, 330, none⟩) hbB.out (.slice A3 (n0 + n1) c3))
    have HC7 := hid ((Ch.of_below (S := [b]) HB6.out).set1 (c := b) (o := 330) (v := .slice A3 (n0 + n1) c3) (.inl (by simp)))
    go_wp2_with fail
    go_ret
    exact ⟨q, k, 0, rfl, HAO.out, .inr ⟨rfl, A3, c3, HF7.out, hB0.out ▸ HO7.out, HC7.out⟩⟩
  · go_wp2_with (first | ((with_reducible refine wl_id ?_); refine wl_ow rfl (ow_alloc rfl (zpl_fa _) (by omega) S1.out ?_); intro U w_ hZ _; have SA := hid hZ; clear hZ) | ((with_reducible refine wl_id ?_); refine wl_ow rfl (ow_store (A := []) 0 330 (pc q) (pc q) rfl rfl rfl SA.out (by omega) (fun j hj => patch_all _ _ _ j hj) info_pl (pc_one _) ?_); intro w_ hZ; have S3 := hid hZ; clear hZ))
    have HB6 := hid (HB4.out.trans (S3.out.bl.mono HB4.out.size))
    go_ret
    exact ⟨q, k, er, rfl, HAO.out, .inl ⟨her, by first | exact HB6.out | (rw [hB0.out]; exact HB6.out)⟩⟩
end
set_option maxRecDepth 100000
def thWd (U : Value) (n : Nat) (wd : Nat → Wd) : Th := thW 0 118 2 U n (wof wd)
def thNt (V : Value) (l : List Nt) : Th := thW 0 88 342 V l.length (ntf l)
def lsE (q : List En) (j : Nat) : En := q.getD j zEn
def thQ (V : Value) (q : List En) : Th := thE V q.length (lsE q)
def wd0 (_ : Nat) : Wd := ⟨0, -1⟩
theorem wd0_app (k j : Nat) (hj : j < (k + 1) * 2) : two (k * 2) (wof wd0) (wdc ⟨0, -1⟩) j = wof wd0 j := by
  unfold two wof wd0 wdc
  by_cases h : j < k * 2
  · rw [if_pos h]
  · rw [if_neg h]
    by_cases h1 : j - k * 2 = 0
    · rw [if_pos h1, if_pos (by omega)]
    · rw [if_neg h1, if_neg (by omega)]
theorem thW_form {S : List Nat} {W w : World} {L : List Th} {e : TypeId} {z n : Nat} {V : Value} {f : Nat → Value} (h : HS S W w L) (k : Nat) (hk : L[k]? = some (thW 0 e z V n f)) : ∃ A c, V = .slice A n c ∧ n ≤ c := by
  obtain ⟨A, c, e, hc, _⟩ := Ow.form_ (show Ow w 0 e z V n f from h.nth k hk)
  exact ⟨A, c, e, hc⟩
attribute [local irreducible] FA FL
set_option maxHeartbeats 8000000 in
theorem rh_new2 {S : List Nat} {W w : World} {L : List Th} (hS : HS S W w L) (p : Pl) (u : Nat) (hu : 1 ≤ u ∧ u ≤ 16) : Calls Tryz.prog 28 #[.agg (FA 330 (pc p)), .int .i64 (u : Int)] w fun x w' => ∃ hb ug c : Nat, x = .returned (.tuple #[.pointer (some ⟨hb, 0, none⟩), .int .i64 0]) ∧ HS S W w' (thB hb 340 (rhc p (.slice none 0 0) zEn false (.slice (some ⟨ug, 0, none⟩) u c)) :: thWd (.slice (some ⟨ug, 0, none⟩) u c) u wd0 :: L) := by
  have S0 := hid hS
  obtain ⟨hu1, hu2⟩ := hu
  clear hS
  go_enter Tryz.func28, Tryz.ntmps28
  go_upto_region 3 with ((with_reducible refine wl_id ?_); refine wl_ow rfl (ow_box rfl rfl (by omega) S0.out (fun P w1 hZ _ => ?_)); have S1 := hid hZ; clear hZ)
  apply wp_region_lit
  refine wl_ow rfl (ow_load 0 rfl 0 330 (pc p) rfl rfl S1.out (by omega) (fun j hj => by rw [Nat.zero_add]) Tryz.underlying33 rfl info_pl ?_)
  try simp only [Act.put, List.setIfInBounds_toArray, List.set_cons_zero, List.set_cons_succ]
  refine wl_val rfl (v := .agg (FA 340 (rhc p (.slice none 0 0) zEn false (.slice none 0 0)))) (by unfold execOp; simp only [List.map_toArray, List.map_cons, List.map_nil]; rw [show Act.eval _ (Operand.tmp 14) = Value.agg (FA 330 (pc p)) from rfl]; simp only [Sem.run_bind, build_rh, Result.andThen_ok, Sem.run_pure]) ?_
  try simp only [Act.put, List.setIfInBounds_toArray, List.set_cons_zero, List.set_cons_succ]
  refine wl_ow rfl (ow_box rfl rfl (by omega) S1.out (fun b w2 hZ hb => ?_))
  have S2 := hid hZ.drop1
  clear hZ hb S1
  try simp only [Act.put, List.setIfInBounds_toArray, List.set_cons_zero, List.set_cons_succ]
  have S3 : Hid (HS S W w2 (thB b 340 (rhc p (.slice none 0 0) zEn false (.slice none 0 0)) :: thWd (.slice none 0 0) 0 wd0 :: L)) := hid (HS.perm (HS.nilW S2.out) (List.Perm.swap _ _ _))
  clear S2
  go_wp2_with fail
  go_loopg [7] u (fun gh i wx => ∃ (k : Nat) (U : Value), gh = u - k ∧ k ≤ u ∧ i = .int .i64 (k : Int) ∧ HS S W wx (thB b 340 (rhc p (.slice none 0 0) zEn false U) :: thWd U k wd0 :: L))
  case atStart => exact ⟨0, .slice none 0 0, by omega, Nat.zero_le _, rfl, S3.out⟩
  case round =>
    clear S3
    obtain ⟨k, U, hgh, hk, rfl, hS⟩ := hrel
    have U0 := hid hS
    clear hS
    by_cases hlt : (k : Int) < u
    · obtain ⟨A1, c1, hv, _⟩ := thW_form U0.out 1 rfl
      subst hv
      have c339 : wr.cell? ⟨b, 339, none⟩ = some (.slice A1 k c1) := (U0.out.fb 0 rfl).2.1 339 (by omega)
      go_upto_region 7 with (fail)
      apply wp_region_lit
      refine wl_val (v := ?_) rfl ?_ ?_; rotate_left; (focus ( go_simp; (try with_reducible rfl))); (try simp only [Act.put, List.setIfInBounds_toArray, List.set_cons_zero, List.set_cons_succ])
      refine wl_val (v := ?_) rfl ?_ ?_; rotate_left; (focus ( go_simp; (try with_reducible rfl))); (try simp only [Act.put, List.setIfInBounds_toArray, List.set_cons_zero, List.set_cons_succ])
      refine wl_val (v := ?_) rfl ?_ ?_; rotate_left; (focus ( go_simp; (try with_reducible rfl))); (try simp only [Act.put, List.setIfInBounds_toArray, List.set_cons_zero, List.set_cons_succ])
      refine wl_val (v := ?_) rfl ?_ ?_; rotate_left; (focus ( go_simp; (try with_reducible rfl))); (try simp only [Act.put, List.setIfInBounds_toArray, List.set_cons_zero, List.set_cons_succ])
      refine wl_val (v := ?_) rfl ?_ ?_; rotate_left; (focus ( go_simp; (try with_reducible rfl))); (try simp only [Act.put, List.setIfInBounds_toArray, List.set_cons_zero, List.set_cons_succ])
      refine wl_val (v := ?_) rfl ?_ ?_; rotate_left; (focus ( go_simp; (try with_reducible rfl))); (try simp only [Act.put, List.setIfInBounds_toArray, List.set_cons_zero, List.set_cons_succ])
      obtain ⟨i0, hi, hz0, hz1, hz2⟩ := info_parts info_wo
      refine wl_ow rfl (ow_val (v := .slice (some ⟨wr.heap.size, 0, none⟩) 1 1) (w' := wr.alloc (.cells (FA 2 (wdc ⟨0, -1⟩)) 118)) (by unfold execOp; simp only [List.map_toArray, List.map_cons, List.map_nil]; rw [show Act.eval _ (Operand.tmp 27) = Value.agg #[.int .i64 0, .int .i64 (-1)] from rfl]; simp only [Sem.run_bind, run_bsw, Result.andThen_ok, Sem.run_pure]) ?_)
      try simp only [Act.put, List.setIfInBounds_toArray, List.set_cons_zero, List.set_cons_succ]
      have U1 := hid (U0.out.boxed (n := 2) (T := 118) (wdc ⟨0, -1⟩))
      generalize wr.alloc (.cells (FA 2 (wdc ⟨0, -1⟩)) 118) = w3 at *
      generalize wr.heap.size = X at *
      clear U0 c339
      refine wl_ow rfl (ow_appW (A := [thB X 2 (wdc ⟨0, -1⟩), thB b 340 (rhc p (.slice none 0 0) zEn false (.slice A1 k c1))]) (L := L) (B := 0) (.tmp 26) (.tmp 28) rfl Tryz.underlying114 hi hz0 hz1 hz2 rfl (by decide) rfl (X := some ⟨X, 0, none⟩) (m := 1) (c := 1) (f2 := wdc ⟨0, -1⟩) rfl U1.out (U1.out.fb 0 rfl).sl (fun j _ => wdc_one _ j) (by simp only [maxLen]; omega) (by omega) (Nat.zero_le _) (wof wd0) (fun j hj => wd0_app k j hj) (fun A' c' w4 hZ _ _ => ?_))
      have U2 : Hid (HS S W w4 (thB X 2 (wdc ⟨0, -1⟩) :: thB b 340 (rhc p (.slice none 0 0) zEn false (.slice A1 k c1)) :: thWd (.slice A' (k + 1) c') (k + 1) wd0 :: L)) := hid hZ
      clear hZ U1
      try simp only [Act.put, List.setIfInBounds_toArray, List.set_cons_zero, List.set_cons_succ]
      have c339 : w4.cell? ⟨b, 339, none⟩ = some (.slice A1 k c1) := (U2.out.fb 1 rfl).2.1 339 (by omega)
      have z339 := (U2.out.fb 1 rfl).2.2 339
      refine wl_val (v := ?_) rfl ?_ ?_; rotate_left; (focus ( go_simp; (try with_reducible rfl))); (try simp only [Act.put, List.setIfInBounds_toArray, List.set_cons_zero, List.set_cons_succ])
      refine wl_val (v := ?_) rfl ?_ ?_; rotate_left; (focus ( go_simp; (try with_reducible rfl))); (try simp only [Act.put, List.setIfInBounds_toArray, List.set_cons_zero, List.set_cons_succ])
      refine wl_ow rfl (ov_store rfl rfl rfl (w' := w4.setCell ⟨b, 339, none⟩ (.slice A' (k + 1) c')) (by go_simp) ?_)
      try simp only [Act.put, List.setIfInBounds_toArray, List.set_cons_zero, List.set_cons_succ]
      have U3 := hid (HS.set1v (A := [thB X 2 (wdc ⟨0, -1⟩)]) U2.out 339 (.slice A' (k + 1) c') (by omega) (rhc p (.slice none 0 0) zEn false (.slice A' (k + 1) c')) (fun j hj => rh_unit _ _ _ _ _ _ j hj)).tail
      generalize w4.setCell ⟨b, 339, none⟩ (.slice A' (k + 1) c') = w5 at *
      clear U2 c339 z339
      go_wp2_with fail
      go_roundg (u - (k + 1))
      case rel => exact ⟨k + 1, .slice A' (k + 1) c', by omega, by omega, by go_num, U3.out⟩
      case measure => omega
    · have hku : k = u := by omega
      subst hku
      obtain ⟨A1, c1, hv, _⟩ := thW_form U0.out 1 rfl
      subst hv
      obtain ⟨g, hg, _⟩ := Ow.block_ (show Ow wr 0 118 2 (.slice A1 k c1) k (wof wd0) from U0.out.nth 1 rfl) (by omega)
      subst hg
      go_wp2_with fail
      go_ret2
      first | exact ⟨b, g, c1, rfl, U0.out⟩ | exact ⟨b, rfl, g, c1, U0.out⟩
theorem rh_wish {S : List Nat} {W w : World} {L : List Th} {hb : Nat} {p : Pl} {V U : Value} {q : List En} {e : En} {i : Bool} (hS : HS S W w (thB hb 340 (rhc p V e i U) :: thQ V q :: L)) (A1 : Option Addr) (n1 c1 : Nat) (g1 : Nat → En) (h1 : Se w A1 n1 g1) (hb2 : q.length + n1 ≤ 200) (K : Int) (hp : Pinv p K) (hK : K ≤ 100000) :
    Calls Tryz.prog 32 #[.pointer (some ⟨hb, 0, none⟩), .slice A1 n1 c1] w fun x w' => ∃ (q' : Pl) (k : Nat) (er : Int), x = .returned (.int .i64 er) ∧ AllOut p (comb q.length (lsE q) g1) (q.length + n1) q' k er ∧
    ((er ≠ 0 ∧ HS S W w' (thB hb 340 (rhc p V e i U) :: thQ V q :: L)) ∨ (er = 0 ∧ ∃ V', HS S W w' (thB hb 340 (rhc p V' e i U) :: thQ V' (q ++ (List.range n1).map g1) :: L))) := by
  obtain ⟨A0, c0, hV, _⟩ := thW_form hS 1 rfl
  subst hV
  refine (rhwish_own p A0 q.length c0 (lsE q) e i U A1 n1 c1 g1 hb w (hS.fb 0 rfl) (hS.se 1 rfl) h1 (by omega) (by omega) hb2 K hp hK).mono ?_
  rintro x w' ⟨q', k, er, rfl, hA, hh⟩
  refine ⟨q', k, er, rfl, hA, ?_⟩
  rcases hh with ⟨h0, hB⟩ | ⟨h0, A', c', hF, hO, hC⟩
  · exact .inl ⟨h0, hS.below hB⟩
  · refine .inr ⟨h0, .slice A' (q.length + n1) c', ?_⟩
    have hS2 : HS S W w (thB hb 340 (rhc p (.slice A0 q.length c0) e i U) :: L) := HS.drop (A := [thB hb 340 (rhc p (.slice A0 q.length c0) e i U)]) hS
    have hO2 : OwE w' w.heap.size (.slice A' (q.length + n1) c') (q ++ (List.range n1).map g1).length (lsE (q ++ (List.range n1).map g1)) := by
      rw [List.length_append, List.length_map, List.length_range]
      refine Ow.as_ hO (fun j hj => ?_)
      congr 1
      unfold comb lsE
      by_cases h : j / 7 < q.length
      · rw [if_pos h]; simp [List.getD, List.getElem?_append_left h]
      · rw [if_neg h]
        have h2 : j / 7 - q.length < n1 := by omega
        simp [List.getD, List.getElem?_append_right (show q.length ≤ j / 7 by omega), h2]
    have h3 := HS.updN (A := []) hS2 (thB hb 340 (rhc p (.slice A' (q.length + n1) c') e i U)) (thQ (.slice A' (q.length + n1) c') (q ++ (List.range n1).map g1)) rfl hC hF (show Ow _ 0 _ _ _ _ _ from ⟨hO2.1, hO2.2.imp id (fun ⟨g, c, cu, h1, h2, h3⟩ => ⟨g, c, cu, h1, Nat.zero_le _, h3⟩)⟩) (by unfold thQ thE thW; dsimp only; cases (Value.slice A' (q.length + n1) c').ownBlock <;> simp) (fun b hb => (World.ownsRow.lt hO2 b (by simpa [thQ, thE, thW] using hb)).1)
    exact h3.perm (List.Perm.swap _ _ _)
end Go.Proofs.YteefhiniamajkaaGreat
namespace Go.Proofs.YteefhiniamajkaaGreat
set_option linter.unusedVariables false
set_option linter.unusedSimpArgs false
open Go.RowKit Go.ChangeShapes Go.WideShapes Go.ChangeAt
set_option maxRecDepth 100000
theorem elem_e9 : Tryz.prog.underlying 46 = some (.slice (Tryz.prog.elem 46)) := by kernel_rfl
theorem size_e9 (W : World) : (sizeOf (Tryz.prog.elem 46)).run Tryz.prog W = .ok 7 W := by kernel_rfl
def allK (h : Hd) (k : Nat) : Bool := (List.range k).all fun i => (h.wd i).v == h.pl.v
theorem allK_s (h : Hd) (k : Nat) : allK h (k + 1) = (allK h k && ((h.wd k).v == h.pl.v)) := by unfold allK; rw [List.range_succ, List.all_append]; simp
theorem rh_e (p : Pl) (l : Value) (e0 e : En) (i : Bool) (u : Value) (j : Nat) (hj : j < 340) : patch (rhc p l e0 i u) 331 7 (enc e) j = rhc p l e i u j := by
  unfold patch rhc
  by_cases h : 331 ≤ j ∧ j < 331 + 7
  · rw [if_pos h, if_neg (by omega), if_neg (by omega), if_pos (by omega)]
  · rw [if_neg h]
    by_cases h1 : j < 330
    · rw [if_pos h1, if_pos h1]
    · rw [if_neg h1, if_neg h1]
      by_cases h2 : j = 330
      · rw [if_pos h2, if_pos h2]
      · have h3 : ¬ j < 338 := by omega
        rw [if_neg h2, if_neg h2, if_neg h3, if_neg h3]
theorem rh_i (p : Pl) (l : Value) (e : En) (i i' : Bool) (u : Value) (j : Nat) (hj : j < 340) : patch (rhc p l e i u) 338 1 (fun _ => .bool i') j = rhc p l e i' u j := by
  unfold patch rhc
  by_cases h : 338 ≤ j ∧ j < 338 + 1
  · rw [if_pos h, if_neg (by omega), if_neg (by omega), if_neg (by omega), if_pos (by omega)]
  · rw [if_neg h]
    by_cases h1 : j < 330
    · rw [if_pos h1, if_pos h1]
    · rw [if_neg h1, if_neg h1]
      by_cases h2 : j = 330
      · rw [if_pos h2, if_pos h2]
      · rw [if_neg h2, if_neg h2]
        by_cases h3 : j < 338
        · rw [if_pos h3, if_pos h3]
        · rw [if_neg h3, if_neg h3, if_neg (by omega), if_neg (by omega)]
theorem rh_p (p q : Pl) (l : Value) (e : En) (i : Bool) (u : Value) (j : Nat) (hj : j < 340) : patch (rhc p l e i u) 0 330 (pc q) j = rhc q l e i u j := by
  unfold patch rhc
  by_cases h : j < 330
  · rw [if_pos (by omega), if_pos h]; rfl
  · rw [if_neg (by omega), if_neg h, if_neg h]
theorem nt_wh (n : Nt) (b : Bool) (j : Nat) (hj : j < 342) : patch (ntc n) 3 1 (fun _ => .bool b) j = ntc { n with wh := b } j := by
  unfold patch ntc
  by_cases h : j = 3
  · subst h; rfl
  · rw [if_neg (by omega)]
    by_cases h1 : j < 12
    · rw [if_pos h1, if_pos h1]
      rcases j with _ | _ | _ | _ | j
      · rfl
      · rfl
      · rfl
      · omega
      · cases j <;> rfl
    · rw [if_neg h1, if_neg h1]
theorem nt_p (n : Nt) (p : Pl) (j : Nat) (hj : j < 342) : patch (ntc n) 12 330 (pc p) j = ntc { n with p := p } j := by
  unfold patch ntc
  by_cases h : 12 ≤ j
  · rw [if_pos (by omega), if_neg (by omega)]
  · rw [if_neg (by omega), if_pos (by omega), if_pos (by omega)]
theorem nt_e (n : Nt) (e : En) (j : Nat) (hj : j < 342) : patch (ntc n) 5 7 (enc e) j = ntc { n with e := e } j := by
  unfold patch ntc
  by_cases h : 5 ≤ j ∧ j < 12
  · rw [if_pos (by omega), if_pos (by omega)]
    rcases j with _ | _ | _ | _ | _ | j
    · omega
    · omega
    · omega
    · omega
    · omega
    · rfl
  · rw [if_neg (by omega)]
    by_cases h1 : j < 12
    · rw [if_pos h1, if_pos h1]
      rcases j with _ | _ | _ | _ | _ | j
      · rfl
      · rfl
      · rfl
      · rfl
      · rfl
      · omega
    · rw [if_neg h1, if_neg h1]
theorem build_nt2 (u b v : Int) (w : World) : (Instr.build 88 #[(0, .int .i64 u), (1, .int .i64 b), (2, .int .i64 v)]).run Tryz.prog w = .ok (.agg (FA 342 (ntc ⟨u, b, v, false, false, zEn, zPl⟩))) w := run_build w _ _ _ (by kernel_rfl)
theorem info_nt2f : (Tryz.prog.info? 88).map (fun i => (i.zero, i.size, i.bytes)) = some (some (.agg (NA zNt)), 342, 2728) := by kernel_rfl
theorem run_bs2 (x : Nt) (w : World) : (Instr.buildSlice 78 1 #[(0, .agg (FA 342 (ntc x)))]).run Tryz.prog w = .ok (.slice (some ⟨w.heap.size, 0, none⟩) 1 1) (w.alloc (.cells (FA 342 (ntc x)) 88)) := by
  obtain ⟨i0, hi, hz0, hz1, hz2⟩ := info_parts info_nt2f
  refine run_buildSlice (P := Tryz.prog) w _ _ 1 _ (FA 342 (ntc x)) i0 (.agg (NA zNt)) Tryz.underlying78 hi hz0 (by rw [hz1]; omega) (by rw [hz1]; omega) ?_
  rw [hz1]
  kernel_rfl
section
variable {S : List Nat} {W w : World} {L A B : List Th} {Q : Exit → Act → World → Prop} {o : Oper} {a : Act} {K : Act → World → Prop}
theorem ow_bs2 {x : Operand} {nt : Nt} (ho : o.op = .buildSlice 78 1 #[(0, x)]) (hx : a.eval x = .agg (FA 342 (ntc nt))) (hS : HS S W w L)
    (h : ∀ X w', HS S W w' (thB X 342 (ntc nt) :: L) → K (a.put o.dst (.slice (some ⟨X, 0, none⟩) 1 1)) w') : o.wp Tryz.prog a w K Q := by
  refine ow_val (v := .slice (some ⟨w.heap.size, 0, none⟩) 1 1) (w' := w.alloc (.cells (FA 342 (ntc nt)) 88)) ?_ (h _ _ (hS.boxed (n := 342) (ntc nt)))
  unfold execOp
  simp only [ho, List.map_toArray, List.map_cons, List.map_nil, hx, Sem.run_bind, run_bs2, Result.andThen_ok, Sem.run_pure]
theorem ow_app2 (s x : Operand) (ho : o.op = .call { callee := .builtin .append, args := #[s, x], argTypes := #[78, 78] }) {V : Value} {l : List Nt} {nt : Nt} (hs : a.eval s = V) {X c : Nat} (hx : a.eval x = .slice (some ⟨X, 0, none⟩) 1 c) (hS : HS S W w (A ++ thNt V l :: B)) (hr : Fb w X 342 (ntc nt)) (hl : l.length ≤ 1000000)
    (h : ∀ V' w', HS S W w' (A ++ thNt V' (l ++ [nt]) :: B) → K (a.put o.dst V') w') : o.wp Tryz.prog a w K Q := by
  obtain ⟨i0, hi, hz0, hz1, hz2⟩ := info_parts info_nt2f
  refine ow_appW s x ho (B := 0) (z := .agg (NA zNt)) (bytes := 2728) Tryz.underlying78 hi hz0 hz1 hz2 (na_size _) (by decide) hs hx (f2 := ntc nt) hS hr.sl (fun j _ => ntc_one _ _) (by simp only [maxLen]; omega) (by omega) (Nat.zero_le _) (ntf (l ++ [nt])) (fun j hj => ntf_app l nt j hj) (fun A' c' w' hS' _ _ => ?_)
  refine h _ _ ?_
  have e : thNt (.slice A' (l.length + 1) c') (l ++ [nt]) = thW 0 88 342 (.slice A' (l.length + 1) c') (l.length + 1) (ntf (l ++ [nt])) := by unfold thNt; rw [List.length_append, List.length_singleton]
  rw [e]
  exact hS'
theorem send_wd (h : Hd) : (sendH h).wd = h.wd := by
  unfold sendH
  split
  · unfold pubH
    split
    · rfl
    · split <;> rfl
  · rfl
theorem HS.firstE2 {V : Value} {q : List En} {e : En} {t : List En} {G n c : Nat} (h : HS S W w L) (k : Nat) (hk : L[k]? = some (thQ V q)) (hq : q = e :: t) (hV : V = .slice (some ⟨G, 0, none⟩) n c) : Ce w G (enL e) ∧ Se w (some ⟨G, 0, none⟩) n (lsE q) := by
  subst hq hV
  have hO : Ow w 0 44 7 (.slice (some ⟨G, 0, none⟩) n c) (e :: t).length (fun j => enc (lsE (e :: t) (j / 7)) (j % 7)) := h.nth k hk
  obtain ⟨A, c', hA, hc, _⟩ := Ow.form_ hO
  injection hA with a1 a2 a3
  subst a2
  obtain ⟨G', hG, _, hl, hcell, hf⟩ := hO.block_ (by simp)
  injection hG with hG
  injection hG with hG
  subst hG
  refine ⟨⟨hl, fun j v hj => ?_, hf⟩, Ow.sl hO⟩
  have hj7 : j < 7 := by
    have := (List.getElem?_eq_some_iff.1 hj).1
    simpa [enL] using this
  rw [hcell j (by simp; omega)]
  rw [enL_at e j hj7] at hj
  rw [← hj, show j / 7 = 0 by omega, show j % 7 = j by omega]
  rfl
theorem HS.firstE {V : Value} {q : List En} {e : En} {t : List En} (h : HS S W w L) (k : Nat) (hk : L[k]? = some (thQ V q)) (hq : q = e :: t) : ∃ G c : Nat, V = .slice (some ⟨G, 0, none⟩) q.length c ∧ q.length ≤ c ∧ Ce w G (enL e) ∧ Se w (some ⟨G, 0, none⟩) q.length (lsE q) := by
  subst hq
  obtain ⟨A, c, hV, hc⟩ := thW_form h k hk
  subst hV
  have hO : Ow w 0 44 7 (.slice A (e :: t).length c) (e :: t).length (fun j => enc (lsE (e :: t) (j / 7)) (j % 7)) := h.nth k hk
  obtain ⟨G, hG, _, hl, hcell, hf⟩ := hO.block_ (by simp)
  subst hG
  refine ⟨G, c, rfl, hc, ⟨hl, fun j v hj => ?_, hf⟩, Ow.sl hO⟩
  have hj7 : j < 7 := by
    have := (List.getElem?_eq_some_iff.1 hj).1
    simpa [enL] using this
  rw [hcell j (by simp; omega)]
  rw [enL_at e j hj7] at hj
  rw [← hj, show j / 7 = 0 by omega, show j % 7 = j by omega]
  rfl
end
attribute [local irreducible] FA FL
set_option maxHeartbeats 16000000 in
theorem rh_send {S : List Nat} {W w : World} {L : List Th} {hb ug uc : Nat} {h : Hd} {V : Value} (hS : HS S W w (thB hb 340 (rhc h.pl V h.la (h.la.k != 0) (.slice (some ⟨ug, 0, none⟩) h.un uc)) :: thQ V h.q :: thWd (.slice (some ⟨ug, 0, none⟩) h.un uc) h.un h.wd :: L)) (hu : 1 ≤ h.un ∧ h.un ≤ 16) (hp : PB h.pl) (hok : ∀ e t, h.q = e :: t → (apR h.pl e).2 = 0 ∧ (e.k != 0) = true) (hlq : h.q.length ≤ 1000) (hv2 : 0 ≤ (sendH h).pl.v ∧ (sendH h).pl.v ≤ 1000000000) :
    Calls Tryz.prog 33 #[.pointer (some ⟨hb, 0, none⟩)] w fun x w' => ∃ (V1 N : Value) (H : Hd), x = .returned N ∧ H = sendH h ∧ HS S W w' (thNt N (notesK H h.un) :: thB hb 340 (rhc H.pl V1 H.la (H.la.k != 0) (.slice (some ⟨ug, 0, none⟩) h.un uc)) :: thQ V1 H.q :: thWd (.slice (some ⟨ug, 0, none⟩) h.un uc) h.un h.wd :: L) := by
  have S0 := hid hS
  clear hS
  obtain ⟨A0, c0, hV, _⟩ := thW_form S0.out 1 rfl
  have HV := hid hV
  obtain ⟨n0, hn0⟩ : ∃ n, n = h.q.length := ⟨_, rfl⟩
  rw [← hn0] at hV
  obtain ⟨b0, hb0⟩ : ∃ b : Bool, b = decide (0 < n0) := ⟨_, rfl⟩
  have HB0 := hid (show b0 = decide (0 < h.q.length) from by rw [hb0, hn0])
  have HB1 := hid hb0
  have c330 : w.cell? ⟨hb, 330, none⟩ = some (.slice A0 n0 c0) := ((S0.out.fb 0 rfl).2.1 330 (by omega)).trans (by rw [← hV]; rfl)
  obtain ⟨un, hun⟩ : ∃ u, u = h.un := ⟨_, rfl⟩
  have HUN := hid hun
  have c339 : w.cell? ⟨hb, 339, none⟩ = some (.slice (some ⟨ug, 0, none⟩) un uc) := ((S0.out.fb 0 rfl).2.1 339 (by omega)).trans (by rw [hun]; rfl)
  obtain ⟨pv, hpv⟩ : ∃ v, v = h.pl.v := ⟨_, rfl⟩
  have HPV := hid hpv
  have HP := hid hp
  have HOK := hid hok
  have HU := hid hu
  have hun16 : un ≤ 16 := by rw [hun]; exact hu.2
  obtain ⟨H, hH⟩ : ∃ H, H = sendH h := ⟨_, rfl⟩
  have HH := hid hH
  have HV2 := hid hv2
  have HLQ := hid (show n0 ≤ 1000 by rw [hn0]; exact hlq)
  clear hV hn0 hb0 hun hpv hp hok hu hH hv2
  go_enter Tryz.func33, Tryz.ntmps33
  go_upto_region 1 with (fail)
  go_cut [3] from 9 to 14 (fun s wx => s = .bool b0 ∧ w = wx)
  case first =>
    by_cases hn : 0 < n0
    · have i0 : (0 : Int) < n0 := by omega
      go_wp2_with fail
      go_meet
      exact ⟨by rw [HB1.out]; simp [hn], rfl⟩
    · have i0 : ¬ (0 : Int) < n0 := by omega
      go_wp2_with fail
      go_meet
      exact ⟨by rw [HB1.out]; simp [hn], rfl⟩
  case rest =>
    obtain ⟨rfl, rfl⟩ := hcut
    clear c330 c339
    skip
    go_wp2_with fail
    go_loopg [4, 3] un (fun gh i s wx => ∃ k : Nat, gh = un - k ∧ k ≤ un ∧ i = .int .i64 (k : Int) ∧ s = .bool (b0 && allK h k) ∧ HS S W wx (thB hb 340 (rhc h.pl V h.la (h.la.k != 0) (.slice (some ⟨ug, 0, none⟩) h.un uc)) :: thQ V h.q :: thWd (.slice (some ⟨ug, 0, none⟩) h.un uc) h.un h.wd :: L))
    case atStart => exact ⟨0, by omega, Nat.zero_le _, rfl, by simp [allK], S0.out⟩
    case round =>
      obtain ⟨k, hgh, hk, rfl, rfl, hS⟩ := hrel
      have U0 := hid hS
      clear hS S0
      have c339 : wr.cell? ⟨hb, 339, none⟩ = some (.slice (some ⟨ug, 0, none⟩) un uc) := ((U0.out.fb 0 rfl).2.1 339 (by omega)).trans (by rw [HUN.out]; rfl)
      by_cases hlt : k < un
      · have i1 : (k : Int) < un := by omega
        have z1 : (0 : Int) ≤ k := by omega
        have c0_ : wr.cell? ⟨hb, 0, none⟩ = some (.int .i64 pv) := ((U0.out.fb 0 rfl).2.1 0 (by omega)).trans (by rw [HPV.out]; rfl)
        obtain ⟨g1, y0, y1, _, _⟩ := wo_cells (U0.out.nth 2 rfl) (show k < h.un by rw [← HUN.out]; exact hlt)
        obtain ⟨wv, hwv⟩ : ∃ v, v = (h.wd k).v := ⟨_, rfl⟩
        have HWV := hid hwv
        rw [← hwv] at y1
        obtain ⟨b1, hb1⟩ : ∃ b : Bool, b = (b0 && allK h k) := ⟨_, rfl⟩
        have HBB := hid hb1
        rw [← hb1]
        clear hwv hb1
        cases b1
        · go_upto_region 5 with (fail)
          skip
          go_quiet (fail)
          go_wp2_with fail
          go_roundg (un - (k + 1))
          case rel => exact ⟨k + 1, by omega, by omega, by go_num, by rw [allK_s, ← Bool.and_assoc, ← HBB.out]; rfl, U0.out.drewN _⟩
          case measure => omega
        · cases e1 : (wv == pv)
          all_goals
            go_upto_region 5 with (fail)
            go_quiet (fail)
            go_wp2_with fail
            go_roundg (un - (k + 1))
            case rel => exact ⟨k + 1, by omega, by omega, by go_num, by rw [allK_s, ← Bool.and_assoc, ← HBB.out, ← HWV.out, ← HPV.out, e1]; rfl, U0.out.drewN _⟩
            case measure => omega
      · have i1 : ¬ (k : Int) < un := by omega
        have hku : un = k := by omega
        subst hku
        obtain ⟨b1, hb1⟩ : ∃ b : Bool, b = (b0 && allB h) := ⟨_, rfl⟩
        have HBB := hid hb1
        have hbk : (b0 && allK h un) = b1 := by rw [hb1, HUN.out]; rfl
        rw [hbk]
        clear hb1 hbk
        go_upto_if 41 with (fail)
        clear c339
        go_cut [] from 42 to 80 (fun wx => ∃ V1, HS S W wx (thB hb 340 (rhc H.pl V1 H.la (H.la.k != 0) (.slice (some ⟨ug, 0, none⟩) h.un uc)) :: thQ V1 H.q :: thWd (.slice (some ⟨ug, 0, none⟩) h.un uc) h.un h.wd :: L))
        case first =>
          cases b1
          · have e : H = h := by
              rw [HH.out]
              unfold sendH
              split
              · rename_i hA
                have h1 := HBB.out
                rw [hA, Bool.and_true, HB0.out] at h1
                have h2 : ¬ 0 < h.q.length := by simpa using h1.symm
                unfold pubH
                cases hq : h.q with
                | nil => rfl
                | cons e t => rw [hq] at h2; simp at h2
              · rfl
            go_wp2_with fail
            go_meet
            exact ⟨V, by rw [e]; exact U0.out⟩
          · have hB := HBB.out.symm
            rw [Bool.and_eq_true] at hB
            have hqn : 0 < h.q.length := by have := hB.1; rw [HB0.out] at this; simpa using this
            obtain ⟨e, t, hq⟩ : ∃ e t, h.q = e :: t := by
              cases hq : h.q with
              | nil => rw [hq] at hqn; simp at hqn
              | cons e t => exact ⟨e, t, rfl⟩
            obtain ⟨k0, kk⟩ := HOK.out e t hq
            have eH : H = { h with pl := (apR h.pl e).1, la := e, q := t } := by
              rw [HH.out]
              unfold sendH pubH
              rw [if_pos hB.2, hq]
              simp only [if_pos k0]
            have EH := hid eH
            have KK := hid kk
            have HQ := hid hq
            have K0 := hid k0
            clear hB hqn hq k0 kk eH
            have RP := hid (fun w => rapply_fb h.pl e HP.out w)
            obtain ⟨G, c1, hV, hc1, hCe, hSe⟩ := HS.firstE U0.out 1 rfl HQ.out
            obtain ⟨n1, hn1⟩ : ∃ n, n = h.q.length := ⟨_, rfl⟩
            have HN1 := hid (show n1 = t.length + 1 from by rw [hn1, HQ.out]; rfl)
            have HN := hid hn1
            rw [← hn1] at hV hc1
            have c330 : wr.cell? ⟨hb, 330, none⟩ = some (.slice (some ⟨G, 0, none⟩) n1 c1) := ((U0.out.fb 0 rfl).2.1 330 (by omega)).trans (by rw [← hV]; rfl)
            have i2 : (0 : Int) < n1 := by have := HN1.out; omega
            have i3 : 0 < n1 := by have := HN1.out; omega
            have HCE := hid hCe
            have HLQ2 := hid (show n1 ≤ 1000 by rw [hn1]; exact hlq)
            have HVV := hid hV
            have HC1 := hid hc1
            clear hSe hn1 hV hc1 hCe
            have XX := HCE.out
            have x0 := XX.2.1 0 _ rfl
            have x1 := XX.2.1 1 _ rfl
            have x2 := XX.2.1 2 _ rfl
            have x3 := XX.2.1 3 _ rfl
            have x4 := XX.2.1 4 _ rfl
            have x5 := XX.2.1 5 _ rfl
            have x6 := XX.2.1 6 _ rfl
            clear XX
            go_upto_region 7 with (fail)
            skip
            apply wp_region_lit
            refine wl_val (v := ?_) rfl ?_ ?_; rotate_left; (focus ( go_simp; (try with_reducible rfl))); (try simp only [Act.put, List.setIfInBounds_toArray, List.set_cons_zero, List.set_cons_succ])
            refine wl_val (v := ?_) rfl ?_ ?_; rotate_left; (focus ( go_simp; (try with_reducible rfl))); (try simp only [Act.put, List.setIfInBounds_toArray, List.set_cons_zero, List.set_cons_succ])
            refine wl_val (v := ?_) rfl ?_ ?_; rotate_left; (focus ( go_simp; (try with_reducible rfl))); (try simp only [Act.put, List.setIfInBounds_toArray, List.set_cons_zero, List.set_cons_succ])
            refine wl_val (v := ?_) rfl ?_ ?_; rotate_left; (focus ( go_simp; (try with_reducible rfl))); (try simp only [Act.put, List.setIfInBounds_toArray, List.set_cons_zero, List.set_cons_succ])
            refine wl_val (v := ?_) rfl ?_ ?_; rotate_left; (focus ( go_simp; (try with_reducible rfl))); (try simp only [Act.put, List.setIfInBounds_toArray, List.set_cons_zero, List.set_cons_succ])
            refine wl_val (v := ?_) rfl ?_ ?_; rotate_left; (focus ( go_simp; (try with_reducible rfl))); (try simp only [Act.put, List.setIfInBounds_toArray, List.set_cons_zero, List.set_cons_succ])
            refine wl_val (v := ?_) rfl ?_ ?_; rotate_left; (focus ( go_simp; (try with_reducible rfl))); (try simp only [Act.put, List.setIfInBounds_toArray, List.set_cons_zero, List.set_cons_succ])
            refine wl_val (v := ?_) rfl ?_ ?_; rotate_left; (focus ( go_simp; (try with_reducible rfl))); (try simp only [Act.put, List.setIfInBounds_toArray, List.set_cons_zero, List.set_cons_succ])
            refine wl_val (v := ?_) rfl ?_ ?_; rotate_left; (focus ( go_simp; (try with_reducible rfl))); (try simp only [Act.put, List.setIfInBounds_toArray, List.set_cons_zero, List.set_cons_succ])
            refine wl_val (v := ?_) rfl ?_ ?_; rotate_left; (focus ( go_simp; (try with_reducible rfl))); (try simp only [Act.put, List.setIfInBounds_toArray, List.set_cons_zero, List.set_cons_succ])
            refine wl_ow rfl (ow_storeE (A := []) 331 e (rhc h.pl V e (h.la.k != 0) (.slice (some ⟨ug, 0, none⟩) h.un uc)) rfl rfl rfl U0.out (by omega) (fun j hj => rh_e _ _ _ _ _ _ j hj) ?_)
            intro w2 hZ
            have U1 : Hid (HS S W w2 (thB hb 340 (rhc h.pl V e (h.la.k != 0) (.slice (some ⟨ug, 0, none⟩) h.un uc)) :: thQ V h.q :: thWd (.slice (some ⟨ug, 0, none⟩) h.un uc) h.un h.wd :: L)) := hid hZ
            clear hZ U0
            try simp only [Act.put, List.setIfInBounds_toArray, List.set_cons_zero, List.set_cons_succ]
            skip
            refine wl_val (v := ?_) rfl ?_ ?_; rotate_left; (focus ( go_simp; (try with_reducible rfl))); (try simp only [Act.put, List.setIfInBounds_toArray, List.set_cons_zero, List.set_cons_succ])
            refine wl_val (v := ?_) rfl ?_ ?_; rotate_left; (focus ( go_simp; (try with_reducible rfl))); (try simp only [Act.put, List.setIfInBounds_toArray, List.set_cons_zero, List.set_cons_succ])
            refine wl_ow rfl (ow_store1 (A := []) 338 (.bool true) (rhc h.pl V e true (.slice (some ⟨ug, 0, none⟩) h.un uc)) rfl rfl rfl (by kernel_rfl) U1.out (by omega) (fun j hj => rh_i _ _ _ _ _ _ j hj) ?_)
            intro w3 hZ
            have U2 : Hid (HS S W w3 (thB hb 340 (rhc h.pl V e true (.slice (some ⟨ug, 0, none⟩) h.un uc)) :: thQ V h.q :: thWd (.slice (some ⟨ug, 0, none⟩) h.un uc) h.un h.wd :: L)) := hid hZ
            clear hZ U1 x0 x1 x2 x3 x4 x5 x6 c330
            try simp only [Act.put, List.setIfInBounds_toArray, List.set_cons_zero, List.set_cons_succ]
            go_upto_region 8 with (fail)
            skip
            refine wp_region_held_drew (S := fun (w' : World) => ∃ p', HS S W w' (thB hb 340 (rhc p' V e true (.slice (some ⟨ug, 0, none⟩) h.un uc)) :: thQ V h.q :: thWd (.slice (some ⟨ug, 0, none⟩) h.un uc) h.un h.wd :: L)) (by kernel_rfl) ?_ (fun hHeld => ?_)
            · exact ⟨_, U2.out.drew⟩
            have F0 := U2.out.drew
            refine tkq 0 hHeld ?_
            refine tkq 1 hHeld ?_
            refine tkq 2 hHeld ?_
            refine tkq 3 hHeld ?_
            refine tkq 5 hHeld ?_
            refine tkq 6 hHeld ?_
            refine tkq 7 hHeld ?_
            refine tkq 8 hHeld ?_ (hy := by intro w hSw; (try dsimp only at hSw); obtain ⟨_, hS2⟩ := hSw; have xc : w.cell? ⟨hb, 330, none⟩ = some (.slice (some ⟨G, 0, none⟩) n1 c1) := ((hS2.fb 0 rfl).2.1 330 (by omega)).trans (by rw [← HVV.out]; rfl); go_simp; (try with_reducible rfl))
            refine tkq 9 hHeld ?_
            refine tkq 10 hHeld ?_ (hy := by intro w hSw; (try dsimp only at hSw); obtain ⟨_, hS2⟩ := hSw; have XX := (HS.firstE2 hS2 1 rfl HQ.out HVV.out).1; have x0 := XX.2.1 0 _ rfl; have x1 := XX.2.1 1 _ rfl; have x2 := XX.2.1 2 _ rfl; have x3 := XX.2.1 3 _ rfl; have x4 := XX.2.1 4 _ rfl; have x5 := XX.2.1 5 _ rfl; have x6 := XX.2.1 6 _ rfl; go_simp; (try with_reducible rfl))
            refine only 4 rfl (by kernel_rfl) rfl (fun K hK => ?_)
            refine ov_val (v := .agg (FA 330 (pc h.pl))) (ex_load rfl rfl ((F0.fb 0 rfl).load 0 330 (pc h.pl) (by omega) (rh_pool _ _ _ _ _) Tryz.underlying33 rfl info_pl)) ?_
            refine hK.out _ _ ⟨_, F0⟩ (fun hHeld => ?_)
            clear hK
            try simp only [Act.put, List.setIfInBounds_toArray, List.set_cons_zero, List.set_cons_succ]
            refine only 11 rfl (by kernel_rfl) rfl (fun K hK => ?_)
            go_simp
            refine (RP.out _).mono ?_
            rintro x w4 ⟨rfl, hb4⟩
            try go_wp2_with fail
            have F1 := F0.below hb4
            refine hK.out _ _ ⟨_, F1⟩ (fun h4 => ?_)
            clear hK hb4 F0
            try simp only [Act.put, List.setIfInBounds_toArray, List.set_cons_zero, List.set_cons_succ]
            refine tkq 12 h4 ?_
            refine tkq 13 h4 ?_
            refine tkq 14 h4 ?_
            refine tkq 15 h4 ?_
            refine tkq 16 h4 ?_
            refine only 17 rfl (by kernel_rfl) rfl (fun K hK => ?_)
            refine ow_store (A := []) 0 330 (pc (apR h.pl e).1) (rhc (apR h.pl e).1 V e true (.slice (some ⟨ug, 0, none⟩) h.un uc)) rfl rfl rfl F1 (by omega) (fun j hj => rh_p _ _ _ _ _ _ j hj) info_pl (pc_one _) (fun w5 hZ => ?_)
            refine hK.out _ _ ⟨_, hZ⟩ (fun _ => ?_)
            have U3 : Hid (HS S W w5 (thB hb 340 (rhc (apR h.pl e).1 V e true (.slice (some ⟨ug, 0, none⟩) h.un uc)) :: thQ V h.q :: thWd (.slice (some ⟨ug, 0, none⟩) h.un uc) h.un h.wd :: L)) := hid hZ
            clear hK hZ F1 h4 hHeld U2 RP
            try simp only [Act.put, List.setIfInBounds_toArray, List.set_cons_zero, List.set_cons_succ]
            refine wpAnyH_done (by kernel_rfl) ?_ _
            go_upto_region 9 with (fail)
            skip
            have hSe : Se w5 (some ⟨G, 0, none⟩) n1 (lsE h.q) := by
              exact (HS.firstE2 U3.out 1 rfl HQ.out HVV.out).2
            have HSE := hid hSe
            clear hSe
            obtain ⟨A9, s1, s2⟩ := cut_from elem_e9 size_e9 (some ⟨G, 0, none⟩) n1 c1 1 (by omega) HC1.out 1 rfl
            replace s2 := hid s2
            apply wp_region_lit
            refine wl_val (v := ?_) rfl ?_ ?_; rotate_left; (focus ( go_simp; (try with_reducible rfl))); (try simp only [Act.put, List.setIfInBounds_toArray, List.set_cons_zero, List.set_cons_succ])
            refine wl_ow rfl (ow_val (v := .slice (some ⟨w5.heap.size, 0, none⟩) 0 0) (w' := w5.alloc (.cells #[] 44)) (by unfold execOp; simp only [List.map_toArray, List.map_nil, Sem.run_bind, run_bs0, Result.andThen_ok, Sem.run_pure]) ?_)
            try simp only [Act.put, List.setIfInBounds_toArray, List.set_cons_zero, List.set_cons_succ]
            have U4 : Hid (HS S W (w5.alloc (.cells #[] 44)) (thE (.slice (some ⟨w5.heap.size, 0, none⟩) 0 0) 0 (lsE t) :: thB hb 340 (rhc (apR h.pl e).1 V e true (.slice (some ⟨ug, 0, none⟩) h.un uc)) :: thQ V h.q :: thWd (.slice (some ⟨ug, 0, none⟩) h.un uc) h.un h.wd :: L)) := hid (U3.out.new (thE (.slice (some ⟨w5.heap.size, 0, none⟩) 0 0) 0 (lsE t)) ((Below.refl _ _).alloc (Nat.le_refl _) _) (Ow.new (Nat.zero_le _)) (by simp [thE, thW, Value.ownBlock]) (fun b hb => by simp [thE, thW, Value.ownBlock] at hb; omega))
            have HSE2 := hid (HSE.out.alloc (.cells #[] 44))
            generalize w5.alloc (.cells #[] 44) = w6 at *
            generalize w5.heap.size = X at *
            have c330 : w6.cell? ⟨hb, 330, none⟩ = some (.slice (some ⟨G, 0, none⟩) n1 c1) := ((U4.out.fb 1 rfl).2.1 330 (by omega)).trans (by rw [← HVV.out]; rfl)
            clear U3 HSE
            refine wl_val (v := ?_) rfl ?_ ?_; rotate_left; (focus ( go_simp; (try with_reducible rfl))); (try simp only [Act.put, List.setIfInBounds_toArray, List.set_cons_zero, List.set_cons_succ])
            refine wl_val (v := ?_) rfl ?_ ?_; rotate_left; (focus ( go_simp; (try with_reducible rfl))); (try simp only [Act.put, List.setIfInBounds_toArray, List.set_cons_zero, List.set_cons_succ])
            refine wl_val (v := ?_) rfl ?_ ?_; rotate_left; (focus ( go_simp; (try with_reducible rfl))); (try simp only [Act.put, List.setIfInBounds_toArray, List.set_cons_zero, List.set_cons_succ])
            refine wl_val (v := ?_) rfl ?_ ?_; rotate_left; (focus ( go_simp; (try with_reducible rfl))); (try simp only [Act.put, List.setIfInBounds_toArray, List.set_cons_zero, List.set_cons_succ])
            refine wl_val (v := ?_) rfl ?_ ?_; rotate_left; (focus ( go_simp; (try with_reducible rfl))); (try simp only [Act.put, List.setIfInBounds_toArray, List.set_cons_zero, List.set_cons_succ])
            obtain ⟨i0, hi, hz0, hz1, hz2⟩ := info_parts info_e
            skip
            refine wl_ow rfl (ow_appW (A := []) (L := thB hb 340 (rhc (apR h.pl e).1 V e true (.slice (some ⟨ug, 0, none⟩) h.un uc)) :: thQ V h.q :: thWd (.slice (some ⟨ug, 0, none⟩) h.un uc) h.un h.wd :: L) (B := 0) (.tmp 72) (.tmp 77) rfl (z := .agg #[.int .i64 0, .int .i64 0, .int .i64 0, .int .i64 0, .int .i64 0, .int .u64 0, .int .u64 0]) (bytes := 56) Tryz.underlying46 hi hz0 hz1 hz2 rfl (by decide) rfl (X := A9) (m := n1 - 1) (c := c1 - 1) (f2 := fun j => enc (lsE h.q ((1 * 7 + j) / 7)) ((1 * 7 + j) % 7)) rfl U4.out (s2.out _ _ HSE2.out) (fun j _ => enc_one _ _) (by simp only [maxLen]; have := HLQ2.out; omega) (by have := HLQ2.out; omega) (Nat.zero_le _) (fun j => enc (lsE t (j / 7)) (j % 7)) (fun j hj => ?_) (fun A' c' w7 hZ _ _ => ?_))
            · unfold two
              rw [if_neg (by omega)]
              show enc (lsE h.q ((1 * 7 + (j - 0 * 7)) / 7)) ((1 * 7 + (j - 0 * 7)) % 7) = _
              rw [show (1 * 7 + (j - 0 * 7)) / 7 = j / 7 + 1 by omega, show (1 * 7 + (j - 0 * 7)) % 7 = j % 7 by omega]
              unfold lsE
              rw [HQ.out]
              rfl
            have hL : 0 + (n1 - 1) = t.length := by have := HN1.out; omega
            have U5 : Hid (HS S W w7 (thQ (.slice A' (0 + (n1 - 1)) c') t :: thB hb 340 (rhc (apR h.pl e).1 V e true (.slice (some ⟨ug, 0, none⟩) h.un uc)) :: thQ V h.q :: thWd (.slice (some ⟨ug, 0, none⟩) h.un uc) h.un h.wd :: L)) := hid (by unfold thQ; rw [← hL]; exact hZ)
            clear hZ U4 HSE2 s1 s2 c330
            try simp only [Act.put, List.setIfInBounds_toArray, List.set_cons_zero, List.set_cons_succ]
            have c330 : w7.cell? ⟨hb, 330, none⟩ = some V := (U5.out.fb 1 rfl).2.1 330 (by omega)
            have z330 := (U5.out.fb 1 rfl).2.2 330
            generalize 0 + (n1 - 1) = m9 at *
            refine wl_val (v := ?_) rfl ?_ ?_; rotate_left; (focus ( go_simp; (try with_reducible rfl))); (try simp only [Act.put, List.setIfInBounds_toArray, List.set_cons_zero, List.set_cons_succ])
            refine wl_val (v := ?_) rfl ?_ ?_; rotate_left; (focus ( go_simp; (try with_reducible rfl))); (try simp only [Act.put, List.setIfInBounds_toArray, List.set_cons_zero, List.set_cons_succ])
            refine wl_ow rfl (ov_store rfl rfl rfl (w' := w7.setCell ⟨hb, 330, none⟩ (.slice A' m9 c')) (by go_simp) ?_)
            try simp only [Act.put, List.setIfInBounds_toArray, List.set_cons_zero, List.set_cons_succ]
            have U6 := hid (HS.set1v (A := [thQ (.slice A' m9 c') t]) U5.out 330 (.slice A' m9 c') (by omega) (rhc (apR h.pl e).1 (.slice A' m9 c') e true (.slice (some ⟨ug, 0, none⟩) h.un uc)) (fun j hj => rh_l _ _ _ _ _ _ j hj))
            generalize w7.setCell ⟨hb, 330, none⟩ (.slice A' m9 c') = w8 at *
            clear U5 c330 z330
            go_wp2_with fail
            go_meet
            have h9 := HS.drop (A := [thQ (.slice A' m9 c') t, thB hb 340 (rhc (apR h.pl e).1 (.slice A' m9 c') e true (.slice (some ⟨ug, 0, none⟩) h.un uc))]) U6.out
            have h10 := h9.perm (List.Perm.swap _ _ _)
            exact ⟨.slice A' m9 c', by rw [EH.out]; show HS S W w8 (thB hb 340 (rhc (apR h.pl e).1 (.slice A' m9 c') e (e.k != 0) (.slice (some ⟨ug, 0, none⟩) h.un uc)) :: thQ (.slice A' m9 c') t :: thWd (.slice (some ⟨ug, 0, none⟩) h.un uc) h.un h.wd :: L); rw [KK.out]; exact h10⟩
        case rest =>
          clear U0 HB0 HB1 HV HP HOK HBB
          obtain ⟨V1, hz⟩ := hcut
          have U1 := hid hz
          clear hz
          skip
          have HUN2 := hid (show H.un = h.un from by rw [HH.out]; exact send_un h)
          have HWD2 := hid (show H.wd = h.wd from by rw [HH.out]; exact send_wd h)
          have HV3 := hid (show 0 ≤ H.pl.v ∧ H.pl.v ≤ 1000000000 from by rw [HH.out]; exact HV2.out)
          obtain ⟨pw, hpw⟩ : ∃ v, v = H.pl.v := ⟨_, rfl⟩
          have HPW := hid hpw
          clear hpw HV2
          have U2 := hid (show HS S W _ (thNt (.slice none 0 0) (notesK H 0) :: thB hb 340 (rhc H.pl V1 H.la (H.la.k != 0) (.slice (some ⟨ug, 0, none⟩) h.un uc)) :: thQ V1 H.q :: thWd (.slice (some ⟨ug, 0, none⟩) h.un uc) h.un h.wd :: L) from HS.nilW U1.out)
          clear U1
          go_wp2_with fail
          go_loopg [6, 5] un (fun gh i o wx => ∃ (k : Nat) (N : Value), gh = un - k ∧ k ≤ un ∧ i = .int .i64 (k : Int) ∧ o = N ∧ HS S W wx (thNt N (notesK H k) :: thB hb 340 (rhc H.pl V1 H.la (H.la.k != 0) (.slice (some ⟨ug, 0, none⟩) h.un uc)) :: thQ V1 H.q :: thWd (.slice (some ⟨ug, 0, none⟩) h.un uc) h.un h.wd :: L))
          case atStart => exact ⟨0, .slice none 0 0, by omega, Nat.zero_le _, rfl, rfl, U2.out⟩
          case round =>
            clear U2
            obtain ⟨k, N, hgh, hk, rfl, hN, hS⟩ := hrel
            replace hN := hN.symm
            subst hN
            have U3 := hid hS
            clear hS
            have c339 : _ = some (Value.slice (some ⟨ug, 0, none⟩) un uc) := ((U3.out.fb 1 rfl).2.1 339 (by omega)).trans (by rw [HUN.out]; rfl)
            by_cases hlt : k < un
            · have i1 : (k : Int) < un := by omega
              have z1 : (0 : Int) ≤ k := by omega
              obtain ⟨g1, y0, y1, _, _⟩ := wo_cells (U3.out.nth 3 rfl) (show k < h.un by rw [← HUN.out]; exact hlt)
              obtain ⟨wv, hwv⟩ : ∃ v, v = (h.wd k).v := ⟨_, rfl⟩
              obtain ⟨wb, hwb⟩ : ∃ v, v = (h.wd k).b := ⟨_, rfl⟩
              rw [← hwv] at y1
              rw [← hwb] at y0
              have HWV := hid (show (H.wd k).v = wv from by rw [HWD2.out, hwv])
              have HWB := hid (show (H.wd k).b = wb from by rw [HWD2.out, hwb])
              clear hwv hwb
              skip
              go_upto_region 15 with (first | ((with_reducible refine wl_id ?_); refine wl_ow rfl (ow_allocC rfl (zwd2 _) (by simp) U3.out ?_); intro X w_ hZ _; have U4 := hid hZ; clear hZ) | ((with_reducible refine wl_id ?_); refine wl_ow rfl (ow_storeC (A := []) [.int .i64 wb, .int .i64 wv] rfl rfl (rfl) U4.out rfl iwd2 rfl ?_); intro w_ hZ; have U5 := hid hZ; clear hZ))
              clear c339 y0 y1 g1 U3
              skip
              refine wp_region_held_drew (S := fun (w' : World) => HS S W w' (thC X [.int .i64 wb, .int .i64 wv] :: thNt N (notesK H k) :: thB hb 340 (rhc H.pl V1 H.la (H.la.k != 0) (.slice (some ⟨ug, 0, none⟩) h.un uc)) :: thQ V1 H.q :: thWd (.slice (some ⟨ug, 0, none⟩) h.un uc) h.un h.wd :: L)) (by kernel_rfl) ?_ (fun hHeld => ?_)
              · exact U5.out.drew
              refine tkq 0 hHeld ?_
              refine tkq 1 hHeld ?_
              refine tkq 2 hHeld ?_ (hy := by intro w hSw; (try dsimp only at hSw); have x0_ := (hSw.ce 0 rfl).2.1 0 _ rfl; go_simp; (try with_reducible rfl))
              refine tkq 3 hHeld ?_
              refine tkq 4 hHeld ?_
              refine tkq 5 hHeld ?_
              refine tkq 6 hHeld ?_
              refine tkq 7 hHeld ?_ (hy := by intro w hSw; (try dsimp only at hSw); have c0_ : w.cell? ⟨hb, 0, none⟩ = some (.int .i64 pw) := ((hSw.fb 2 rfl).2.1 0 (by omega)).trans (by rw [HPW.out]; rfl); go_simp; (try with_reducible rfl))
              refine tk 8 (v := .agg (FA 342 (ntc ⟨(k : Int), wb, pw, false, false, zEn, zPl⟩))) rfl (by kernel_rfl) (by kernel_rfl) (by kernel_rfl) (fun _ _ _ h => h) rfl (fun w hSw => ex_build3 rfl rfl rfl rfl (build_nt2 k wb pw w)) hHeld ?_; (try simp only [Act.put, List.setIfInBounds_toArray, List.set_cons_zero, List.set_cons_succ])
              refine only 9 rfl (by kernel_rfl) rfl (fun K hK => ?_)
              refine ow_alloc rfl (znt2 _) (by omega) hHeld (fun Z w6 hN _ => ?_)
              refine hK.out _ _ hN.tail (fun h2 => ?_)
              clear hK hHeld
              try simp only [Act.put, List.setIfInBounds_toArray, List.set_cons_zero, List.set_cons_succ]
              refine only 10 rfl (by kernel_rfl) rfl (fun K hK => ?_)
              refine ow_store (A := []) 0 342 (ntc ⟨(k : Int), wb, pw, false, false, zEn, zPl⟩) (ntc ⟨(k : Int), wb, pw, false, false, zEn, zPl⟩) rfl rfl rfl hN (by omega) (fun j hj => patch_all _ _ _ j hj) info_nt2 (ntc_one _) (fun w7 hN2 => ?_)
              refine hK.out _ _ hN2.tail (fun _ => ?_)
              have V0 : Hid (HS S W w7 (thB Z 342 (ntc ⟨(k : Int), wb, pw, false, false, zEn, zPl⟩) :: thC X [.int .i64 wb, .int .i64 wv] :: thNt N (notesK H k) :: thB hb 340 (rhc H.pl V1 H.la (H.la.k != 0) (.slice (some ⟨ug, 0, none⟩) h.un uc)) :: thQ V1 H.q :: thWd (.slice (some ⟨ug, 0, none⟩) h.un uc) h.un h.wd :: L)) := hid hN2
              clear hK hN hN2 h2 U5 U4
              try simp only [Act.put, List.setIfInBounds_toArray, List.set_cons_zero, List.set_cons_succ]
              refine wpAnyH_done (by kernel_rfl) ?_ _
              have x1 : w7.cell? ⟨X, 1, none⟩ = some (.int .i64 wv) := (V0.out.ce 1 rfl).2.1 1 _ rfl
              have c0_ : w7.cell? ⟨hb, 0, none⟩ = some (.int .i64 pw) := ((V0.out.fb 3 rfl).2.1 0 (by omega)).trans (by rw [HPW.out]; rfl)
              have c338 : w7.cell? ⟨hb, 338, none⟩ = some (.bool (H.la.k != 0)) := (V0.out.fb 3 rfl).2.1 338 (by omega)
              by_cases hge : pw ≤ wv
              · have HNL := hid (show ¬ (H.wd k).v < H.pl.v from by rw [HWV.out, ← HPW.out]; omega)
                go_upto_region 17 with (fail)
                skip
                go_quiet (fail)
                go_wp2_with fail
                go_roundg (un - (k + 1))
                case rel =>
                  refine ⟨k + 1, N, by omega, by omega, by go_num, rfl, ?_⟩
                  rw [notesK_succ, if_neg (by have := HNL.out; omega)]
                  exact HS.tail (HS.tail (V0.out.drewN _))
                case measure => omega
              · have HLT := hid (show (H.wd k).v < H.pl.v from by rw [HWV.out, ← HPW.out]; omega)
                have q1 : IntKind.i64.wrap (pw - 1) = pw - 1 := IntWalk.i64_in _ (by have := HV3.out; rw [← HPW.out] at this; omega)
                obtain ⟨b3, hb3⟩ : ∃ b : Bool, b = (H.la.k != 0) := ⟨_, rfl⟩
                rw [← hb3] at c338
                have HB3 := hid hb3
                have HON := hid (show oneB H k = (b3 && (wv == pw - 1)) from by unfold oneB; rw [HWV.out, ← HPW.out, hb3])
                clear hb3
                go_upto_region 17 with (fail)
                go_quiet (fail)
                have V0a := hid (V0.out.drewN nq)
                clear V0
                go_upto_region 18 with (fail)
                cases b3
                · have HNE : Hid (noteH H k = ⟨(k : Int), wb, pw, true, false, zEn, H.pl⟩) := hid (by unfold noteH; rw [HON.out, if_neg (by simp), HWB.out, ← HPW.out])
                  go_quiet (fail)
                  have V1_ := hid (V0a.out.drewN nq)
                  clear V0a x1 c0_ c338
                  go_upto_region 16 with (fail)
                  skip
                  refine wp_region_held_drew (S := fun (w' : World) => ∃ nn, HS S W w' (thB Z 342 (ntc nn) :: thC X [.int .i64 wb, .int .i64 wv] :: thNt N (notesK H k) :: thB hb 340 (rhc H.pl V1 H.la (H.la.k != 0) (.slice (some ⟨ug, 0, none⟩) h.un uc)) :: thQ V1 H.q :: thWd (.slice (some ⟨ug, 0, none⟩) h.un uc) h.un h.wd :: L)) (by kernel_rfl) ?_ (fun hHeld => ?_)
                  · exact ⟨_, V1_.out.drew⟩
                  have F0 := V1_.out.drew
                  refine tkq 0 hHeld ?_
                  refine tkq 1 hHeld ?_
                  refine tkq 2 hHeld ?_
                  refine tk 3 (v := .agg (FA 330 (pc H.pl))) rfl (by kernel_rfl) (by kernel_rfl) (by kernel_rfl) (fun _ _ _ h => h) rfl (fun w hSw => by obtain ⟨_, hSw⟩ := hSw; exact ex_load rfl rfl ((hSw.fb 3 rfl).load 0 330 (pc H.pl) (by omega) (rh_pool _ _ _ _ _) Tryz.underlying33 rfl info_pl)) hHeld ?_; (try simp only [Act.put, List.setIfInBounds_toArray, List.set_cons_zero, List.set_cons_succ])
                  refine tkq 4 hHeld ?_
                  refine only 5 rfl (by kernel_rfl) rfl (fun K hK => ?_)
                  refine ow_store1 (A := []) 3 (.bool true) (ntc ⟨(k : Int), wb, pw, true, false, zEn, zPl⟩) rfl rfl rfl (by kernel_rfl) F0 (by omega) (fun j hj => nt_wh _ _ j hj) (fun w8_ hZ => ?_)
                  have F1 : HS S W w8_ (thB Z 342 (ntc ⟨(k : Int), wb, pw, true, false, zEn, zPl⟩) :: thC X [.int .i64 wb, .int .i64 wv] :: thNt N (notesK H k) :: thB hb 340 (rhc H.pl V1 H.la (H.la.k != 0) (.slice (some ⟨ug, 0, none⟩) h.un uc)) :: thQ V1 H.q :: thWd (.slice (some ⟨ug, 0, none⟩) h.un uc) h.un h.wd :: L) := hZ
                  refine hK.out _ _ ⟨_, F1⟩ (fun h2 => ?_)
                  clear hK hZ F0
                  try simp only [Act.put, List.setIfInBounds_toArray, List.set_cons_zero, List.set_cons_succ]
                  refine tkq 6 h2 ?_
                  refine only 7 rfl (by kernel_rfl) rfl (fun K hK => ?_)
                  refine ow_store (A := []) 12 330 (pc H.pl) (ntc ⟨(k : Int), wb, pw, true, false, zEn, H.pl⟩) rfl rfl rfl F1 (by omega) (fun j hj => nt_p _ _ j hj) info_pl (pc_one _) (fun w9_ hZ => ?_)
                  refine hK.out _ _ ⟨_, hZ⟩ (fun _ => ?_)
                  have V2 : Hid (HS S W w9_ (thB Z 342 (ntc ⟨(k : Int), wb, pw, true, false, zEn, H.pl⟩) :: thC X [.int .i64 wb, .int .i64 wv] :: thNt N (notesK H k) :: thB hb 340 (rhc H.pl V1 H.la (H.la.k != 0) (.slice (some ⟨ug, 0, none⟩) h.un uc)) :: thQ V1 H.q :: thWd (.slice (some ⟨ug, 0, none⟩) h.un uc) h.un h.wd :: L)) := hid hZ
                  clear hK hZ F1 h2 hHeld V1_
                  try simp only [Act.put, List.setIfInBounds_toArray, List.set_cons_zero, List.set_cons_succ]
                  refine wpAnyH_done (by kernel_rfl) ?_ _
                  go_upto_region 20 with (fail)
                  skip
                  apply wp_region_lit
                  refine wl_val (v := ?_) rfl ?_ ?_; rotate_left; (focus ( go_simp; (try with_reducible rfl))); (try simp only [Act.put, List.setIfInBounds_toArray, List.set_cons_zero, List.set_cons_succ])
                  refine wl_ow rfl (ow_load 0 rfl 0 342 (ntc ⟨(k : Int), wb, pw, true, false, zEn, H.pl⟩) rfl rfl V2.out (by omega) (fun j hj => by rw [Nat.zero_add]) Tryz.underlying88 rfl info_nt2 ?_)
                  try simp only [Act.put, List.setIfInBounds_toArray, List.set_cons_zero, List.set_cons_succ]
                  refine wl_ow rfl (ow_bs2 (nt := ⟨(k : Int), wb, pw, true, false, zEn, H.pl⟩) rfl rfl V2.out (fun B2 w8 hZ => ?_))
                  have U6 : Hid (HS S W w8 (thB B2 342 (ntc ⟨(k : Int), wb, pw, true, false, zEn, H.pl⟩) :: thB Z 342 (ntc ⟨(k : Int), wb, pw, true, false, zEn, H.pl⟩) :: thC X [.int .i64 wb, .int .i64 wv] :: thNt N (notesK H k) :: thB hb 340 (rhc H.pl V1 H.la (H.la.k != 0) (.slice (some ⟨ug, 0, none⟩) h.un uc)) :: thQ V1 H.q :: thWd (.slice (some ⟨ug, 0, none⟩) h.un uc) h.un h.wd :: L)) := hid hZ
                  clear hZ V2
                  try simp only [Act.put, List.setIfInBounds_toArray, List.set_cons_zero, List.set_cons_succ]
                  refine wl_ow rfl (ow_app2 (A := [thB B2 342 (ntc ⟨(k : Int), wb, pw, true, false, zEn, H.pl⟩), thB Z 342 (ntc ⟨(k : Int), wb, pw, true, false, zEn, H.pl⟩), thC X [.int .i64 wb, .int .i64 wv]]) (.tmp 142) (.tmp 144) rfl rfl rfl U6.out (U6.out.fb 0 rfl) (by have := notesK_len H k; omega) (fun N2 w9 hZ => ?_))
                  have U7 := hid (HS.tail (HS.tail (HS.tail hZ)))
                  clear hZ U6
                  try simp only [Act.put, List.setIfInBounds_toArray, List.set_cons_zero, List.set_cons_succ]
                  go_wp2_with fail
                  go_roundg (un - (k + 1))
                  case rel =>
                    refine ⟨k + 1, N2, by omega, by omega, by go_num, rfl, ?_⟩
                    rw [notesK_succ, if_pos HLT.out, HNE.out]
                    exact U7.out
                  case measure => omega
                · cases e3 : (wv == pw - 1)
                  · have HNE : Hid (noteH H k = ⟨(k : Int), wb, pw, true, false, zEn, H.pl⟩) := hid (by unfold noteH; rw [HON.out, e3, if_neg (by simp), HWB.out, ← HPW.out])
                    go_quiet (fail)
                    have V1_ := hid (V0a.out.drewN nq)
                    clear V0a x1 c0_ c338
                    go_upto_region 16 with (fail)
                    skip
                    refine wp_region_held_drew (S := fun (w' : World) => ∃ nn, HS S W w' (thB Z 342 (ntc nn) :: thC X [.int .i64 wb, .int .i64 wv] :: thNt N (notesK H k) :: thB hb 340 (rhc H.pl V1 H.la (H.la.k != 0) (.slice (some ⟨ug, 0, none⟩) h.un uc)) :: thQ V1 H.q :: thWd (.slice (some ⟨ug, 0, none⟩) h.un uc) h.un h.wd :: L)) (by kernel_rfl) ?_ (fun hHeld => ?_)
                    · exact ⟨_, V1_.out.drew⟩
                    have F0 := V1_.out.drew
                    refine tkq 0 hHeld ?_
                    refine tkq 1 hHeld ?_
                    refine tkq 2 hHeld ?_
                    refine tk 3 (v := .agg (FA 330 (pc H.pl))) rfl (by kernel_rfl) (by kernel_rfl) (by kernel_rfl) (fun _ _ _ h => h) rfl (fun w hSw => by obtain ⟨_, hSw⟩ := hSw; exact ex_load rfl rfl ((hSw.fb 3 rfl).load 0 330 (pc H.pl) (by omega) (rh_pool _ _ _ _ _) Tryz.underlying33 rfl info_pl)) hHeld ?_; (try simp only [Act.put, List.setIfInBounds_toArray, List.set_cons_zero, List.set_cons_succ])
                    refine tkq 4 hHeld ?_
                    refine only 5 rfl (by kernel_rfl) rfl (fun K hK => ?_)
                    refine ow_store1 (A := []) 3 (.bool true) (ntc ⟨(k : Int), wb, pw, true, false, zEn, zPl⟩) rfl rfl rfl (by kernel_rfl) F0 (by omega) (fun j hj => nt_wh _ _ j hj) (fun w8_ hZ => ?_)
                    have F1 : HS S W w8_ (thB Z 342 (ntc ⟨(k : Int), wb, pw, true, false, zEn, zPl⟩) :: thC X [.int .i64 wb, .int .i64 wv] :: thNt N (notesK H k) :: thB hb 340 (rhc H.pl V1 H.la (H.la.k != 0) (.slice (some ⟨ug, 0, none⟩) h.un uc)) :: thQ V1 H.q :: thWd (.slice (some ⟨ug, 0, none⟩) h.un uc) h.un h.wd :: L) := hZ
                    refine hK.out _ _ ⟨_, F1⟩ (fun h2 => ?_)
                    clear hK hZ F0
                    try simp only [Act.put, List.setIfInBounds_toArray, List.set_cons_zero, List.set_cons_succ]
                    refine tkq 6 h2 ?_
                    refine only 7 rfl (by kernel_rfl) rfl (fun K hK => ?_)
                    refine ow_store (A := []) 12 330 (pc H.pl) (ntc ⟨(k : Int), wb, pw, true, false, zEn, H.pl⟩) rfl rfl rfl F1 (by omega) (fun j hj => nt_p _ _ j hj) info_pl (pc_one _) (fun w9_ hZ => ?_)
                    refine hK.out _ _ ⟨_, hZ⟩ (fun _ => ?_)
                    have V2 : Hid (HS S W w9_ (thB Z 342 (ntc ⟨(k : Int), wb, pw, true, false, zEn, H.pl⟩) :: thC X [.int .i64 wb, .int .i64 wv] :: thNt N (notesK H k) :: thB hb 340 (rhc H.pl V1 H.la (H.la.k != 0) (.slice (some ⟨ug, 0, none⟩) h.un uc)) :: thQ V1 H.q :: thWd (.slice (some ⟨ug, 0, none⟩) h.un uc) h.un h.wd :: L)) := hid hZ
                    clear hK hZ F1 h2 hHeld V1_
                    try simp only [Act.put, List.setIfInBounds_toArray, List.set_cons_zero, List.set_cons_succ]
                    refine wpAnyH_done (by kernel_rfl) ?_ _
                    go_upto_region 20 with (fail)
                    skip
                    apply wp_region_lit
                    refine wl_val (v := ?_) rfl ?_ ?_; rotate_left; (focus ( go_simp; (try with_reducible rfl))); (try simp only [Act.put, List.setIfInBounds_toArray, List.set_cons_zero, List.set_cons_succ])
                    refine wl_ow rfl (ow_load 0 rfl 0 342 (ntc ⟨(k : Int), wb, pw, true, false, zEn, H.pl⟩) rfl rfl V2.out (by omega) (fun j hj => by rw [Nat.zero_add]) Tryz.underlying88 rfl info_nt2 ?_)
                    try simp only [Act.put, List.setIfInBounds_toArray, List.set_cons_zero, List.set_cons_succ]
                    refine wl_ow rfl (ow_bs2 (nt := ⟨(k : Int), wb, pw, true, false, zEn, H.pl⟩) rfl rfl V2.out (fun B2 w8 hZ => ?_))
                    have U6 : Hid (HS S W w8 (thB B2 342 (ntc ⟨(k : Int), wb, pw, true, false, zEn, H.pl⟩) :: thB Z 342 (ntc ⟨(k : Int), wb, pw, true, false, zEn, H.pl⟩) :: thC X [.int .i64 wb, .int .i64 wv] :: thNt N (notesK H k) :: thB hb 340 (rhc H.pl V1 H.la (H.la.k != 0) (.slice (some ⟨ug, 0, none⟩) h.un uc)) :: thQ V1 H.q :: thWd (.slice (some ⟨ug, 0, none⟩) h.un uc) h.un h.wd :: L)) := hid hZ
                    clear hZ V2
                    try simp only [Act.put, List.setIfInBounds_toArray, List.set_cons_zero, List.set_cons_succ]
                    refine wl_ow rfl (ow_app2 (A := [thB B2 342 (ntc ⟨(k : Int), wb, pw, true, false, zEn, H.pl⟩), thB Z 342 (ntc ⟨(k : Int), wb, pw, true, false, zEn, H.pl⟩), thC X [.int .i64 wb, .int .i64 wv]]) (.tmp 142) (.tmp 144) rfl rfl rfl U6.out (U6.out.fb 0 rfl) (by have := notesK_len H k; omega) (fun N2 w9 hZ => ?_))
                    have U7 := hid (HS.tail (HS.tail (HS.tail hZ)))
                    clear hZ U6
                    try simp only [Act.put, List.setIfInBounds_toArray, List.set_cons_zero, List.set_cons_succ]
                    go_wp2_with fail
                    go_roundg (un - (k + 1))
                    case rel =>
                      refine ⟨k + 1, N2, by omega, by omega, by go_num, rfl, ?_⟩
                      rw [notesK_succ, if_pos HLT.out, HNE.out]
                      exact U7.out
                    case measure => omega
                  · have HNE : Hid (noteH H k = ⟨(k : Int), wb, pw, false, false, H.la, zPl⟩) := hid (by unfold noteH; rw [HON.out, e3, if_pos (by simp), HWB.out, ← HPW.out])
                    go_quiet (fail)
                    have V1_ := hid (V0a.out.drewN nq)
                    clear V0a x1 c0_ c338
                    have z0 := (V1_.out.fb 3 rfl).2.1
                    have e0 : w7.cell? ⟨hb, 331, none⟩ = some (Value.int .i64 H.la.k) := z0 331 (by omega)
                    have e1 : w7.cell? ⟨hb, 332, none⟩ = some (Value.int .i64 H.la.s) := z0 332 (by omega)
                    have e2 : w7.cell? ⟨hb, 333, none⟩ = some (Value.int .i64 H.la.a) := z0 333 (by omega)
                    have e3_ : w7.cell? ⟨hb, 334, none⟩ = some (Value.int .i64 H.la.p) := z0 334 (by omega)
                    have e4 : w7.cell? ⟨hb, 335, none⟩ = some (Value.int .i64 H.la.w) := z0 335 (by omega)
                    have e5 : w7.cell? ⟨hb, 336, none⟩ = some (Value.int .u64 H.la.y.a) := z0 336 (by omega)
                    have e6 : w7.cell? ⟨hb, 337, none⟩ = some (Value.int .u64 H.la.y.b) := z0 337 (by omega)
                    clear z0
                    go_upto_region 19 with (fail)
                    skip
                    apply wp_region_lit
                    refine wl_val (v := ?_) rfl ?_ ?_; rotate_left; (focus ( go_simp; (try with_reducible rfl))); (try simp only [Act.put, List.setIfInBounds_toArray, List.set_cons_zero, List.set_cons_succ])
                    refine wl_val (v := ?_) rfl ?_ ?_; rotate_left; (focus ( go_simp; (try with_reducible rfl))); (try simp only [Act.put, List.setIfInBounds_toArray, List.set_cons_zero, List.set_cons_succ])
                    refine wl_val (v := ?_) rfl ?_ ?_; rotate_left; (focus ( go_simp; (try with_reducible rfl))); (try simp only [Act.put, List.setIfInBounds_toArray, List.set_cons_zero, List.set_cons_succ])
                    refine wl_val (v := ?_) rfl ?_ ?_; rotate_left; (focus ( go_simp; (try with_reducible rfl))); (try simp only [Act.put, List.setIfInBounds_toArray, List.set_cons_zero, List.set_cons_succ])
                    refine wl_val (v := ?_) rfl ?_ ?_; rotate_left; (focus ( go_simp; (try with_reducible rfl))); (try simp only [Act.put, List.setIfInBounds_toArray, List.set_cons_zero, List.set_cons_succ])
                    refine wl_ow rfl (ow_storeE (A := []) 5 H.la (ntc ⟨(k : Int), wb, pw, false, false, H.la, zPl⟩) rfl rfl rfl V1_.out (by omega) (fun j hj => nt_e _ _ j hj) ?_)
                    intro w8_ hZ
                    have V2 : Hid (HS S W w8_ (thB Z 342 (ntc ⟨(k : Int), wb, pw, false, false, H.la, zPl⟩) :: thC X [.int .i64 wb, .int .i64 wv] :: thNt N (notesK H k) :: thB hb 340 (rhc H.pl V1 H.la (H.la.k != 0) (.slice (some ⟨ug, 0, none⟩) h.un uc)) :: thQ V1 H.q :: thWd (.slice (some ⟨ug, 0, none⟩) h.un uc) h.un h.wd :: L)) := hid hZ
                    clear hZ V1_ e0 e1 e2 e3_ e4 e5 e6
                    try simp only [Act.put, List.setIfInBounds_toArray, List.set_cons_zero, List.set_cons_succ]
                    go_upto_region 20 with (fail)
                    skip
                    apply wp_region_lit
                    refine wl_val (v := ?_) rfl ?_ ?_; rotate_left; (focus ( go_simp; (try with_reducible rfl))); (try simp only [Act.put, List.setIfInBounds_toArray, List.set_cons_zero, List.set_cons_succ])
                    refine wl_ow rfl (ow_load 0 rfl 0 342 (ntc ⟨(k : Int), wb, pw, false, false, H.la, zPl⟩) rfl rfl V2.out (by omega) (fun j hj => by rw [Nat.zero_add]) Tryz.underlying88 rfl info_nt2 ?_)
                    try simp only [Act.put, List.setIfInBounds_toArray, List.set_cons_zero, List.set_cons_succ]
                    refine wl_ow rfl (ow_bs2 (nt := ⟨(k : Int), wb, pw, false, false, H.la, zPl⟩) rfl rfl V2.out (fun B2 w8 hZ => ?_))
                    have U6 : Hid (HS S W w8 (thB B2 342 (ntc ⟨(k : Int), wb, pw, false, false, H.la, zPl⟩) :: thB Z 342 (ntc ⟨(k : Int), wb, pw, false, false, H.la, zPl⟩) :: thC X [.int .i64 wb, .int .i64 wv] :: thNt N (notesK H k) :: thB hb 340 (rhc H.pl V1 H.la (H.la.k != 0) (.slice (some ⟨ug, 0, none⟩) h.un uc)) :: thQ V1 H.q :: thWd (.slice (some ⟨ug, 0, none⟩) h.un uc) h.un h.wd :: L)) := hid hZ
                    clear hZ V2
                    try simp only [Act.put, List.setIfInBounds_toArray, List.set_cons_zero, List.set_cons_succ]
                    refine wl_ow rfl (ow_app2 (A := [thB B2 342 (ntc ⟨(k : Int), wb, pw, false, false, H.la, zPl⟩), thB Z 342 (ntc ⟨(k : Int), wb, pw, false, false, H.la, zPl⟩), thC X [.int .i64 wb, .int .i64 wv]]) (.tmp 142) (.tmp 144) rfl rfl rfl U6.out (U6.out.fb 0 rfl) (by have := notesK_len H k; omega) (fun N2 w9 hZ => ?_))
                    have U7 := hid (HS.tail (HS.tail (HS.tail hZ)))
                    clear hZ U6
                    try simp only [Act.put, List.setIfInBounds_toArray, List.set_cons_zero, List.set_cons_succ]
                    go_wp2_with fail
                    go_roundg (un - (k + 1))
                    case rel =>
                      refine ⟨k + 1, N2, by omega, by omega, by go_num, rfl, ?_⟩
                      rw [notesK_succ, if_pos HLT.out, HNE.out]
                      exact U7.out
                    case measure => omega
            · have i1 : ¬ (k : Int) < un := by omega
              have hku : k = un := by omega
              subst hku
              go_wp2_with fail
              go_ret
              have e9 := U3.out
              rw [HUN.out] at e9
              first | exact ⟨V1, N, H, rfl, HH.out, e9⟩ | exact ⟨V1, N, rfl, by rw [← HH.out]; exact e9⟩
end Go.Proofs.YteefhiniamajkaaGreat
