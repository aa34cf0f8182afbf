/- What slots weigh, and where they would be. -/
import Derived.Test.YteefhiniamajkaaGreatGw
import Derived.Test.YteefhiniamajkaaGreatGt
import Derived.Deep.CutRange
import Derived.BigQuiet
import Derived.Deep.RegionHeld3
import Derived.Deep.Cut
namespace Go.Proofs.YteefhiniamajkaaGreat
set_option linter.unusedVariables false
set_option linter.unusedSimpArgs false
open Go.RowKit Go.ChangeShapes Go.WideShapes Go.ChangeAt

def wtP (p : Pl) (j : Nat) : Nat := if (p.s j).st = 2 then (p.s j).we.toNat else 0
def atP (p : Pl) (j : Nat) : Nat := (cAt (p.s j).ad (p.s j).po).toNat
def byP (p : Pl) (j : Nat) : Nat := (cBy (p.s j).ad (p.s j).po).toNat
/-- Places and weights of slots are within bounds. -/
def Pw (p : Pl) : Prop := ∀ i, i < 64 → (0 ≤ (p.s i).ad ∧ (p.s i).ad ≤ 4294967295) ∧ (0 ≤ (p.s i).po ∧ (p.s i).po ≤ 65535) ∧ ((p.s i).st ≠ 0 → 1 ≤ (p.s i).we ∧ (p.s i).we ≤ 8)
def coF (p : Pl) (j : Nat) : Int := if (p.s (j / 2)).st = 2 then (if j % 2 = 0 then (atP p (j / 2) : Int) else (byP p (j / 2) : Int)) else 0
theorem by_bd (p : Pl) (i : Nat) : 1 ≤ byP p i ∧ byP p i ≤ 126 := by unfold byP; have := cBy_bd (p.s i).ad (p.s i).po; omega
theorem at_bd (p : Pl) (i : Nat) : atP p i < 127 := by unfold atP; have := cAt_bd (p.s i).ad (p.s i).po; omega
theorem zero60 (w : World) : (zeroValue 155).run Tryz.prog w = .ok (.agg (ia 64 fun _ => 0)) w := by kernel_rfl
theorem zero64 (w : World) : (zeroValue 176).run Tryz.prog w = .ok (.agg (ia 128 fun _ => 0)) w := by kernel_rfl
theorem ia_ne {n : Nat} (f : Nat → Int) (h : 0 < n) : (ia n f = #[]) = False := by
  refine eq_false fun e => ?_
  have := ia_size n f
  rw [e] at this
  simp at this
  omega
section
variable {w : World} {b : Nat}
theorem IA.loadV {n : Nat} {f : Nat → Int} {T : TypeId} {d : TypeDesc} (h : IA w b n f) (hu : Tryz.prog.underlying T = some d) (hd : d.isRow = true) (hi : (Tryz.prog.info? T).map (·.size) = some n) :
    (loadVar T ⟨b, 0, none⟩).run Tryz.prog w = .ok (.agg (ia n f)) w := by
  refine run_loadVar_mid w b 0 T (il n f) d (fun j v hj => ?_) hu hd (by rw [il_len]; exact hi)
  have hl : j < n := by
    have := (List.getElem?_eq_some_iff.1 hj).1
    rwa [il_len] at this
  rw [il_at n f j hl] at hj
  rw [Nat.zero_add, h.2.1 j hl, hj]
theorem results_a1 {fn : Func} {r : Tmp} {T : TypeId} {v : Value} (h : fn.results = #[.cell r T]) (tmps : Array Value) (hp : tmps.getD r undef = .pointer (some ⟨b, 0, none⟩)) (hl : (loadVar T ⟨b, 0, none⟩).run Tryz.prog w = .ok v w) : (results fn tmps).run Tryz.prog w = .ok v w := by
  have hp' : tmps[r]?.getD undef = .pointer (some ⟨b, 0, none⟩) := by simpa using hp
  simp [results, h, hp', asAddr, hl]
end
attribute [local irreducible] PA ia
set_option maxRecDepth 100000 in
set_option maxHeartbeats 4000000 in
theorem weights_any (p : Pl) (hp : Pw p) (w : World) : Calls Tryz.prog 96 #[plV p] w fun x w' => x = .returned (.agg (ia 64 (fun j => (wtP p j : Int)))) ∧ Below w.heap.size w w' := by
  have hz : ∀ w : World, (zeroValue 155).run Tryz.prog w = .ok (.agg (ia 64 fun _ => 0)) w := fun w => zero60 w
  have hz1 := ia_size 64 (fun _ => 0)
  have hz2 := ia_ne (n := 64) (fun _ => 0) (by omega)
  have HPW := hid hp
  clear hp
  unfold plV
  go_enter Tryz.func96, Tryz.ntmps96
  go_upto_region 1 with (fail)
  have P0 := hid ((PoolAt.made (w := w) (p := p) (T := 33) rfl).alloc (.cells (ia 64 fun _ => 0) 155))
  have R0 := hid (IA.made (w := w.alloc (.cells (PA p) 33)) (n := 64) (f := fun _ => 0) (T := 155) (d := w.heap.size + 1) (by simp))
  have B0 := hid (((Below.refl w.heap.size w).alloc (Nat.le_refl _) (.cells (PA p) 33)).alloc (by simp) (.cells (ia 64 fun _ => 0) 155))
  have lR : w.heap.size ≤ w.heap.size + 1 := by omega
  have dRP : w.heap.size + 1 ≠ w.heap.size := by omega
  generalize (w.alloc (.cells (PA p) 33)).alloc (.cells (ia 64 fun _ => 0) 155) = w1 at *
  generalize w.heap.size + 1 = R at *
  obtain ⟨P, hP⟩ : ∃ P, P = w.heap.size := ⟨_, rfl⟩
  rw [← hP] at P0 dRP ⊢
  skip
  have HP := hid hP
  clear hP
  go_upto_region 2 with (fail)
  have A1 := hid (IA.made (w := w1) (n := 64) (f := fun _ => 0) (T := 155) (d := w1.heap.size) rfl)
  have P1 := hid (P0.out.alloc (.cells (ia 64 fun _ => 0) 155))
  have R1 := hid (R0.out.alloc (.cells (ia 64 fun _ => 0) 155))
  have B1 := hid (B0.out.alloc B0.out.size (.cells (ia 64 fun _ => 0) 155))
  have dAR : w1.heap.size ≠ R := Nat.ne_of_gt R0.out.1
  have dAP : w1.heap.size ≠ P := Nat.ne_of_gt P0.out.1
  have lA := B0.out.size
  clear P0 R0 B0
  generalize w1.alloc (.cells (ia 64 fun _ => 0) 155) = w2 at *
  generalize w1.heap.size = A at *
  have LS := P1.out.loadS
  go_wp2_with ((with_reducible refine wl_id ?_); refine wl_load rfl rfl rfl LS ?_)
  go_loopw [8] (fun i wr => ∃ k : Nat, k ≤ 64 ∧ i = .int .i64 (k : Int) ∧ IA wr A 64 (fun j => if j < k then (wtP p j : Int) else 0) ∧ IA wr R 64 (fun _ => 0) ∧ Below w.heap.size w wr) (fun i _ => 64 - (intOf i).toNat)
  case atStart => exact ⟨0, by omega, rfl, A1.out.as_ (fun j _ => by rw [if_neg (by omega)]), R1.out, B1.out⟩
  case round =>
    clear A1 R1 B1 P1 LS
    obtain ⟨k, hk, rfl, hA, hR, hB⟩ := hrel
    have A2 := hid hA
    have R2 := hid hR
    have B2 := hid hB
    clear hA hR hB
    by_cases hlt : k < 64
    · have i0 : (0 : Int) ≤ k := by omega
      have i1 : (k : Int) < 64 := by omega
      have IX := index_sl p.s k hlt wr
      have hpk := HPW.out k hlt
      have HF := hid (show wtP p k = if (p.s k).st = 2 then (p.s k).we.toNat else 0 from rfl)
      unfold spV at IX
      generalize p.s k = s at *
      obtain ⟨st, ad, po, we, si⟩ := s
      simp only at IX HF hpk
      obtain ⟨⟨a1, a2⟩, ⟨p1, p2⟩, hwe⟩ := hpk
      have HW := hid hwe
      clear hwe
      go_upto_region 5 with ((with_reducible refine wl_id ?_); refine wl_index rfl rfl rfl rfl IX ?_)
      clear IX
      have CV := hid (Ce.made (w := wr) (l := [.int .i64 st, .int .i64 ad, .int .i64 po, .int .i64 we, .int .i64 si]) (T := 25) (g := wr.heap.size) rfl)
      have A3 := hid (A2.out.alloc (.cells #[.int .i64 st, .int .i64 ad, .int .i64 po, .int .i64 we, .int .i64 si] 25))
      have R3 := hid (R2.out.alloc (.cells #[.int .i64 st, .int .i64 ad, .int .i64 po, .int .i64 we, .int .i64 si] 25))
      have B3 := hid (B2.out.alloc B2.out.size (.cells #[.int .i64 st, .int .i64 ad, .int .i64 po, .int .i64 we, .int .i64 si] 25))
      clear A2 R2 B2
      generalize wr.alloc (.cells #[.int .i64 st, .int .i64 ad, .int .i64 po, .int .i64 we, .int .i64 si] 25) = w3 at *
      generalize wr.heap.size = V at *
      have x0 := CV.out.2.1 0 _ rfl
      cases b2 : (st == 2)
      · have hne : ¬ st = 2 := by simpa using b2
        have A4 := hid (show IA w3 A 64 (fun j => if j < k + 1 then (wtP p j : Int) else 0) from A3.out.as_ (fun j hj => by by_cases e : j < k; (rw [if_pos e, if_pos (by omega)]); (rw [if_neg e]; by_cases e2 : j < k + 1; (rw [if_pos e2]; rw [show j = k by omega, HF.out, if_neg hne]; rfl); rw [if_neg e2])))
        clear A3 hne
        go_wp2_with fail
        go_roundw
        case rel => exact ⟨k + 1, by omega, by go_num, A4.out, R3.out, B3.out⟩
        case measure => simp [intOf]; omega
      · have he : st = 2 := by simpa using b2
        subst he
        have hw := HW.out (by decide)
        obtain ⟨e1, e2⟩ := hw
        have x3 := CV.out.2.1 3 _ rfl
        have ca := A3.out.2.1 k (by omega)
        have za := A3.out.2.2 k
        have A4 := hid ((A3.out.set k hlt we).as_ (g := fun j => if j < k + 1 then (wtP p j : Int) else 0) (fun j hj => by by_cases e : j = k; (subst e; rw [putW_same, if_pos (by omega), HF.out, if_pos rfl]; omega); (rw [putW_ne _ _ e]; by_cases e2 : j < k; (rw [if_pos e2, if_pos (by omega)]); (rw [if_neg e2, if_neg (by omega)]))))
        have R4 := hid (R3.out.other (c := A) (j := k) (v := .int .i64 we) dAR)
        have B4 := hid (B3.out.trans (keeps_setCells A [.int .i64 we] k w3 w.heap.size lA))
        clear A3 R3 B3
        go_wp2_with fail
        go_roundw
        case rel => exact ⟨k + 1, by omega, by go_num, A4.out, R4.out, B4.out⟩
        case measure => simp [intOf]; omega
    · have e : k = 64 := by omega
      subst e
      have A5 := hid (A2.out.as_ (g := (fun j => (wtP p j : Int))) (fun j hj => by rw [if_pos (by omega)]))
      clear A2
      have LA := A5.out.load (T := 155) Tryz.underlying155 rfl (by kernel_rfl)
      have SR := hid (R2.out.store (T := 155) (fun j => (wtP p j : Int)) (by kernel_rfl))
      go_wp2_with (first | ((with_reducible refine wl_id ?_); refine wl_load rfl rfl rfl LA ?_) | ((with_reducible refine wl_id ?_); refine wl_store rfl rfl rfl rfl SR.out ?_; refine end_then ?_; apply_assumption; refine wp_ret ?_; (repeat first | refine ret_then ?_ | refine ret_block ?_); (show bodyPost _ _ _ _ _ _); refine bodyPost_ret (v := .agg (ia 64 (fun j => (wtP p j : Int)))) (results_a1 Tryz.results96 _ rfl ((R2.out.whole (fun j => (wtP p j : Int)) (by omega)).loadV Tryz.underlying155 rfl (by kernel_rfl))) rfl ⟨rfl, B2.out.trans (keeps_setCells R (ia 64 (fun j => (wtP p j : Int))).toList 0 wr w.heap.size lR)⟩))
section
variable {w : World} {b n : Nat} {f : Nat → Int}
theorem IA.store2 (h : IA w b n f) (o : Nat) (ho : o + 1 < n) (x y : Int) : (Instr.storeAt 175 (.pointer (some ⟨b, o, none⟩)) (.agg #[.int .i64 x, .int .i64 y])).run Tryz.prog w = .ok () (w.setCells b o [.int .i64 x, .int .i64 y]) := by
  refine run_storeAt_mid w b o 175 #[.int .i64 x, .int .i64 y] (fun j hj => ?_) (by kernel_rfl) (all_oneCell_toArray (cs := [.int .i64 x, .int .i64 y]) (fun v hv => by simp at hv; rcases hv with rfl | rfl <;> rfl))
  have hl : j < 2 := hj
  rw [h.2.1 (o + j) (by omega)]
  exact ⟨rfl, h.2.2 _⟩
theorem IA.set2 (h : IA w b n f) (o : Nat) (ho : o + 1 < n) (x y : Int) : IA (w.setCells b o [.int .i64 x, .int .i64 y]) b n (putW (putW f o x) (o + 1) y) := (h.set o (by omega) x).set (o + 1) ho y
end
set_option maxRecDepth 100000 in
set_option maxHeartbeats 4000000 in
theorem courses_any (p : Pl) (hp : Pw p) (w : World) : Calls Tryz.prog 97 #[plV p] w fun x w' => x = .returned (.agg (ia 128 (coF p))) ∧ Below w.heap.size w w' := by
  have hz : ∀ w : World, (zeroValue 176).run Tryz.prog w = .ok (.agg (ia 128 fun _ => 0)) w := fun w => zero64 w
  have hz1 := ia_size 128 (fun _ => 0)
  have hz2 := ia_ne (n := 128) (fun _ => 0) (by omega)
  have HPW := hid hp
  clear hp
  unfold plV
  go_enter Tryz.func97, Tryz.ntmps97
  go_upto_region 1 with (fail)
  have P0 := hid ((PoolAt.made (w := w) (p := p) (T := 33) rfl).alloc (.cells (ia 128 fun _ => 0) 176))
  have R0 := hid (IA.made (w := w.alloc (.cells (PA p) 33)) (n := 128) (f := fun _ => 0) (T := 176) (d := w.heap.size + 1) (by simp))
  have B0 := hid (((Below.refl w.heap.size w).alloc (Nat.le_refl _) (.cells (PA p) 33)).alloc (by simp) (.cells (ia 128 fun _ => 0) 176))
  have lR : w.heap.size ≤ w.heap.size + 1 := by omega
  have dRP : w.heap.size + 1 ≠ w.heap.size := by omega
  generalize (w.alloc (.cells (PA p) 33)).alloc (.cells (ia 128 fun _ => 0) 176) = w1 at *
  generalize w.heap.size + 1 = R at *
  obtain ⟨P, hP⟩ : ∃ P, P = w.heap.size := ⟨_, rfl⟩
  rw [← hP] at P0 dRP ⊢
  skip
  have HP := hid hP
  clear hP
  go_upto_region 2 with (fail)
  have A1 := hid (IA.made (w := w1) (n := 128) (f := fun _ => 0) (T := 176) (d := w1.heap.size) rfl)
  have P1 := hid (P0.out.alloc (.cells (ia 128 fun _ => 0) 176))
  have R1 := hid (R0.out.alloc (.cells (ia 128 fun _ => 0) 176))
  have B1 := hid (B0.out.alloc B0.out.size (.cells (ia 128 fun _ => 0) 176))
  have dAR : w1.heap.size ≠ R := Nat.ne_of_gt R0.out.1
  have dAP : w1.heap.size ≠ P := Nat.ne_of_gt P0.out.1
  have lA := B0.out.size
  clear P0 R0 B0
  generalize w1.alloc (.cells (ia 128 fun _ => 0) 176) = w2 at *
  generalize w1.heap.size = A at *
  have LS := P1.out.loadS
  go_wp2_with ((with_reducible refine wl_id ?_); refine wl_load rfl rfl rfl LS ?_)
  go_loopw [8] (fun i wr => ∃ k : Nat, k ≤ 64 ∧ i = .int .i64 (k : Int) ∧ IA wr A 128 (fun j => if j < 2 * k then coF p j else 0) ∧ IA wr R 128 (fun _ => 0) ∧ Below w.heap.size w wr) (fun i _ => 64 - (intOf i).toNat)
  case atStart => exact ⟨0, by omega, rfl, A1.out.as_ (fun j _ => by rw [if_neg (by omega)]), R1.out, B1.out⟩
  case round =>
    clear A1 R1 B1 P1 LS
    obtain ⟨k, hk, rfl, hA, hR, hB⟩ := hrel
    have A2 := hid hA
    have R2 := hid hR
    have B2 := hid hB
    clear hA hR hB
    by_cases hlt : k < 64
    · have i0 : (0 : Int) ≤ k := by omega
      have i1 : (k : Int) < 64 := by omega
      have IX := index_sl p.s k hlt wr
      have hpk := HPW.out k hlt
      have HF := hid (show coF p (2 * k) = if (p.s k).st = 2 then (atP p k : Int) else 0 from by unfold coF; rw [show 2 * k / 2 = k by omega, if_pos (show 2 * k % 2 = 0 by omega)])
      have HF2 := hid (show coF p (2 * k + 1) = if (p.s k).st = 2 then (byP p k : Int) else 0 from by unfold coF; rw [show (2 * k + 1) / 2 = k by omega, if_neg (show ¬ (2 * k + 1) % 2 = 0 by omega)])
      have HA := hid (show ((atP p k : Nat) : Int) = cAt (p.s k).ad (p.s k).po from by have := cAt_bd (p.s k).ad (p.s k).po; unfold atP; omega)
      have HY := hid (show ((byP p k : Nat) : Int) = cBy (p.s k).ad (p.s k).po from by have := cBy_bd (p.s k).ad (p.s k).po; unfold byP; omega)
      unfold spV at IX
      generalize p.s k = s at *
      obtain ⟨st, ad, po, we, si⟩ := s
      simp only at IX HF hpk HF2 HA HY
      obtain ⟨⟨a1, a2⟩, ⟨p1, p2⟩, hwe⟩ := hpk
      have HW := hid hwe
      clear hwe
      go_upto_region 5 with ((with_reducible refine wl_id ?_); refine wl_index rfl rfl rfl rfl IX ?_)
      clear IX
      have CV := hid (Ce.made (w := wr) (l := [.int .i64 st, .int .i64 ad, .int .i64 po, .int .i64 we, .int .i64 si]) (T := 25) (g := wr.heap.size) rfl)
      have A3 := hid (A2.out.alloc (.cells #[.int .i64 st, .int .i64 ad, .int .i64 po, .int .i64 we, .int .i64 si] 25))
      have R3 := hid (R2.out.alloc (.cells #[.int .i64 st, .int .i64 ad, .int .i64 po, .int .i64 we, .int .i64 si] 25))
      have hAV := A2.out.1
      have B3 := hid (B2.out.alloc B2.out.size (.cells #[.int .i64 st, .int .i64 ad, .int .i64 po, .int .i64 we, .int .i64 si] 25))
      clear A2 R2 B2
      generalize wr.alloc (.cells #[.int .i64 st, .int .i64 ad, .int .i64 po, .int .i64 we, .int .i64 si] 25) = w3 at *
      generalize wr.heap.size = V at *
      have x0 := CV.out.2.1 0 _ rfl
      cases b2 : (st == 2)
      · have hne : ¬ st = 2 := by simpa using b2
        have A4 := hid (show IA w3 A 128 (fun j => if j < 2 * (k + 1) then coF p j else 0) from A3.out.as_ (fun j hj => by by_cases e : j < 2 * k; (rw [if_pos e, if_pos (by omega)]); (rw [if_neg e]; by_cases e2 : j < 2 * (k + 1); (rw [if_pos e2]; rcases (show j = 2 * k ∨ j = 2 * k + 1 by omega) with rfl | rfl; (rw [HF.out, if_neg hne]); (rw [HF2.out, if_neg hne])); rw [if_neg e2])))
        clear A3 hne
        go_wp2_with fail
        go_roundw
        case rel => exact ⟨k + 1, by omega, by go_num, A4.out, R3.out, B3.out⟩
        case measure => simp [intOf]; omega
      · have he : st = 2 := by simpa using b2
        subst he
        have hw := HW.out (by decide)
        obtain ⟨e1, e2⟩ := hw
        have AS1 := hid (fun (A : Option Addr) (w : World) (h : Is w A 3 (fun j => [1, ad, po].getD j 0)) => (show Calls Tryz.prog 100 #[.int .u64 127, .slice A 3 3] w fun e w' => e = .returned (.int .i64 (cAt ad po)) ∧ Below w.heap.size w w' from ask_any 127 (.inl rfl) A 3 3 _ w h (isI3 (by unfold I64; decide) (by unfold I64; omega) (by unfold I64; omega)) (by omega)))
        obtain ⟨b2, hb2⟩ : ∃ b2, b2 = S3 2 ad po % 126 := ⟨_, rfl⟩
        have AS2 := hid (fun (A : Option Addr) (w : World) (h : Is w A 3 (fun j => [2, ad, po].getD j 0)) => (show Calls Tryz.prog 100 #[.int .u64 126, .slice A 3 3] w fun e w' => e = .returned (.int .i64 b2) ∧ Below w.heap.size w w' from by rw [hb2]; exact ask_any 126 (.inr rfl) A 3 3 _ w h (isI3 (by unfold I64; decide) (by unfold I64; omega) (by unfold I64; omega)) (by omega)))
        have c1 : 0 ≤ b2 := by omega
        have c2 : b2 < 126 := by omega
        have HBY := hid (show cBy ad po = b2 + 1 from by unfold cBy; omega)
        clear hb2
        skip
        obtain ⟨av, hav⟩ : ∃ av, av = cAt ad po := ⟨_, rfl⟩
        rw [← hav] at AS1
        have HAV := hid hav
        clear hav
        skip
        go_upto_region 6 with (fail)
        have dAV : A ≠ V := Nat.ne_of_lt hAV
        refine wp_region_held_drew (S := fun w' => Ce w' V [.int .i64 2, .int .i64 ad, .int .i64 po, .int .i64 we, .int .i64 si] ∧ IA w' R 128 (fun _ => 0) ∧ Below w.heap.size w w') (by kernel_rfl) ?_ (fun hHeld => ?_)
        · exact ⟨CV.out, R3.out.drew, B3.out.drew⟩
        have AA := A3.out
        refine tkq 0 hHeld ?_
        refine tkq 1 hHeld ?_
        refine tkq 2 hHeld ?_ (hy := by intro w hSw; (try dsimp only at hSw); have x1 := hSw.1.2.1 1 _ rfl; have x2 := hSw.1.2.1 2 _ rfl; go_simp; (try with_reducible rfl))
        refine tkq 3 hHeld ?_
        refine tkq 4 hHeld ?_ (hy := by intro w hSw; (try dsimp only at hSw); have x1 := hSw.1.2.1 1 _ rfl; have x2 := hSw.1.2.1 2 _ rfl; go_simp; (try with_reducible rfl))
        refine tkq 7 hHeld ?_
        refine tkq 8 hHeld ?_ (hy := by intro w hSw; (try dsimp only at hSw); have x1 := hSw.1.2.1 1 _ rfl; have x2 := hSw.1.2.1 2 _ rfl; go_simp; (try with_reducible rfl))
        refine tkq 9 hHeld ?_
        refine tkq 10 hHeld ?_ (hy := by intro w hSw; (try dsimp only at hSw); have x1 := hSw.1.2.1 1 _ rfl; have x2 := hSw.1.2.1 2 _ rfl; go_simp; (try with_reducible rfl))
        refine twoUp 5 11 rfl rfl (by kernel_rfl) rfl rfl (fun K hK => ?_) (fun K hK => ?_)
        · go_simp
          have AA := (AA.alloc (.cells #[.int .i64 1, .int .i64 ad, .int .i64 po] 3)).drew
          have RA : Is (w3.alloc (.cells #[.int .i64 1, .int .i64 ad, .int .i64 po] 3)).drew (some ⟨w3.heap.size, 0, none⟩) 3 (fun j => [1, ad, po].getD j 0) := Sl.drew (row_at .i64 [1, ad, po] rfl)
          refine hK.out _ _ ⟨hHeld.1.alloc _, hHeld.2.1.alloc _, hHeld.2.2.alloc hHeld.2.2.size _⟩ (fun hz0 => ?_)
          clear hK
          try simp only [Act.put, List.setIfInBounds_toArray, List.set_cons_zero, List.set_cons_succ]
          generalize (w3.alloc (.cells #[.int .i64 1, .int .i64 ad, .int .i64 po] 3)).drew = w' at *
          refine twoUp 6 11 rfl rfl (by kernel_rfl) rfl rfl (fun K hK => ?_) (fun K hK => ?_)
          · go_simp
            refine (AS1.out _ _ RA).mono ?_
            rintro e' w' ⟨rfl, hb⟩
            try go_wp2_with fail
            have AA := AA.below hb
            refine hK.out _ _ ⟨hz0.1.below hb, hz0.2.1.below hb, hz0.2.2.trans (hb.mono hz0.2.2.size)⟩ (fun hz1 => ?_)
            clear hK hb
            try simp only [Act.put, List.setIfInBounds_toArray, List.set_cons_zero, List.set_cons_succ]
            refine only 11 rfl (by kernel_rfl) rfl (fun K hK => ?_)
            go_simp
            have AA := AA.alloc (.cells #[.int .i64 2, .int .i64 ad, .int .i64 po] 3)
            have RB : Is (w'.alloc (.cells #[.int .i64 2, .int .i64 ad, .int .i64 po] 3)) (some ⟨w'.heap.size, 0, none⟩) 3 (fun j => [2, ad, po].getD j 0) := row_at .i64 [2, ad, po] rfl
            refine hK.out _ _ ⟨hz1.1.alloc _, hz1.2.1.alloc _, hz1.2.2.alloc hz1.2.2.size _⟩ (fun hz2 => ?_)
            clear hK
            try simp only [Act.put, List.setIfInBounds_toArray, List.set_cons_zero, List.set_cons_succ]
            generalize (w'.alloc (.cells #[.int .i64 2, .int .i64 ad, .int .i64 po] 3)) = w' at *
            refine only 12 rfl (by kernel_rfl) rfl (fun K hK => ?_)
            go_simp
            refine (AS2.out _ _ RB).mono ?_
            rintro e' w' ⟨rfl, hb⟩
            try go_wp2_with fail
            have AA := AA.below hb
            refine hK.out _ _ ⟨hz2.1.below hb, hz2.2.1.below hb, hz2.2.2.trans (hb.mono hz2.2.2.size)⟩ (fun he => ?_)
            clear hK hb
            try simp only [Act.put, List.setIfInBounds_toArray, List.set_cons_zero, List.set_cons_succ]
            refine tk 13 (v := .int .i64 (b2 + 1)) rfl (by kernel_rfl) (by kernel_rfl) (by kernel_rfl) (fun _ _ _ h => h) rfl ?_ he ?_
            · intro w hSw; go_simp; exact IntWalk.i64_in _ (by omega)
            try simp only [Act.put, List.setIfInBounds_toArray, List.set_cons_zero, List.set_cons_succ]
            refine tkq 14 he ?_
            refine tkq 15 he ?_
            have ST := AA.store2 (k * 2) (by omega) av (b2 + 1)
            have AN := AA.set2 (k * 2) (by omega) av (b2 + 1)
            refine only 16 rfl (by kernel_rfl) rfl (fun K hK => ?_)
            refine ov_store rfl rfl rfl ST ?_
            refine hK.out _ _ ⟨he.1.oths dAV, he.2.1.others dAR (by omega), he.2.2.trans (keeps_setCells A _ _ _ _ lA)⟩ (fun hE => ?_)
            clear hK
            try simp only [Act.put, List.setIfInBounds_toArray, List.set_cons_zero, List.set_cons_succ]
            refine wpAnyH_done (by kernel_rfl) ?_ _
            have R4 := hid hE.2.1
            have B4 := hid hE.2.2
            have A4 : Hid (IA (w'.setCells A (k * 2) [.int .i64 av, .int .i64 (b2 + 1)]) A 128 (fun j => if j < 2 * (k + 1) then coF p j else 0)) := by
              refine hid (AN.as_ (fun j hj => ?_))
              by_cases e1 : j = k * 2 + 1
              · subst e1; rw [putW_same, if_pos (by omega), show k * 2 + 1 = 2 * k + 1 by omega, HF2.out, if_pos (by trivial), HY.out, HBY.out]
              · rw [putW_ne _ _ e1]
                by_cases e2 : j = k * 2
                · subst e2; rw [putW_same, if_pos (by omega), show k * 2 = 2 * k by omega, HF.out, if_pos (by trivial), HA.out, HAV.out]
                · rw [putW_ne _ _ e2]
                  by_cases e3 : j < 2 * k
                  · rw [if_pos e3, if_pos (by omega)]
                  · rw [if_neg e3, if_neg (by omega)]
            clear hE he AN ST AA hHeld CV A3 R3 B3 AS1 AS2
            generalize w'.setCells A (k * 2) [.int .i64 av, .int .i64 (b2 + 1)] = w9 at *
            go_wp2_with fail
            go_roundw
            case rel => exact ⟨k + 1, by omega, by go_num, A4.out, R4.out, B4.out⟩
            case measure => simp [intOf]; omega
          · go_simp
            have AA := AA.alloc (.cells #[.int .i64 2, .int .i64 ad, .int .i64 po] 3)
            have RA := Sl.below RA ((Below.refl _ _).alloc (Nat.le_refl _) (.cells #[.int .i64 2, .int .i64 ad, .int .i64 po] 3)) (Nat.le_refl _)
            have RB : Is (w'.alloc (.cells #[.int .i64 2, .int .i64 ad, .int .i64 po] 3)) (some ⟨w'.heap.size, 0, none⟩) 3 (fun j => [2, ad, po].getD j 0) := row_at .i64 [2, ad, po] rfl
            refine hK.out _ _ ⟨hz0.1.alloc _, hz0.2.1.alloc _, hz0.2.2.alloc hz0.2.2.size _⟩ (fun hz1 => ?_)
            clear hK
            try simp only [Act.put, List.setIfInBounds_toArray, List.set_cons_zero, List.set_cons_succ]
            generalize (w'.alloc (.cells #[.int .i64 2, .int .i64 ad, .int .i64 po] 3)) = w' at *
            refine only 6 rfl (by kernel_rfl) rfl (fun K hK => ?_)
            go_simp
            refine (AS1.out _ _ RA).mono ?_
            rintro e' w' ⟨rfl, hb⟩
            try go_wp2_with fail
            have AA := AA.below hb
            have RB := Sl.below RB hb (Nat.le_refl _)
            refine hK.out _ _ ⟨hz1.1.below hb, hz1.2.1.below hb, hz1.2.2.trans (hb.mono hz1.2.2.size)⟩ (fun hz2 => ?_)
            clear hK hb
            try simp only [Act.put, List.setIfInBounds_toArray, List.set_cons_zero, List.set_cons_succ]
            refine only 12 rfl (by kernel_rfl) rfl (fun K hK => ?_)
            go_simp
            refine (AS2.out _ _ RB).mono ?_
            rintro e' w' ⟨rfl, hb⟩
            try go_wp2_with fail
            have AA := AA.below hb
            refine hK.out _ _ ⟨hz2.1.below hb, hz2.2.1.below hb, hz2.2.2.trans (hb.mono hz2.2.2.size)⟩ (fun he => ?_)
            clear hK hb
            try simp only [Act.put, List.setIfInBounds_toArray, List.set_cons_zero, List.set_cons_succ]
            refine tk 13 (v := .int .i64 (b2 + 1)) rfl (by kernel_rfl) (by kernel_rfl) (by kernel_rfl) (fun _ _ _ h => h) rfl ?_ he ?_
            · intro w hSw; go_simp; exact IntWalk.i64_in _ (by omega)
            try simp only [Act.put, List.setIfInBounds_toArray, List.set_cons_zero, List.set_cons_succ]
            refine tkq 14 he ?_
            refine tkq 15 he ?_
            have ST := AA.store2 (k * 2) (by omega) av (b2 + 1)
            have AN := AA.set2 (k * 2) (by omega) av (b2 + 1)
            refine only 16 rfl (by kernel_rfl) rfl (fun K hK => ?_)
            refine ov_store rfl rfl rfl ST ?_
            refine hK.out _ _ ⟨he.1.oths dAV, he.2.1.others dAR (by omega), he.2.2.trans (keeps_setCells A _ _ _ _ lA)⟩ (fun hE => ?_)
            clear hK
            try simp only [Act.put, List.setIfInBounds_toArray, List.set_cons_zero, List.set_cons_succ]
            refine wpAnyH_done (by kernel_rfl) ?_ _
            have R4 := hid hE.2.1
            have B4 := hid hE.2.2
            have A4 : Hid (IA (w'.setCells A (k * 2) [.int .i64 av, .int .i64 (b2 + 1)]) A 128 (fun j => if j < 2 * (k + 1) then coF p j else 0)) := by
              refine hid (AN.as_ (fun j hj => ?_))
              by_cases e1 : j = k * 2 + 1
              · subst e1; rw [putW_same, if_pos (by omega), show k * 2 + 1 = 2 * k + 1 by omega, HF2.out, if_pos (by trivial), HY.out, HBY.out]
              · rw [putW_ne _ _ e1]
                by_cases e2 : j = k * 2
                · subst e2; rw [putW_same, if_pos (by omega), show k * 2 = 2 * k by omega, HF.out, if_pos (by trivial), HA.out, HAV.out]
                · rw [putW_ne _ _ e2]
                  by_cases e3 : j < 2 * k
                  · rw [if_pos e3, if_pos (by omega)]
                  · rw [if_neg e3, if_neg (by omega)]
            clear hE he AN ST AA hHeld CV A3 R3 B3 AS1 AS2
            generalize w'.setCells A (k * 2) [.int .i64 av, .int .i64 (b2 + 1)] = w9 at *
            go_wp2_with fail
            go_roundw
            case rel => exact ⟨k + 1, by omega, by go_num, A4.out, R4.out, B4.out⟩
            case measure => simp [intOf]; omega
        · go_simp
          have AA := (AA.alloc (.cells #[.int .i64 2, .int .i64 ad, .int .i64 po] 3)).drew
          have RB : Is (w3.alloc (.cells #[.int .i64 2, .int .i64 ad, .int .i64 po] 3)).drew (some ⟨w3.heap.size, 0, none⟩) 3 (fun j => [2, ad, po].getD j 0) := Sl.drew (row_at .i64 [2, ad, po] rfl)
          refine hK.out _ _ ⟨hHeld.1.alloc _, hHeld.2.1.alloc _, hHeld.2.2.alloc hHeld.2.2.size _⟩ (fun hz0 => ?_)
          clear hK
          try simp only [Act.put, List.setIfInBounds_toArray, List.set_cons_zero, List.set_cons_succ]
          generalize (w3.alloc (.cells #[.int .i64 2, .int .i64 ad, .int .i64 po] 3)).drew = w' at *
          refine only 5 rfl (by kernel_rfl) rfl (fun K hK => ?_)
          go_simp
          have AA := AA.alloc (.cells #[.int .i64 1, .int .i64 ad, .int .i64 po] 3)
          have RB := Sl.below RB ((Below.refl _ _).alloc (Nat.le_refl _) (.cells #[.int .i64 1, .int .i64 ad, .int .i64 po] 3)) (Nat.le_refl _)
          have RA : Is (w'.alloc (.cells #[.int .i64 1, .int .i64 ad, .int .i64 po] 3)) (some ⟨w'.heap.size, 0, none⟩) 3 (fun j => [1, ad, po].getD j 0) := row_at .i64 [1, ad, po] rfl
          refine hK.out _ _ ⟨hz0.1.alloc _, hz0.2.1.alloc _, hz0.2.2.alloc hz0.2.2.size _⟩ (fun hz1 => ?_)
          clear hK
          try simp only [Act.put, List.setIfInBounds_toArray, List.set_cons_zero, List.set_cons_succ]
          generalize (w'.alloc (.cells #[.int .i64 1, .int .i64 ad, .int .i64 po] 3)) = w' at *
          refine only 6 rfl (by kernel_rfl) rfl (fun K hK => ?_)
          go_simp
          refine (AS1.out _ _ RA).mono ?_
          rintro e' w' ⟨rfl, hb⟩
          try go_wp2_with fail
          have AA := AA.below hb
          have RB := Sl.below RB hb (Nat.le_refl _)
          refine hK.out _ _ ⟨hz1.1.below hb, hz1.2.1.below hb, hz1.2.2.trans (hb.mono hz1.2.2.size)⟩ (fun hz2 => ?_)
          clear hK hb
          try simp only [Act.put, List.setIfInBounds_toArray, List.set_cons_zero, List.set_cons_succ]
          refine only 12 rfl (by kernel_rfl) rfl (fun K hK => ?_)
          go_simp
          refine (AS2.out _ _ RB).mono ?_
          rintro e' w' ⟨rfl, hb⟩
          try go_wp2_with fail
          have AA := AA.below hb
          refine hK.out _ _ ⟨hz2.1.below hb, hz2.2.1.below hb, hz2.2.2.trans (hb.mono hz2.2.2.size)⟩ (fun he => ?_)
          clear hK hb
          try simp only [Act.put, List.setIfInBounds_toArray, List.set_cons_zero, List.set_cons_succ]
          refine tk 13 (v := .int .i64 (b2 + 1)) rfl (by kernel_rfl) (by kernel_rfl) (by kernel_rfl) (fun _ _ _ h => h) rfl ?_ he ?_
          · intro w hSw; go_simp; exact IntWalk.i64_in _ (by omega)
          try simp only [Act.put, List.setIfInBounds_toArray, List.set_cons_zero, List.set_cons_succ]
          refine tkq 14 he ?_
          refine tkq 15 he ?_
          have ST := AA.store2 (k * 2) (by omega) av (b2 + 1)
          have AN := AA.set2 (k * 2) (by omega) av (b2 + 1)
          refine only 16 rfl (by kernel_rfl) rfl (fun K hK => ?_)
          refine ov_store rfl rfl rfl ST ?_
          refine hK.out _ _ ⟨he.1.oths dAV, he.2.1.others dAR (by omega), he.2.2.trans (keeps_setCells A _ _ _ _ lA)⟩ (fun hE => ?_)
          clear hK
          try simp only [Act.put, List.setIfInBounds_toArray, List.set_cons_zero, List.set_cons_succ]
          refine wpAnyH_done (by kernel_rfl) ?_ _
          have R4 := hid hE.2.1
          have B4 := hid hE.2.2
          have A4 : Hid (IA (w'.setCells A (k * 2) [.int .i64 av, .int .i64 (b2 + 1)]) A 128 (fun j => if j < 2 * (k + 1) then coF p j else 0)) := by
            refine hid (AN.as_ (fun j hj => ?_))
            by_cases e1 : j = k * 2 + 1
            · subst e1; rw [putW_same, if_pos (by omega), show k * 2 + 1 = 2 * k + 1 by omega, HF2.out, if_pos (by trivial), HY.out, HBY.out]
            · rw [putW_ne _ _ e1]
              by_cases e2 : j = k * 2
              · subst e2; rw [putW_same, if_pos (by omega), show k * 2 = 2 * k by omega, HF.out, if_pos (by trivial), HA.out, HAV.out]
              · rw [putW_ne _ _ e2]
                by_cases e3 : j < 2 * k
                · rw [if_pos e3, if_pos (by omega)]
                · rw [if_neg e3, if_neg (by omega)]
          clear hE he AN ST AA hHeld CV A3 R3 B3 AS1 AS2
          generalize w'.setCells A (k * 2) [.int .i64 av, .int .i64 (b2 + 1)] = w9 at *
          go_wp2_with fail
          go_roundw
          case rel => exact ⟨k + 1, by omega, by go_num, A4.out, R4.out, B4.out⟩
          case measure => simp [intOf]; omega
    · have e : k = 64 := by omega
      subst e
      have A5 := hid (A2.out.as_ (g := (coF p)) (fun j hj => by rw [if_pos (by omega)]))
      clear A2
      have LA := A5.out.load (T := 176) Tryz.underlying176 rfl (by kernel_rfl)
      have SR := hid (R2.out.store (T := 176) (coF p) (by kernel_rfl))
      go_wp2_with (first | ((with_reducible refine wl_id ?_); refine wl_load rfl rfl rfl LA ?_) | ((with_reducible refine wl_id ?_); refine wl_store rfl rfl rfl rfl SR.out ?_; refine end_then ?_; apply_assumption; refine wp_ret ?_; (repeat first | refine ret_then ?_ | refine ret_block ?_); (show bodyPost _ _ _ _ _ _); refine bodyPost_ret (v := .agg (ia 128 (coF p))) (results_a1 Tryz.results97 _ rfl ((R2.out.whole (coF p) (by omega)).loadV Tryz.underlying176 rfl (by kernel_rfl))) rfl ⟨rfl, B2.out.trans (keeps_setCells R (ia 128 (coF p)).toList 0 wr w.heap.size lR)⟩))
end Go.Proofs.YteefhiniamajkaaGreat
