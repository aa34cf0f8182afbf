/- roundhouselaw10.OrderFull answers true for any three numbers; no condition. -/
import Derived.Test.YtljgcffpijjliaaDoorOrdTw
import Derived.Test.YtljgcffpijjliaaDoorOrdRot
import Derived.Test.YtljgcffpijjliaaDoorOrdSame
import Derived.Test.YtljgcffpijjliaaDoorOrdMark
import Derived.Test.YtljgcffpijjliaaDoorOrdKnown10
import Derived.Test.YtljgcffpijjliaaDoorDoor
import Derived.BigQuiet
import Derived.Deep.RegionHeld3
import Derived.Deep.Cut
namespace Go.Proofs.YtljgcffpijjliaaDoor.orderFull
set_option linter.unusedVariables false
set_option linter.unusedSimpArgs false
open Go.RowKit Go.ChangeShapes Go.WideShapes Go.ChangeAt

def fuP (g : Int) : Nat → Pl
  | 0 => mkB
  | i + 1 => if (i : Int) = g then fuP g i else nxP (fuP g i) ⟨1, (i : Int), 100 + (i : Int), 1, 1, zKy⟩
theorem fu_same {g : Int} {j : Nat} (h : (j : Int) = g) : fuP g (j + 1) = fuP g j := by
  show (if (j : Int) = g then fuP g j else nxP (fuP g j) ⟨1, (j : Int), 100 + (j : Int), 1, 1, zKy⟩) = _
  rw [if_pos h]
theorem fu_next {g : Int} {j : Nat} (h : (j : Int) ≠ g) : fuP g (j + 1) = nxP (fuP g j) ⟨1, (j : Int), 100 + (j : Int), 1, 1, zKy⟩ := by
  show (if (j : Int) = g then fuP g j else nxP (fuP g j) ⟨1, (j : Int), 100 + (j : Int), 1, 1, zKy⟩) = _
  rw [if_neg h]
theorem fu_facts (g : Int) : ∀ i, (fuP g i).a = 10 ∧ (fuP g i).p = 80 ∧ ∀ j, (fuP g i).s j = if j < i ∧ (j : Int) ≠ g then ⟨1, 100 + (j : Int), 1, 1, 0⟩ else zSp
  | 0 => ⟨rfl, rfl, fun j => by rw [if_neg (by omega)]; rfl⟩
  | i + 1 => by
    obtain ⟨h1, h2, h3⟩ := fu_facts g i
    by_cases h : (i : Int) = g
    · rw [fu_same h]
      refine ⟨h1, h2, fun j => ?_⟩
      rw [h3 j]
      by_cases hj : j < i ∧ (j : Int) ≠ g
      · rw [if_pos hj, if_pos ⟨by omega, hj.2⟩]
      · rw [if_neg hj, if_neg (fun h4 => hj ⟨by have := h4.2; have := h4.1; omega, h4.2⟩)]
    · rw [fu_next h, nx_bind]
      refine ⟨h1, h2, fun j => ?_⟩
      show setS (fuP g i).s i _ j = _
      by_cases e : j = i
      · subst e; rw [setS_at, if_pos ⟨by omega, h⟩]
      · rw [setS_other _ _ _ _ e, h3 j]
        by_cases hj : j < i ∧ (j : Int) ≠ g
        · rw [if_pos hj, if_pos ⟨by omega, hj.2⟩]
        · rw [if_neg hj, if_neg (fun h4 => hj ⟨by have := h4.1; omega, h4.2⟩)]
theorem fu_inv (g : Int) : ∀ i : Nat, i ≤ 64 → Pinv (fuP g i) i
  | 0, _ => mkP_inv (fun _ => 0) 0
  | i + 1, hi => by
    have ih := fu_inv g i (by omega)
    by_cases h : (i : Int) = g
    · rw [fu_same h]; exact ih.mono (by omega)
    · rw [fu_next h]
      have := nxP_inv ih ⟨1, (i : Int), 100 + (i : Int), 1, 1, zKy⟩ (by show (i : Int).toNat < 64; omega)
      exact this.mono (by omega)
theorem fu_ap {g : Int} {j : Nat} (hj : j < 64) (hg : (j : Int) ≠ g) : apR (fuP g j) ⟨1, (j : Int), 100 + (j : Int), 1, 1, zKy⟩ = (nxP (fuP g j) ⟨1, (j : Int), 100 + (j : Int), 1, 1, zKy⟩, 0) := by
  obtain ⟨h1, h2, h3⟩ := fu_facts g j
  refine bind_ap hj (by rw [h3 j, if_neg (by omega)]; rfl) (chk_sm (by omega) (by omega) (by omega)) ?_
  unfold heldB
  rw [h1, h2, any_no (fun i hi => ?_), Bool.or_false]
  · rw [show ((10 : Int) == 100 + (j : Int)) = false by rw [beq_eq_false_iff_ne]; omega]; rfl
  · unfold atS
    rw [h3 i]
    by_cases hc : i < j ∧ (i : Int) ≠ g
    · rw [if_pos hc]
      show ((1 : Int) != 0 && (100 + (i : Int) == 100 + (j : Int)) && _) = false
      rw [show (100 + (i : Int) == 100 + (j : Int)) = false by rw [beq_eq_false_iff_ne]; have := hc.1; omega]
      rfl
    · rw [if_neg hc]; rfl
theorem fu_held {g x : Int} {k : Nat} : heldB (fuP g k) x 9 = false := by
  obtain ⟨h1, h2, h3⟩ := fu_facts g k
  unfold heldB
  rw [h1, h2, any_no (fun i hi => ?_), Bool.or_false]
  · rw [show ((80 : Int) == 9) = false by decide, Bool.and_false]
  · unfold atS
    rw [h3 i]
    by_cases hc : i < k ∧ (i : Int) ≠ g
    · rw [if_pos hc]
      show ((1 : Int) != 0 && (100 + (i : Int) == x) && ((1 : Int) == 9)) = false
      rw [show ((1 : Int) == 9) = false by decide, Bool.and_false]
    · rw [if_neg hc]; rfl
theorem fu_add {g x : Int} {k : Nat} (hg : 0 ≤ g) (hx : 0 ≤ x ∧ x ≤ 1000) (hk : k ≤ 64) : (g < k ∧ addR (fuP g k) x 9 2 = ([⟨1, g, x, 9, 2, zKy⟩, ⟨2, g, 0, 0, 0, zKy⟩], 0)) ∨ (¬ g < k ∧ k < 64 ∧ addR (fuP g k) x 9 2 = ([⟨1, (k : Int), x, 9, 2, zKy⟩, ⟨2, (k : Int), 0, 0, 0, zKy⟩], 0)) ∨ (¬ g < k ∧ k = 64 ∧ addR (fuP g k) x 9 2 = ([], 9)) := by
  obtain ⟨_, _, h3⟩ := fu_facts g k
  have hc : chk (adE x 9 2) = 0 := chk_sm hx (by omega) (by omega)
  have hR : ∀ o, freeO (fuP g k) = o → addR (fuP g k) x 9 2 = match o with | none => ([], 9) | some c => ([⟨1, (c : Int), x, 9, 2, zKy⟩, ⟨2, (c : Int), 0, 0, 0, zKy⟩], 0) := fun o ho => by
    unfold addR
    rw [if_neg (by rw [hc]; decide), fu_held, ho]
    rfl
  have hbusy : ∀ j, j < k → (j : Int) ≠ g → frS (fuP g k) j = false := fun j h1 h2 => by
    unfold frS
    rw [h3 j, if_pos ⟨h1, h2⟩]
    rfl
  have hfree : ∀ j, ¬ (j < k ∧ (j : Int) ≠ g) → frS (fuP g k) j = true := fun j h => by
    unfold frS
    rw [h3 j, if_neg h]
    rfl
  by_cases h : g < k
  · refine .inl ⟨h, ?_⟩
    have := hR (some g.toNat) (find_yes g.toNat (by omega) (fun j hj => hbusy j (by omega) (by omega)) (hfree _ (by omega)))
    rw [this]
    simp only
    rw [Int.toNat_of_nonneg hg]
  · by_cases h64 : k < 64
    · exact .inr (.inl ⟨h, h64, hR (some k) (find_yes k h64 (fun j hj => hbusy j hj (by omega)) (hfree _ (by omega)))⟩)
    · exact .inr (.inr ⟨h, by omega, hR none (find_no (fun j hj => hbusy j (by omega) (by omega)))⟩)
theorem owe_ce {w : World} {B d : Nat} {A : Option Addr} {l : List En} (h : OwE w B (.slice A l.length d) l.length (gl l)) (h0 : 0 < l.length) : ∃ b, A = some ⟨b, 0, none⟩ ∧ Ce w b (l.flatMap enL) := by
  obtain ⟨b, e, _, h2, h3, h4⟩ := Ow.block_ h h0
  refine ⟨b, e, h2, fun j v hj => ?_, h4⟩
  have hl : j < l.length * 7 := by rw [← flat_len]; exact (List.getElem?_eq_some_iff.1 hj).1
  rw [h3 j hl, ← hj, flat_at l j hl]
attribute [local irreducible] PA
set_option maxRecDepth 100000 in
set_option maxHeartbeats 8000000 in
theorem walk (W : World) (hsh : W.ShapedOpen Tryd.prog) (a0 : Int) (r_a0 : -9223372036854775808 ≤ a0 ∧ a0 ≤ 9223372036854775807) (b0 : Int) (r_b0 : -9223372036854775808 ≤ b0 ∧ b0 ≤ 9223372036854775807) (c0 : Int) (r_c0 : -9223372036854775808 ≤ c0 ∧ c0 ≤ 9223372036854775807) :
    Calls Tryd.prog 8 #[.int .i64 a0, .int .i64 b0, .int .i64 c0] W fun e w' => e = .returned (.bool true) ∧ Below W.heap.size W w' := by
  have hz : ∀ w : World, (zeroValue 33).run Tryd.prog w = .ok (.agg (PA zPl)) w := fun w => zero_pl w
  have hz1 := pa_size zPl
  have hz2 := pa_ne zPl
  obtain ⟨ml, hml⟩ := Tryd.laysM147.s1_3 W hsh
  have HML := hid hml
  clear hml hsh
  obtain ⟨ua, hua⟩ : ∃ x, x = wi a0 5 := ⟨_, rfl⟩
  have bua := wi_bd a0 5 (by omega)
  rw [← hua] at bua
  have Wua := hid (fun w => re_i64 (within_any a0 5 w (by omega) (by omega)) hua.symm)
  clear hua
  obtain ⟨bua1, bua2⟩ := bua
  obtain ⟨ga, hga⟩ : ∃ x, x = wi b0 70 := ⟨_, rfl⟩
  have bga := wi_bd b0 70 (by omega)
  rw [← hga] at bga
  have Wga := hid (fun w => re_i64 (within_any b0 70 w (by omega) (by omega)) hga.symm)
  clear hga
  obtain ⟨bga1, bga2⟩ := bga
  obtain ⟨xa, hxa⟩ : ∃ x, x = wi c0 90 := ⟨_, rfl⟩
  have bxa := wi_bd c0 90 (by omega)
  rw [← hxa] at bxa
  have Wxa := hid (fun w => re_i64 (within_any c0 90 w (by omega) (by omega)) hxa.symm)
  clear hxa
  obtain ⟨bxa1, bxa2⟩ := bxa
  have w1_ : IntKind.i64.wrap (60 + ua) = 60 + ua := IntWalk.i64_in _ (by omega)
  obtain ⟨k, hk⟩ : ∃ k : Nat, 60 + ua = k := ⟨(60 + ua).toNat, by omega⟩
  have HKU := hid hk
  have k60 : 60 ≤ k := by omega
  have k64 : k ≤ 64 := by omega
  have HK6 := hid hk
  have MK := hid (fun (w : World) => (show Calls Tryd.prog 15 #[.slice none 0 0, .int .i64 0] w fun x w' => x = .returned (.agg (PA (fuP ga 0))) ∧ Below w.heap.size w w' from make_any w none 0 0 (fun _ => 0) (fun h => absurd h (by omega)) (fun _ h _ => by cases h) (by omega) 0 (by omega)))
  have AP := hid (fun (j : Nat) (hj : j < 64) (hg : (j : Int) ≠ ga) (w : World) => (show Calls Tryd.prog 35 #[.agg (PA (fuP ga j)), .agg #[.int .i64 1, .int .i64 (j : Int), .int .i64 (100 + (j : Int)), .int .i64 1, .int .i64 1, .int .u64 0, .int .u64 0]] w fun x w' => x = .returned (.tuple #[.agg (PA (fuP ga (j + 1))), .int .i64 0]) ∧ Below w.heap.size w w' from by have := rapply_any (fuP ga j) ⟨1, (j : Int), 100 + (j : Int), 1, 1, zKy⟩ ((fu_inv ga j (by omega)).pb (by omega)) w; rw [fu_ap hj hg] at this; rw [fu_next hg]; exact this))
  have HC : (ga < k ∧ addR (fuP ga k) xa 9 2 = ([⟨1, ga, xa, 9, 2, zKy⟩, ⟨2, ga, 0, 0, 0, zKy⟩], 0)) ∨ (¬ ga < k ∧ k < 64 ∧ addR (fuP ga k) xa 9 2 = ([⟨1, (k : Int), xa, 9, 2, zKy⟩, ⟨2, (k : Int), 0, 0, 0, zKy⟩], 0)) ∨ (¬ ga < k ∧ k = 64 ∧ addR (fuP ga k) xa 9 2 = ([], 9)) := fu_add (by omega) (by omega) k64
  have FS := hid (fun j (h : ((j : Nat) : Int) = ga) => fu_same h)
  obtain ⟨f, hf⟩ : ∃ f, f = fuP ga := ⟨_, rfl⟩
  rw [← hf] at MK AP HC FS
  clear hf
  have HC2 := hid HC
  clear HC hk
  go_enter Tryd.func8, Tryd.ntmps8
  go_wp2_with fail
  refine (known10_any ml _ HML.out).mono ?_
  rintro x w1 ⟨rfl, hB⟩
  have S1 := hid (SG.start hB)
  clear hB HML
  go_wp2_with fail
  refine (MK.out _).mono ?_
  rintro x w2 ⟨rfl, hb⟩
  have S2 := hid (S1.out.below hb)
  clear hb S1 MK
  have ST := hid ((sg_new (w := w2) (T := 33)).storeA (f 0))
  have S3 := hid (SG.put S2.out (T := 33) zPl (f 0) (by simp))
  have lP := S2.out.bl.size
  go_upto_region 4 with ((with_reducible refine wl_id ?_); refine wl_store rfl rfl rfl rfl ST.out ?_)
  clear ST S2
  generalize (w2.alloc (.cells (PA zPl) 33)).setCells w2.heap.size 0 (PA (f 0)).toList = w3 at *
  generalize w2.heap.size = P at *
  go_wp2_with fail
  refine (Wua.out _).mono ?_
  rintro e w' ⟨rfl, rfl⟩
  go_wp2_with fail
  refine (Wga.out _).mono ?_
  rintro e w' ⟨rfl, rfl⟩
  skip
  go_wp2_with fail
  go_loopw [10] (fun i wr => ∃ j : Nat, j ≤ k ∧ i = .int .i64 (j : Int) ∧ SG W wr [(P, f j)] []) (fun i _ => k - (intOf i).toNat)
  case atStart => exact ⟨0, by omega, rfl, S3.out⟩
  case round =>
    clear S3
    obtain ⟨j, hj, rfl, hS⟩ := hrel
    have S4 := hid hS
    clear hS
    by_cases hlt : j < k
    · have i1 : (j : Int) < 60 + ua := by have := HKU.out; omega
      have w5 : IntKind.i64.wrap (100 + (j : Int)) = 100 + (j : Int) := IntWalk.i64_in _ (by omega)
      by_cases hg : (j : Int) = ga
      · have bg : ((j : Int) != ga) = false := by simp [hg]
        have HF := hid (FS.out j hg)
        clear hg
        go_wp2_with fail
        go_roundw
        case rel => exact ⟨j + 1, by omega, by go_num, by rw [HF.out]; exact S4.out⟩
        case measure => simp [intOf]; omega
      · have bg : ((j : Int) != ga) = true := by simp [hg]
        have HAP := hid (AP.out j (by omega) hg)
        clear hg
        have LP := (SG.get S4.out (b := P) (p := f j) (by simp)).loadA
        go_wp2_with ((with_reducible refine wl_id ?_); refine wl_load rfl rfl rfl LP ?_)
        clear LP
        refine (HAP.out _).mono ?_
        rintro e w5_ ⟨rfl, hb⟩
        have S5 := hid (S4.out.below hb)
        clear hb S4 HAP
        have P5 := SG.get S5.out (b := P) (p := f j) (by simp)
        have ST := hid (P5.storeA (f (j + 1)))
        have S6 := hid ((SG.sets (S5.out.less (L' := []) (by simp)) (c := P) (o := 0) (vs := (PA (f (j + 1))).toList) (by simp) (by simp) lP).cons (P5.whole (f (j + 1))))
        clear P5 S5
        go_wp2_with ((with_reducible refine wl_id ?_); refine wl_store rfl rfl rfl rfl ST.out ?_)
        clear ST
        go_roundw
        case rel => exact ⟨j + 1, by omega, by go_num, S6.out⟩
        case measure => simp [intOf]; omega
    · have i2 : ¬ (j : Int) < 60 + ua := by have := HKU.out; omega
      have e : k = j := by omega
      clear AP hlt hj
      subst e
      rcases HC2.out with ⟨h1, hR⟩ | ⟨h1, h2, hR⟩ | ⟨h1, h2, hR⟩
      · have AD := hid (fun (w : World) => (show Calls Tryd.prog 17 #[.agg (PA (f k)), .int .i64 xa, .int .i64 9, .int .i64 2] w fun e w' => ∃ (B : Nat) (d : Nat), e = .returned (.tuple #[.slice (some ⟨B, 0, none⟩) 2 d, .int .i64 0]) ∧ Ce w' B (([⟨1, ga, xa, 9, 2, zKy⟩, ⟨2, ga, 0, 0, 0, zKy⟩] : List En).flatMap enL) ∧ Below w.heap.size w w' from (show Calls Tryd.prog 17 #[.agg (PA (f k)), .int .i64 xa, .int .i64 9, .int .i64 2] w (Lst w _ _) from by have := add_any (f k) xa 9 2 w; rw [hR] at this; exact this).mono (fun e w' h => by obtain ⟨A, d, e1, e2, e3⟩ := h; obtain ⟨B, rfl, hc⟩ := owe_ce e2 (by simp); exact ⟨B, d, e1, hc, e3⟩)))
        clear hR
        have hgk : ga < 60 + ua := by have := HKU.out; omega
        go_upto_region 13 with (fail)
        refine wp_region_held_drew (S := fun w' => SG W w' [(P, f k)] []) (by kernel_rfl) ?_ (fun hHeld => ?_)
        · exact S4.out.drew
        refine tk 0 (v := .agg (PA (f k))) rfl (by kernel_rfl) (by kernel_rfl) (by kernel_rfl) (fun _ _ _ h => h) rfl (fun w hSw => ex_load rfl rfl (SG.get hSw (b := P) (p := f k) (by simp)).loadA) hHeld ?_; (try simp only [Act.put, List.setIfInBounds_toArray, List.set_cons_zero, List.set_cons_succ])
        refine tk 1 (v := ?_) rfl (by kernel_rfl) (by kernel_rfl) (by kernel_rfl) (fun _ _ _ h => h) rfl ?_ hHeld ?_; rotate_left; (focus (intro w hSw; (try dsimp only at hSw);  go_simp; (try with_reducible rfl))); (try simp only [Act.put, List.setIfInBounds_toArray, List.set_cons_zero, List.set_cons_succ])
        refine only 2 rfl (by kernel_rfl) rfl (fun K hK => ?_)
        go_simp
        refine (Wxa.out _).mono ?_
        rintro e' w' ⟨rfl, rfl⟩
        try go_wp2_with fail
        refine hK.out _ _ hHeld (fun _ => ?_)
        clear hK
        try simp only [Act.put, List.setIfInBounds_toArray, List.set_cons_zero, List.set_cons_succ]
        refine only 3 rfl (by kernel_rfl) rfl (fun K hK => ?_)
        go_simp
        refine (AD.out _).mono ?_
        rintro e' w' ⟨B, d, rfl, hc, hb⟩
        try go_wp2_with fail
        refine hK.out _ _ (SG.below hHeld hb) (fun h2 => ?_)
        clear hK hb
        try simp only [Act.put, List.setIfInBounds_toArray, List.set_cons_zero, List.set_cons_succ]
        refine tk 4 (v := ?_) rfl (by kernel_rfl) (by kernel_rfl) (by kernel_rfl) (fun _ _ _ h => h) rfl ?_ h2 ?_; rotate_left; (focus (intro w hSw; (try dsimp only at hSw);  go_simp; (try with_reducible rfl))); (try simp only [Act.put, List.setIfInBounds_toArray, List.set_cons_zero, List.set_cons_succ])
        refine tk 5 (v := ?_) rfl (by kernel_rfl) (by kernel_rfl) (by kernel_rfl) (fun _ _ _ h => h) rfl ?_ h2 ?_; rotate_left; (focus (intro w hSw; (try dsimp only at hSw);  go_simp; (try with_reducible rfl))); (try simp only [Act.put, List.setIfInBounds_toArray, List.set_cons_zero, List.set_cons_succ])
        refine tk 6 (v := ?_) rfl (by kernel_rfl) (by kernel_rfl) (by kernel_rfl) (fun _ _ _ h => h) rfl ?_ h2 ?_; rotate_left; (focus (intro w hSw; (try dsimp only at hSw);  go_simp; (try with_reducible rfl))); (try simp only [Act.put, List.setIfInBounds_toArray, List.set_cons_zero, List.set_cons_succ])
        refine tk 7 (v := ?_) rfl (by kernel_rfl) (by kernel_rfl) (by kernel_rfl) (fun _ _ _ h => h) rfl ?_ h2 ?_; rotate_left; (focus (intro w hSw; (try dsimp only at hSw);  go_simp; (try with_reducible rfl))); (try simp only [Act.put, List.setIfInBounds_toArray, List.set_cons_zero, List.set_cons_succ])
        refine tk 8 (v := ?_) rfl (by kernel_rfl) (by kernel_rfl) (by kernel_rfl) (fun _ _ _ h => h) rfl ?_ h2 ?_; rotate_left; (focus (intro w hSw; (try dsimp only at hSw);  go_simp; (try with_reducible rfl))); (try simp only [Act.put, List.setIfInBounds_toArray, List.set_cons_zero, List.set_cons_succ])
        refine wpAnyH_done (by kernel_rfl) ?_ _
        have hc1 : w'.cell? ⟨B, 1, none⟩ = some (.int .i64 ga) := hc.2.1 1 _ rfl
        have hc4 : w'.cell? ⟨B, 4, none⟩ = some (.int .i64 2) := hc.2.1 4 _ rfl
        have hc7 : w'.cell? ⟨B, 7, none⟩ = some (.int .i64 2) := hc.2.1 7 _ rfl
        have hc8 : w'.cell? ⟨B, 8, none⟩ = some (.int .i64 ga) := hc.2.1 8 _ rfl
        clear hc
        have h64 : ¬ (64 : Int) ≤ ga := by omega
        have bgg : (ga == ga) = true := by simp
        go_wp2_with fail
        go_ret
        exact ⟨rfl, h2.bl⟩
      · have AD := hid (fun (w : World) => (show Calls Tryd.prog 17 #[.agg (PA (f k)), .int .i64 xa, .int .i64 9, .int .i64 2] w fun e w' => ∃ (B : Nat) (d : Nat), e = .returned (.tuple #[.slice (some ⟨B, 0, none⟩) 2 d, .int .i64 0]) ∧ Ce w' B (([⟨1, (k : Int), xa, 9, 2, zKy⟩, ⟨2, (k : Int), 0, 0, 0, zKy⟩] : List En).flatMap enL) ∧ Below w.heap.size w w' from (show Calls Tryd.prog 17 #[.agg (PA (f k)), .int .i64 xa, .int .i64 9, .int .i64 2] w (Lst w _ _) from by have := add_any (f k) xa 9 2 w; rw [hR] at this; exact this).mono (fun e w' h => by obtain ⟨A, d, e1, e2, e3⟩ := h; obtain ⟨B, rfl, hc⟩ := owe_ce e2 (by simp); exact ⟨B, d, e1, hc, e3⟩)))
        clear hR
        have hgk : ¬ ga < 60 + ua := by have := HKU.out; omega
        have H2 := hid h2
        clear h1 h2
        go_upto_region 13 with (fail)
        refine wp_region_held_drew (S := fun w' => SG W w' [(P, f k)] []) (by kernel_rfl) ?_ (fun hHeld => ?_)
        · exact S4.out.drew
        refine tk 0 (v := .agg (PA (f k))) rfl (by kernel_rfl) (by kernel_rfl) (by kernel_rfl) (fun _ _ _ h => h) rfl (fun w hSw => ex_load rfl rfl (SG.get hSw (b := P) (p := f k) (by simp)).loadA) hHeld ?_; (try simp only [Act.put, List.setIfInBounds_toArray, List.set_cons_zero, List.set_cons_succ])
        refine tk 1 (v := ?_) rfl (by kernel_rfl) (by kernel_rfl) (by kernel_rfl) (fun _ _ _ h => h) rfl ?_ hHeld ?_; rotate_left; (focus (intro w hSw; (try dsimp only at hSw);  go_simp; (try with_reducible rfl))); (try simp only [Act.put, List.setIfInBounds_toArray, List.set_cons_zero, List.set_cons_succ])
        refine only 2 rfl (by kernel_rfl) rfl (fun K hK => ?_)
        go_simp
        refine (Wxa.out _).mono ?_
        rintro e' w' ⟨rfl, rfl⟩
        try go_wp2_with fail
        refine hK.out _ _ hHeld (fun _ => ?_)
        clear hK
        try simp only [Act.put, List.setIfInBounds_toArray, List.set_cons_zero, List.set_cons_succ]
        refine only 3 rfl (by kernel_rfl) rfl (fun K hK => ?_)
        go_simp
        refine (AD.out _).mono ?_
        rintro e' w' ⟨B, d, rfl, hc, hb⟩
        try go_wp2_with fail
        refine hK.out _ _ (SG.below hHeld hb) (fun h2 => ?_)
        clear hK hb
        try simp only [Act.put, List.setIfInBounds_toArray, List.set_cons_zero, List.set_cons_succ]
        refine tk 4 (v := ?_) rfl (by kernel_rfl) (by kernel_rfl) (by kernel_rfl) (fun _ _ _ h => h) rfl ?_ h2 ?_; rotate_left; (focus (intro w hSw; (try dsimp only at hSw);  go_simp; (try with_reducible rfl))); (try simp only [Act.put, List.setIfInBounds_toArray, List.set_cons_zero, List.set_cons_succ])
        refine tk 5 (v := ?_) rfl (by kernel_rfl) (by kernel_rfl) (by kernel_rfl) (fun _ _ _ h => h) rfl ?_ h2 ?_; rotate_left; (focus (intro w hSw; (try dsimp only at hSw);  go_simp; (try with_reducible rfl))); (try simp only [Act.put, List.setIfInBounds_toArray, List.set_cons_zero, List.set_cons_succ])
        refine tk 6 (v := ?_) rfl (by kernel_rfl) (by kernel_rfl) (by kernel_rfl) (fun _ _ _ h => h) rfl ?_ h2 ?_; rotate_left; (focus (intro w hSw; (try dsimp only at hSw);  go_simp; (try with_reducible rfl))); (try simp only [Act.put, List.setIfInBounds_toArray, List.set_cons_zero, List.set_cons_succ])
        refine tk 7 (v := ?_) rfl (by kernel_rfl) (by kernel_rfl) (by kernel_rfl) (fun _ _ _ h => h) rfl ?_ h2 ?_; rotate_left; (focus (intro w hSw; (try dsimp only at hSw);  go_simp; (try with_reducible rfl))); (try simp only [Act.put, List.setIfInBounds_toArray, List.set_cons_zero, List.set_cons_succ])
        refine tk 8 (v := ?_) rfl (by kernel_rfl) (by kernel_rfl) (by kernel_rfl) (fun _ _ _ h => h) rfl ?_ h2 ?_; rotate_left; (focus (intro w hSw; (try dsimp only at hSw);  go_simp; (try with_reducible rfl))); (try simp only [Act.put, List.setIfInBounds_toArray, List.set_cons_zero, List.set_cons_succ])
        refine wpAnyH_done (by kernel_rfl) ?_ _
        have hc1 : w'.cell? ⟨B, 1, none⟩ = some (.int .i64 (k : Int)) := hc.2.1 1 _ rfl
        have hc4 : w'.cell? ⟨B, 4, none⟩ = some (.int .i64 2) := hc.2.1 4 _ rfl
        have hc7 : w'.cell? ⟨B, 7, none⟩ = some (.int .i64 2) := hc.2.1 7 _ rfl
        have hc8 : w'.cell? ⟨B, 8, none⟩ = some (.int .i64 (k : Int)) := hc.2.1 8 _ rfl
        clear hc
        have h64 : ¬ (64 : Int) ≤ 60 + ua := by have := HKU.out; have := H2.out; omega
        have h65 : (60 : Int) + ua < 64 := by have := HKU.out; have := H2.out; omega
        have bgg : ((k : Int) == 60 + ua) = true := by have := HKU.out; simp; omega
        have bgh : (60 + ua == (k : Int)) = true := by have := HKU.out; simp; omega
        go_wp2_with fail
        go_ret
        exact ⟨rfl, h2.bl⟩
      · have AD := hid (fun (w : World) => (show Calls Tryd.prog 17 #[.agg (PA (f k)), .int .i64 xa, .int .i64 9, .int .i64 2] w fun e w' => ∃ (A : Option Addr) (d : Nat), e = .returned (.tuple #[.slice A 0 d, .int .i64 9]) ∧ Below w.heap.size w w' from (show Calls Tryd.prog 17 #[.agg (PA (f k)), .int .i64 xa, .int .i64 9, .int .i64 2] w (Lst w _ _) from by have := add_any (f k) xa 9 2 w; rw [hR] at this; exact this).mono (fun e w' h => by obtain ⟨A, d, e1, e2, e3⟩ := h; exact ⟨A, d, e1, e3⟩)))
        clear hR
        have hgk : ¬ ga < 60 + ua := by have := HKU.out; omega
        have H2 := hid h2
        clear h1 h2
        go_upto_region 13 with (fail)
        refine wp_region_held_drew (S := fun w' => SG W w' [(P, f k)] []) (by kernel_rfl) ?_ (fun hHeld => ?_)
        · exact S4.out.drew
        refine tk 0 (v := .agg (PA (f k))) rfl (by kernel_rfl) (by kernel_rfl) (by kernel_rfl) (fun _ _ _ h => h) rfl (fun w hSw => ex_load rfl rfl (SG.get hSw (b := P) (p := f k) (by simp)).loadA) hHeld ?_; (try simp only [Act.put, List.setIfInBounds_toArray, List.set_cons_zero, List.set_cons_succ])
        refine tk 1 (v := ?_) rfl (by kernel_rfl) (by kernel_rfl) (by kernel_rfl) (fun _ _ _ h => h) rfl ?_ hHeld ?_; rotate_left; (focus (intro w hSw; (try dsimp only at hSw);  go_simp; (try with_reducible rfl))); (try simp only [Act.put, List.setIfInBounds_toArray, List.set_cons_zero, List.set_cons_succ])
        refine only 2 rfl (by kernel_rfl) rfl (fun K hK => ?_)
        go_simp
        refine (Wxa.out _).mono ?_
        rintro e' w' ⟨rfl, rfl⟩
        try go_wp2_with fail
        refine hK.out _ _ hHeld (fun _ => ?_)
        clear hK
        try simp only [Act.put, List.setIfInBounds_toArray, List.set_cons_zero, List.set_cons_succ]
        refine only 3 rfl (by kernel_rfl) rfl (fun K hK => ?_)
        go_simp
        refine (AD.out _).mono ?_
        rintro e' w' ⟨B, d, rfl, hb⟩
        try go_wp2_with fail
        refine hK.out _ _ (SG.below hHeld hb) (fun h2 => ?_)
        clear hK hb
        try simp only [Act.put, List.setIfInBounds_toArray, List.set_cons_zero, List.set_cons_succ]
        refine tk 4 (v := ?_) rfl (by kernel_rfl) (by kernel_rfl) (by kernel_rfl) (fun _ _ _ h => h) rfl ?_ h2 ?_; rotate_left; (focus (intro w hSw; (try dsimp only at hSw);  go_simp; (try with_reducible rfl))); (try simp only [Act.put, List.setIfInBounds_toArray, List.set_cons_zero, List.set_cons_succ])
        refine tk 5 (v := ?_) rfl (by kernel_rfl) (by kernel_rfl) (by kernel_rfl) (fun _ _ _ h => h) rfl ?_ h2 ?_; rotate_left; (focus (intro w hSw; (try dsimp only at hSw);  go_simp; (try with_reducible rfl))); (try simp only [Act.put, List.setIfInBounds_toArray, List.set_cons_zero, List.set_cons_succ])
        refine tk 6 (v := ?_) rfl (by kernel_rfl) (by kernel_rfl) (by kernel_rfl) (fun _ _ _ h => h) rfl ?_ h2 ?_; rotate_left; (focus (intro w hSw; (try dsimp only at hSw);  go_simp; (try with_reducible rfl))); (try simp only [Act.put, List.setIfInBounds_toArray, List.set_cons_zero, List.set_cons_succ])
        refine tk 7 (v := ?_) rfl (by kernel_rfl) (by kernel_rfl) (by kernel_rfl) (fun _ _ _ h => h) rfl ?_ h2 ?_; rotate_left; (focus (intro w hSw; (try dsimp only at hSw);  go_simp; (try with_reducible rfl))); (try simp only [Act.put, List.setIfInBounds_toArray, List.set_cons_zero, List.set_cons_succ])
        refine tk 8 (v := ?_) rfl (by kernel_rfl) (by kernel_rfl) (by kernel_rfl) (fun _ _ _ h => h) rfl ?_ h2 ?_; rotate_left; (focus (intro w hSw; (try dsimp only at hSw);  go_simp; (try with_reducible rfl))); (try simp only [Act.put, List.setIfInBounds_toArray, List.set_cons_zero, List.set_cons_succ])
        refine wpAnyH_done (by kernel_rfl) ?_ _
        have h64 : (64 : Int) ≤ 60 + ua := by have := HKU.out; have := H2.out; omega
        have h65 : ¬ (60 : Int) + ua < 64 := by have := HKU.out; have := H2.out; omega
        go_wp2_with fail
        go_ret
        exact ⟨rfl, h2.bl⟩

set_option maxRecDepth 100000 in
theorem lifted (os : Os) (started : os.Started) (H : Type) (enc : TypeId × Value → H) :
    ReturnsInHanded {} Tryd.checked os 8 .any (fun w args => (Rows.orderFullSpec.pre enc Tryd.prog Tryd.f8 [] false w args ∧ laidMetH Tryd.prog Rows.orderFullRow.laid w) ∧ sizedMet enc Tryd.prog Tryd.f8 (OpenSpec.ofChange Rows.orderFullSpec) false w args) (Rows.orderFullSpec.post enc Tryd.prog Tryd.f8 false true false false) :=
  law_door (s := Rows.orderFullSpec) (laid := Rows.orderFullRow.laid) started (by kernel_rfl) Tryd.func8
    (ChangeSpec.witness_shaped (enc := enc) (C := Tryd.checked) (os := os) (X := fun w _ => laidMetH Tryd.prog Rows.orderFullRow.laid w) false (World.laidAll Tryd.prog os Rows.orderFullRow.laid) #[.int .i64 0, .int .i64 0, .int .i64 0] 8 (World.laidAll_os _ _ _)
      (World.shaped_of_ZipB (by kernel_rfl) (by kernel_rfl)) (by kernel_rfl) (by kernel_rfl) (by kernel_rfl)
      (by rw [MakeChecks.laidMetH_plain _ _ _ (by kernel_rfl)]; exact laidMet_laidAll _ (by kernel_rfl) (by kernel_rfl)))
    rfl (by rw [Tryd.params8]; decide +kernel) rfl Tryd.underlying4
    (fun ds h => by
      rw [Tryd.params8] at h
      match ds, h with
      | [_, _, _], _ => rfl)
    (fun W base args ds ps hsh hval hA hsz => by
      rw [Tryd.params8] at hA hval hsz
      obtain ⟨v0, vs0, d0, ds0, p0, q0, hargs, rfl, rfl, h0, r0⟩ := trodAll_cons hA
      obtain ⟨v1, vs1, d1, ds1, p1, q1, rfl, rfl, rfl, h1, r1⟩ := trodAll_cons r0
      obtain ⟨v2, vs2, d2, ds2, p2, q2, rfl, rfl, rfl, h2, r2⟩ := trodAll_cons r1
      obtain ⟨rfl, rfl, rfl⟩ := trodAll_nil r2
      obtain rfl : args = #[v0, v1, v2] := by cases args; simp_all
      obtain ⟨a0, rfl, rfl, rfl, w0⟩ := open_int Tryd.underlying3 (hval 0 3 v0 rfl rfl) h0
      obtain ⟨a1, rfl, rfl, rfl, w1⟩ := open_int Tryd.underlying3 (hval 1 3 v1 rfl rfl) h1
      obtain ⟨a2, rfl, rfl, rfl, w2⟩ := open_int Tryd.underlying3 (hval 2 3 v2 rfl rfl) h2
      exact walk W hsh a0 (bounds_i64 w0) a1 (bounds_i64 w1) a2 (bounds_i64 w2))

theorem holds : Rows.OrderFullSaid :=
  OpenClaim.holds_of_wide 8 Tryd.f8 rfl rfl rfl rfl rfl rfl rfl ⟨rfl, rfl, rfl, rfl, rfl⟩ rfl rfl rfl rfl rfl (by kernel_rfl) Tryd.func8 (by kernel_rfl)
    (of_decide_eq_true (by kernel_rfl)) (by unfold Func.isWrapper; first | (rw [if_pos (by decide +kernel)]; kernel_rfl) | (rw [if_neg (by decide +kernel)]; exact ⟨rfl, rfl⟩))
    (fun os started H enc _ => lifted os started H enc)
theorem proved : Rows.OrderFullCardSaid :=
  Claim7.holds_tied_plain_at .later [] Rows.orderFullCard.laidKinds true Rows.orderFullCard.stood.harness false holds (fun _ h => by cases h) (by kernel_rfl) (fun _ h => by cases h) orderFull_row_tie rfl ⟨rfl, rfl⟩ (by kernel_rfl) rfl
    (fun f fn hf hfn => by
      obtain rfl : f = 8 := Option.some.inj ((show Tryd.prog.funcNamed Rows.orderFullRow.func = some 8 by kernel_rfl).symm.trans hf) |>.symm
      obtain rfl : fn = Tryd.f8 := (Option.some.inj (Tryd.func8.symm.trans hfn)).symm
      exact ⟨by kernel_rfl, fun j t ht => by
        rw [Tryd.params8] at ht
        have hm : t ∈ [3, 3, 3] := by simpa using Array.mem_of_getElem? ht
        have hall : ([3, 3, 3].all fun u => !Tryd.prog.wantsStandIn u) = true := by kernel_rfl
        exact (show Tryd.prog.wantsStandIn t = false by simpa using List.all_eq_true.1 hall t hm)⟩)
    (by kernel_rfl)
end Go.Proofs.YtljgcffpijjliaaDoor.orderFull
