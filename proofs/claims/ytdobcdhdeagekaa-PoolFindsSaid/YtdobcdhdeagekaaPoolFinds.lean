/- roundhouselaw6.PoolFinds answers true for every row, any four numbers; no condition. -/
import Derived.Test.YtdobcdhdeagekaaPolSg
import Derived.Test.YtdobcdhdeagekaaPolRfind
import Derived.BigQuiet
import Derived.Deep.RegionHeld3
import Derived.Deep.Cut
namespace Go.Proofs.Ytdobcdhdeagekaa.poolFinds
set_option linter.unusedVariables false
set_option linter.unusedSimpArgs false
open Go.RowKit Go.ChangeShapes Go.WideShapes Go.ChangeAt

/-- No two slots that are not free stand at one place. -/
def Uq (p : Pl) : Prop := ∀ i j : Nat, i < 64 → j < 64 → (p.s i).st ≠ 0 → (p.s j).st ≠ 0 → (p.s i).ad = (p.s j).ad → (p.s i).po = (p.s j).po → i = j
theorem Uq.put {p : Pl} (h : Uq p) {n : Nat} {c : Sp} (hc : c.st ≠ 0 → ∀ j, j < 64 → j ≠ n → (p.s j).st ≠ 0 → c.ad = (p.s j).ad → c.po = (p.s j).po → False) (v a q : Int) (r : Rg) : Uq ⟨v, a, q, setS p.s n c, r⟩ := by
  intro i j hi hj
  unfold setS
  simp only
  by_cases e : i = n
  · by_cases e' : j = n
    · intro _ _ _ _; omega
    · rw [if_pos e, if_neg e']
      intro h1 h2 h3 h4
      exact (hc h1 j hj e' h2 h3 h4).elim
  · by_cases e' : j = n
    · rw [if_neg e, if_pos e']
      intro h1 h2 h3 h4
      exact (hc h2 i hi e h1 h3.symm h4.symm).elim
    · rw [if_neg e, if_neg e']
      exact h i j hi hj
theorem Uq.step {p : Pl} (h : Uq p) {e : En} (h0 : (apR p e).2 = 0) : Uq (apR p e).1 := by
  obtain ⟨hc, hr, h1⟩ := apR_ok h0
  obtain ⟨k1, k2, s0, s1, _⟩ := chk_ok hc
  rw [h1]
  have n64 : e.s.toNat < 64 := by omega
  have hf : fitB p e e.s.toNat = true := by
    unfold refE at hr
    cases hb : fitB p e e.s.toNat
    · rw [hb] at hr; exact absurd hr (by simp)
    · rfl
  unfold nxP
  have hk : e.k = 1 ∨ e.k = 2 ∨ e.k = 3 ∨ e.k = 4 ∨ e.k = 5 ∨ e.k = 6 := by omega
  unfold fitB at hf
  have hn : e.s.toNat = e.s.toNat := rfl
  rcases hk with k | k | k | k | k | k
  all_goals (rw [k] at hf ⊢; simp only [Int.reduceBEq, cond_true, cond_false, Bool.or_true, Bool.or_false] at hf ⊢)
  all_goals first
    | exact h
    | refine h.put (fun hs j hj hne hst h3 h4 => ?_) _ _ _ _
  all_goals (unfold chS at hs h3 h4; rw [k] at hs h3 h4; simp only [Int.reduceBEq, cond_true, cond_false] at hs h3 h4)
  · simp only [Bool.and_eq_true, Bool.not_eq_true'] at hf
    have h5 := hf.2
    unfold heldB at h5
    simp only [Bool.or_eq_false_iff] at h5
    have h6 := List.any_eq_false.1 h5.2 j (by simpa using hj)
    refine h6 ?_
    unfold atS
    simp only [Bool.and_eq_true, bne_iff_ne, beq_iff_eq]
    exact ⟨⟨hst, h3.symm⟩, h4.symm⟩
  · simp only [Bool.or_eq_true, beq_iff_eq] at hf
    exact hne (h j e.s.toNat hj n64 hst (by omega) h3.symm h4.symm)
  · simp only [beq_iff_eq] at hf
    exact hne (h j e.s.toNat hj n64 hst (by omega) h3.symm h4.symm)
  · simp only [Bool.or_eq_true, beq_iff_eq] at hf
    exact hne (h j e.s.toNat hj n64 hst (by omega) h3.symm h4.symm)
  · exact hs rfl
theorem mk_uq (g : Nat → Int) : ∀ k : Nat, Uq (mkP g k)
  | 0 => fun i j _ _ h => absurd rfl h
  | k + 1 => by
    have ih := mk_uq g k
    unfold mkP
    split
    · rename_i h; exact ih.step h
    · exact ih
theorem findO_tk {p : Pl} (h : Uq p) {a q : Int} {i : Nat} (hi : i < 64) (ht : tkS p a q i = true) : findO p a q = some i := by
  refine find_yes i hi (fun j hj => ?_) ht
  cases hb : tkS p a q j
  · rfl
  · exfalso
    unfold tkS takesB at ht hb
    simp only [Bool.and_eq_true, Bool.or_eq_true, beq_iff_eq] at ht hb
    have := h i j hi (by omega) (by omega) (by omega) (by omega) (by omega)
    omega
attribute [local irreducible] PA
set_option maxRecDepth 100000 in
set_option maxHeartbeats 8000000 in
theorem walk (W : World) (A1 : Option Addr) (n1 c1 : Nat) (g1 : Nat → Int) (hn1 : n1 ≤ c1) (hc1 : c1 ≤ maxLen) (hr1 : Is W A1 n1 g1) (hg1 : IsI g1) (hl1 : ∀ ad, A1 = some ad → 0 < n1 → ad.block < W.heap.size) (re1 : c1 * 8 ≤ 140737488351232) (a0 : Int) (r_a0 : -9223372036854775808 ≤ a0 ∧ a0 ≤ 9223372036854775807) (b0 : Int) (r_b0 : -9223372036854775808 ≤ b0 ∧ b0 ≤ 9223372036854775807) (c0 : Int) (r_c0 : -9223372036854775808 ≤ c0 ∧ c0 ≤ 9223372036854775807) (d0 : Int) (r_d0 : -9223372036854775808 ≤ d0 ∧ d0 ≤ 9223372036854775807) :
    Calls Try.prog 6 #[.slice A1 n1 c1, .int .i64 a0, .int .i64 b0, .int .i64 c0, .int .i64 d0] W fun e w' => e = .returned (.bool true) ∧ Below W.heap.size W w' := by
  have hz : ∀ w : World, (zeroValue 34).run Try.prog w = .ok (.agg (PA zPl)) w := fun w => zero_pl w
  have hz1 := pa_size zPl
  have hz2 := pa_ne zPl
  obtain ⟨u, hu⟩ : ∃ x, x = wi a0 6 := ⟨_, rfl⟩
  have bu := wi_bd a0 6 (by omega)
  rw [← hu] at bu
  have Wu := hid (fun w => re_i64 (within_any a0 6 w (by omega) (by omega)) hu.symm)
  clear hu
  obtain ⟨bu1, bu2⟩ := bu
  obtain ⟨v, hv⟩ : ∃ x, x = wi b0 4 := ⟨_, rfl⟩
  have bv := wi_bd b0 4 (by omega)
  rw [← hv] at bv
  have Wv := hid (fun w => re_i64 (within_any b0 4 w (by omega) (by omega)) hv.symm)
  clear hv
  obtain ⟨bv1, bv2⟩ := bv
  unfold maxLen at hc1
  have hnm : (n1 : Int) ≤ 9223372036854775807 := by have := hn1; omega
  have HL := hid hl1
  clear hl1 re1
  obtain ⟨p, hp⟩ : ∃ p, p = mkP g1 (min n1 60) := ⟨_, rfl⟩
  have HQ := hid (show Pinv p 60 from by rw [hp]; exact (mkP_inv g1 _).mono (by omega))
  have HU := hid (show Uq p from by rw [hp]; exact mk_uq g1 _)
  have MK := hid (fun (w : World) (h : Is w A1 n1 g1) (hl : ∀ ad, A1 = some ad → 0 < n1 → ad.block < w.heap.size) => (show Calls Try.prog 24 #[.slice A1 n1 c1, .int .i64 60] w fun x w' => x = .returned (.agg (PA p)) ∧ Below w.heap.size w w' from by rw [hp]; exact make_any w A1 n1 c1 g1 h hl hnm 60 (by omega)))
  clear hp
  obtain ⟨f1, hf1⟩ : ∃ f, f = findO p u v := ⟨_, rfl⟩
  have HT := hid (fun (k : Nat) (hk : k < 64) (h : tkS p u v k = true) => (show ((f1.getD 0 : Nat) : Int) = k from by rw [hf1, findO_tk HU.out hk h]; rfl))
  have FA := hid (show ∀ w, Calls Try.prog 27 #[.agg (PA p), .int .i64 u, .int .i64 v] w fun x w' => x = .returned (.tuple #[.int .i64 ((f1.getD 0 : Nat) : Int), .bool f1.isSome]) ∧ Below w.heap.size w w' from by rw [hf1]; exact fun w => find_any p HQ.out.st u v w)
  have RFA := hid (show ∀ w, Calls Try.prog 28 #[.agg (PA p), .int .i64 u, .int .i64 v] w fun x w' => x = .returned (.tuple #[.int .i64 ((f1.getD 0 : Nat) : Int), .bool f1.isSome]) ∧ Below w.heap.size w w' from by rw [hf1]; exact fun w => rfind_any p u v w)
  clear hf1
  generalize ((f1.getD 0 : Nat) : Int) = s1 at *
  generalize f1.isSome = i1 at *
  obtain ⟨f2, hf2⟩ : ∃ f, f = findO p c0 d0 := ⟨_, rfl⟩
  have FB := hid (show ∀ w, Calls Try.prog 27 #[.agg (PA p), .int .i64 c0, .int .i64 d0] w fun x w' => x = .returned (.tuple #[.int .i64 ((f2.getD 0 : Nat) : Int), .bool f2.isSome]) ∧ Below w.heap.size w w' from by rw [hf2]; exact fun w => find_any p HQ.out.st c0 d0 w)
  have RFB := hid (show ∀ w, Calls Try.prog 28 #[.agg (PA p), .int .i64 c0, .int .i64 d0] w fun x w' => x = .returned (.tuple #[.int .i64 ((f2.getD 0 : Nat) : Int), .bool f2.isSome]) ∧ Below w.heap.size w w' from by rw [hf2]; exact fun w => rfind_any p c0 d0 w)
  clear hf2
  generalize ((f2.getD 0 : Nat) : Int) = s2 at *
  generalize f2.isSome = i2 at *
  go_enter Try.func6, Try.ntmps6
  go_wp2_with fail
  refine (known_any _).mono ?_
  rintro x w1 ⟨rfl, hB⟩
  have R1 := hid (hr1.below hB (Nat.le_refl _))
  have B1 := hid hB
  clear hr1 hB
  go_wp2_with fail
  refine (MK.out _ R1.out (fun ad e h => Nat.lt_of_lt_of_le (HL.out ad e h) B1.out.size)).mono ?_
  rintro x w2 ⟨rfl, hb⟩
  have S2 := hid ((SG.start B1.out).below hb)
  clear hb R1 B1 MK
  have ST := hid ((sg_new (w := w2) (T := 34)).storeA p)
  have S3 := hid (SG.put S2.out (T := 34) zPl p (by simp))
  go_upto_region 4 with ((with_reducible refine wl_id ?_); refine wl_store rfl rfl rfl rfl ST.out ?_)
  clear ST S2
  generalize (w2.alloc (.cells (PA zPl) 34)).setCells w2.heap.size 0 (PA p).toList = w3 at *
  generalize w2.heap.size = P at *
  go_wp2_with fail
  refine (Wu.out _).mono ?_
  rintro x w' ⟨rfl, rfl⟩
  go_wp2_with fail
  refine (Wv.out _).mono ?_
  rintro x w' ⟨rfl, rfl⟩
  go_upto_region 5 with (fail)
  have LP := (SG.get S3.out (b := P) (p := p) (by simp)).loadA
  go_wp2_with ((with_reducible refine wl_id ?_); refine wl_load rfl rfl rfl LP ?_)
  refine (FA.out _).mono ?_
  rintro x w4 ⟨rfl, hb⟩
  clear LP
  have S4 := hid (S3.out.below hb)
  clear hb S3
  go_upto_region 6 with (fail)
  have LP := (SG.get S4.out (b := P) (p := p) (by simp)).loadA
  go_wp2_with ((with_reducible refine wl_id ?_); refine wl_load rfl rfl rfl LP ?_)
  refine (RFA.out _).mono ?_
  rintro x w5 ⟨rfl, hb⟩
  clear LP
  have S5 := hid (S4.out.below hb)
  clear hb S4
  go_upto_region 7 with (fail)
  have LP := (SG.get S5.out (b := P) (p := p) (by simp)).loadA
  go_wp2_with ((with_reducible refine wl_id ?_); refine wl_load rfl rfl rfl LP ?_)
  refine (FB.out _).mono ?_
  rintro x w6 ⟨rfl, hb⟩
  clear LP
  have S6 := hid (S5.out.below hb)
  clear hb S5
  go_upto_region 8 with (fail)
  have LP := (SG.get S6.out (b := P) (p := p) (by simp)).loadA
  go_wp2_with ((with_reducible refine wl_id ?_); refine wl_load rfl rfl rfl LP ?_)
  refine (RFB.out _).mono ?_
  rintro x w7 ⟨rfl, hb⟩
  clear LP
  have S7 := hid (S6.out.below hb)
  clear hb S6
  clear FA RFA FB RFB
  go_wp2_with fail
  go_loopw [22] (fun i wr => ∃ k : Nat, k ≤ 64 ∧ i = .int .i64 (k : Int) ∧ SG W wr [(P, p)] []) (fun i _ => 64 - (intOf i).toNat)
  case atStart => exact ⟨0, by omega, rfl, S7.out⟩
  case round =>
    clear S7
    obtain ⟨k, hk, rfl, hS⟩ := hrel
    have S := hid hS
    clear hS
    by_cases hlt : k < 64
    · have i0 : (0 : Int) ≤ k := by omega
      have i1 : (k : Int) < 64 := by omega
      have P2 := SG.get S.out (b := P) (p := p) (by simp)
      have LK := P2.loadK k hlt
      have AT : Hid (tkS p u v k = (takesB (p.s k).st && (p.s k).ad == u && (p.s k).po == v)) := hid rfl
      have HTK := hid (HT.out k hlt)
      rw [AT.out] at HTK
      clear AT
      have TK := hid (fun w => takes_any (p.s k) w)
      have RK := hid (fun w => rtakes_any (p.s k) w)
      unfold spV at LK TK RK
      generalize p.s k = s at *
      obtain ⟨st, ad, po, we, si⟩ := s
      simp only at LK TK RK HTK
      generalize takesB st = tb at *
      go_upto_region 13 with ((with_reducible refine wl_id ?_); refine wl_load rfl rfl rfl LK ?_)
      clear LK P2
      have CX := hid (Ce.made (w := wr) (l := [.int .i64 st, .int .i64 ad, .int .i64 po, .int .i64 we, .int .i64 si]) (T := 26) (g := wr.heap.size) rfl)
      have SV := hid (S.out.alloc (.cells #[.int .i64 st, .int .i64 ad, .int .i64 po, .int .i64 we, .int .i64 si] 26))
      clear S
      generalize wr.alloc (.cells #[.int .i64 st, .int .i64 ad, .int .i64 po, .int .i64 we, .int .i64 si] 26) = w2 at *
      generalize wr.heap.size = V at *
      have h4 : tb = false ∨ tb = true ∧ (ad == u) = false ∨ tb = true ∧ (ad == u) = true ∧ (po == v) = false ∨ tb = true ∧ (ad == u) = true ∧ (po == v) = true ∧ ((k : Int) != s1) = false := by
        cases tb
        · exact .inl rfl
        · cases b1 : (ad == u)
          · exact .inr (.inl ⟨rfl, rfl⟩)
          · cases b2 : (po == v)
            · exact .inr (.inr (.inl ⟨rfl, rfl, rfl⟩))
            · exact .inr (.inr (.inr ⟨rfl, rfl, rfl, by have h := HTK.out (by rw [b1, b2]; rfl); rw [h]; simp⟩))
      clear HTK
      rcases h4 with rfl | ⟨rfl, b1⟩ | ⟨rfl, b1, b2⟩ | ⟨rfl, b1, b2, b3⟩
      · refine wp_region_held_drew (S := fun w' => Ce w' V [.int .i64 st, .int .i64 ad, .int .i64 po, .int .i64 we, .int .i64 si] ∧ SG W w' [(P, p)] []) (by kernel_rfl) ?_ (fun hHeld => ?_)
        · exact ⟨CX.out, SV.out.drew⟩
        refine tk 0 (v := ?_) rfl (by kernel_rfl) (by kernel_rfl) (by kernel_rfl) (fun _ _ _ h => h) rfl ?_ hHeld ?_; rotate_left; (focus (intro w hSw; (try dsimp only at hSw); obtain ⟨hC, _⟩ := hSw; have x0 := hC.2.1 0 _ rfl; have x1 := hC.2.1 1 _ rfl; have x2 := hC.2.1 2 _ rfl; have x3 := hC.2.1 3 _ rfl; have x4 := hC.2.1 4 _ rfl; go_simp; (try with_reducible rfl))); (try simp only [Act.put, List.setIfInBounds_toArray, List.set_cons_zero, List.set_cons_succ])
        refine tk 2 (v := ?_) rfl (by kernel_rfl) (by kernel_rfl) (by kernel_rfl) (fun _ _ _ h => h) rfl ?_ hHeld ?_; rotate_left; (focus (intro w hSw; (try dsimp only at hSw); obtain ⟨hC, _⟩ := hSw; have x0 := hC.2.1 0 _ rfl; have x1 := hC.2.1 1 _ rfl; have x2 := hC.2.1 2 _ rfl; have x3 := hC.2.1 3 _ rfl; have x4 := hC.2.1 4 _ rfl; go_simp; (try with_reducible rfl))); (try simp only [Act.put, List.setIfInBounds_toArray, List.set_cons_zero, List.set_cons_succ])
        refine only 1 rfl (by kernel_rfl) rfl (fun K hK => ?_)
        go_simp
        refine (TK.out _).mono ?_
        rintro e' w' ⟨rfl, hb⟩
        try go_wp2_with fail
        refine hK.out _ _ ⟨hHeld.1.below hb, SG.below hHeld.2 hb⟩ (fun h1 => ?_)
        clear hK hb
        try simp only [Act.put, List.setIfInBounds_toArray, List.set_cons_zero, List.set_cons_succ]
        refine only 3 rfl (by kernel_rfl) rfl (fun K hK => ?_)
        go_simp
        refine (RK.out _).mono ?_
        rintro e' w' ⟨rfl, hb⟩
        try go_wp2_with fail
        refine hK.out _ _ ⟨h1.1.below hb, SG.below h1.2 hb⟩ (fun h2 => ?_)
        clear hK hb
        try simp only [Act.put, List.setIfInBounds_toArray, List.set_cons_zero, List.set_cons_succ]
        refine tk 4 (v := ?_) rfl (by kernel_rfl) (by kernel_rfl) (by kernel_rfl) (fun _ _ _ h => h) rfl ?_ h2 ?_; rotate_left; (focus (intro w hSw; (try dsimp only at hSw);  go_simp; (try with_reducible rfl))); (try simp only [Act.put, List.setIfInBounds_toArray, List.set_cons_zero, List.set_cons_succ])
        refine tk 5 (v := ?_) rfl (by kernel_rfl) (by kernel_rfl) (by kernel_rfl) (fun _ _ _ h => h) rfl ?_ h2 ?_; rotate_left; (focus (intro w hSw; (try dsimp only at hSw);  go_simp; (try with_reducible rfl))); (try simp only [Act.put, List.setIfInBounds_toArray, List.set_cons_zero, List.set_cons_succ])
        refine tk 6 (v := ?_) rfl (by kernel_rfl) (by kernel_rfl) (by kernel_rfl) (fun _ _ _ h => h) rfl ?_ h2 ?_; rotate_left; (focus (intro w hSw; (try dsimp only at hSw); obtain ⟨hC, _⟩ := hSw; have x0 := hC.2.1 0 _ rfl; have x1 := hC.2.1 1 _ rfl; have x2 := hC.2.1 2 _ rfl; have x3 := hC.2.1 3 _ rfl; have x4 := hC.2.1 4 _ rfl; go_simp; (try with_reducible rfl))); (try simp only [Act.put, List.setIfInBounds_toArray, List.set_cons_zero, List.set_cons_succ])
        refine only 7 rfl (by kernel_rfl) rfl (fun K hK => ?_)
        go_simp
        refine (TK.out _).mono ?_
        rintro e' w' ⟨rfl, hb⟩
        try go_wp2_with fail
        refine hK.out _ _ ⟨h2.1.below hb, SG.below h2.2 hb⟩ (fun h3 => ?_)
        clear hK hb
        try simp only [Act.put, List.setIfInBounds_toArray, List.set_cons_zero, List.set_cons_succ]
        refine tk 8 (v := ?_) rfl (by kernel_rfl) (by kernel_rfl) (by kernel_rfl) (fun _ _ _ h => h) rfl ?_ h3 ?_; rotate_left; (focus (intro w hSw; (try dsimp only at hSw);  go_simp; (try with_reducible rfl))); (try simp only [Act.put, List.setIfInBounds_toArray, List.set_cons_zero, List.set_cons_succ])
        refine tu 9 rfl (by kernel_rfl) (by kernel_rfl) (by kernel_rfl) (fun _ _ _ h => h) rfl h3 ?_; (try simp only [Act.put, List.setIfInBounds_toArray, List.set_cons_zero, List.set_cons_succ])
        refine tu 10 rfl (by kernel_rfl) (by kernel_rfl) (by kernel_rfl) (fun _ _ _ h => h) rfl h3 ?_; (try simp only [Act.put, List.setIfInBounds_toArray, List.set_cons_zero, List.set_cons_succ])
        refine tu 11 rfl (by kernel_rfl) (by kernel_rfl) (by kernel_rfl) (fun _ _ _ h => h) rfl h3 ?_; (try simp only [Act.put, List.setIfInBounds_toArray, List.set_cons_zero, List.set_cons_succ])
        refine tu 12 rfl (by kernel_rfl) (by kernel_rfl) (by kernel_rfl) (fun _ _ _ h => h) rfl h3 ?_; (try simp only [Act.put, List.setIfInBounds_toArray, List.set_cons_zero, List.set_cons_succ])
        refine tk 13 (v := ?_) rfl (by kernel_rfl) (by kernel_rfl) (by kernel_rfl) (fun _ _ _ h => h) rfl ?_ h3 ?_; rotate_left; (focus (intro w hSw; (try dsimp only at hSw);  go_simp; (try with_reducible rfl))); (try simp only [Act.put, List.setIfInBounds_toArray, List.set_cons_zero, List.set_cons_succ])
        refine tk 14 (v := ?_) rfl (by kernel_rfl) (by kernel_rfl) (by kernel_rfl) (fun _ _ _ h => h) rfl ?_ h3 ?_; rotate_left; (focus (intro w hSw; (try dsimp only at hSw);  go_simp; (try with_reducible rfl))); (try simp only [Act.put, List.setIfInBounds_toArray, List.set_cons_zero, List.set_cons_succ])
        refine tu 15 rfl (by kernel_rfl) (by kernel_rfl) (by kernel_rfl) (fun _ _ _ h => h) rfl h3 ?_; (try simp only [Act.put, List.setIfInBounds_toArray, List.set_cons_zero, List.set_cons_succ])
        refine tu 16 rfl (by kernel_rfl) (by kernel_rfl) (by kernel_rfl) (fun _ _ _ h => h) rfl h3 ?_; (try simp only [Act.put, List.setIfInBounds_toArray, List.set_cons_zero, List.set_cons_succ])
        refine tu 17 rfl (by kernel_rfl) (by kernel_rfl) (by kernel_rfl) (fun _ _ _ h => h) rfl h3 ?_; (try simp only [Act.put, List.setIfInBounds_toArray, List.set_cons_zero, List.set_cons_succ])
        refine tu 18 rfl (by kernel_rfl) (by kernel_rfl) (by kernel_rfl) (fun _ _ _ h => h) rfl h3 ?_; (try simp only [Act.put, List.setIfInBounds_toArray, List.set_cons_zero, List.set_cons_succ])
        refine tk 19 (v := ?_) rfl (by kernel_rfl) (by kernel_rfl) (by kernel_rfl) (fun _ _ _ h => h) rfl ?_ h3 ?_; rotate_left; (focus (intro w hSw; (try dsimp only at hSw);  go_simp; (try with_reducible rfl))); (try simp only [Act.put, List.setIfInBounds_toArray, List.set_cons_zero, List.set_cons_succ])
        refine tk 20 (v := ?_) rfl (by kernel_rfl) (by kernel_rfl) (by kernel_rfl) (fun _ _ _ h => h) rfl ?_ h3 ?_; rotate_left; (focus (intro w hSw; (try dsimp only at hSw);  go_simp; (try with_reducible rfl))); (try simp only [Act.put, List.setIfInBounds_toArray, List.set_cons_zero, List.set_cons_succ])
        refine tu 21 rfl (by kernel_rfl) (by kernel_rfl) (by kernel_rfl) (fun _ _ _ h => h) rfl h3 ?_; (try simp only [Act.put, List.setIfInBounds_toArray, List.set_cons_zero, List.set_cons_succ])
        refine tu 22 rfl (by kernel_rfl) (by kernel_rfl) (by kernel_rfl) (fun _ _ _ h => h) rfl h3 ?_; (try simp only [Act.put, List.setIfInBounds_toArray, List.set_cons_zero, List.set_cons_succ])
        refine tu 23 rfl (by kernel_rfl) (by kernel_rfl) (by kernel_rfl) (fun _ _ _ h => h) rfl h3 ?_; (try simp only [Act.put, List.setIfInBounds_toArray, List.set_cons_zero, List.set_cons_succ])
        refine tk 24 (v := ?_) rfl (by kernel_rfl) (by kernel_rfl) (by kernel_rfl) (fun _ _ _ h => h) rfl ?_ h3 ?_; rotate_left; (focus (intro w hSw; (try dsimp only at hSw);  go_simp; (try with_reducible rfl))); (try simp only [Act.put, List.setIfInBounds_toArray, List.set_cons_zero, List.set_cons_succ])
        refine tk 25 (v := ?_) rfl (by kernel_rfl) (by kernel_rfl) (by kernel_rfl) (fun _ _ _ h => h) rfl ?_ h3 ?_; rotate_left; (focus (intro w hSw; (try dsimp only at hSw);  go_simp; (try with_reducible rfl))); (try simp only [Act.put, List.setIfInBounds_toArray, List.set_cons_zero, List.set_cons_succ])
        refine wpAnyH_done (by kernel_rfl) ?_ _
        have SE := hid h3.2
        clear h3 h2 h1 hHeld SV CX TK RK
        go_wp2_with fail
        go_roundw
        case rel => exact ⟨k + 1, by omega, by go_num, SE.out⟩
        case measure => simp [intOf]; omega
      · refine wp_region_held_drew (S := fun w' => Ce w' V [.int .i64 st, .int .i64 ad, .int .i64 po, .int .i64 we, .int .i64 si] ∧ SG W w' [(P, p)] []) (by kernel_rfl) ?_ (fun hHeld => ?_)
        · exact ⟨CX.out, SV.out.drew⟩
        refine tk 0 (v := ?_) rfl (by kernel_rfl) (by kernel_rfl) (by kernel_rfl) (fun _ _ _ h => h) rfl ?_ hHeld ?_; rotate_left; (focus (intro w hSw; (try dsimp only at hSw); obtain ⟨hC, _⟩ := hSw; have x0 := hC.2.1 0 _ rfl; have x1 := hC.2.1 1 _ rfl; have x2 := hC.2.1 2 _ rfl; have x3 := hC.2.1 3 _ rfl; have x4 := hC.2.1 4 _ rfl; go_simp; (try with_reducible rfl))); (try simp only [Act.put, List.setIfInBounds_toArray, List.set_cons_zero, List.set_cons_succ])
        refine tk 2 (v := ?_) rfl (by kernel_rfl) (by kernel_rfl) (by kernel_rfl) (fun _ _ _ h => h) rfl ?_ hHeld ?_; rotate_left; (focus (intro w hSw; (try dsimp only at hSw); obtain ⟨hC, _⟩ := hSw; have x0 := hC.2.1 0 _ rfl; have x1 := hC.2.1 1 _ rfl; have x2 := hC.2.1 2 _ rfl; have x3 := hC.2.1 3 _ rfl; have x4 := hC.2.1 4 _ rfl; go_simp; (try with_reducible rfl))); (try simp only [Act.put, List.setIfInBounds_toArray, List.set_cons_zero, List.set_cons_succ])
        refine only 1 rfl (by kernel_rfl) rfl (fun K hK => ?_)
        go_simp
        refine (TK.out _).mono ?_
        rintro e' w' ⟨rfl, hb⟩
        try go_wp2_with fail
        refine hK.out _ _ ⟨hHeld.1.below hb, SG.below hHeld.2 hb⟩ (fun h1 => ?_)
        clear hK hb
        try simp only [Act.put, List.setIfInBounds_toArray, List.set_cons_zero, List.set_cons_succ]
        refine only 3 rfl (by kernel_rfl) rfl (fun K hK => ?_)
        go_simp
        refine (RK.out _).mono ?_
        rintro e' w' ⟨rfl, hb⟩
        try go_wp2_with fail
        refine hK.out _ _ ⟨h1.1.below hb, SG.below h1.2 hb⟩ (fun h2 => ?_)
        clear hK hb
        try simp only [Act.put, List.setIfInBounds_toArray, List.set_cons_zero, List.set_cons_succ]
        refine tk 4 (v := ?_) rfl (by kernel_rfl) (by kernel_rfl) (by kernel_rfl) (fun _ _ _ h => h) rfl ?_ h2 ?_; rotate_left; (focus (intro w hSw; (try dsimp only at hSw);  go_simp; (try with_reducible rfl))); (try simp only [Act.put, List.setIfInBounds_toArray, List.set_cons_zero, List.set_cons_succ])
        refine tk 5 (v := ?_) rfl (by kernel_rfl) (by kernel_rfl) (by kernel_rfl) (fun _ _ _ h => h) rfl ?_ h2 ?_; rotate_left; (focus (intro w hSw; (try dsimp only at hSw);  go_simp; (try with_reducible rfl))); (try simp only [Act.put, List.setIfInBounds_toArray, List.set_cons_zero, List.set_cons_succ])
        refine tk 6 (v := ?_) rfl (by kernel_rfl) (by kernel_rfl) (by kernel_rfl) (fun _ _ _ h => h) rfl ?_ h2 ?_; rotate_left; (focus (intro w hSw; (try dsimp only at hSw); obtain ⟨hC, _⟩ := hSw; have x0 := hC.2.1 0 _ rfl; have x1 := hC.2.1 1 _ rfl; have x2 := hC.2.1 2 _ rfl; have x3 := hC.2.1 3 _ rfl; have x4 := hC.2.1 4 _ rfl; go_simp; (try with_reducible rfl))); (try simp only [Act.put, List.setIfInBounds_toArray, List.set_cons_zero, List.set_cons_succ])
        refine only 7 rfl (by kernel_rfl) rfl (fun K hK => ?_)
        go_simp
        refine (TK.out _).mono ?_
        rintro e' w' ⟨rfl, hb⟩
        try go_wp2_with fail
        refine hK.out _ _ ⟨h2.1.below hb, SG.below h2.2 hb⟩ (fun h3 => ?_)
        clear hK hb
        try simp only [Act.put, List.setIfInBounds_toArray, List.set_cons_zero, List.set_cons_succ]
        refine tk 8 (v := ?_) rfl (by kernel_rfl) (by kernel_rfl) (by kernel_rfl) (fun _ _ _ h => h) rfl ?_ h3 ?_; rotate_left; (focus (intro w hSw; (try dsimp only at hSw);  go_simp; (try with_reducible rfl))); (try simp only [Act.put, List.setIfInBounds_toArray, List.set_cons_zero, List.set_cons_succ])
        refine tk 9 (v := ?_) rfl (by kernel_rfl) (by kernel_rfl) (by kernel_rfl) (fun _ _ _ h => h) rfl ?_ h3 ?_; rotate_left; (focus (intro w hSw; (try dsimp only at hSw);  go_simp; (try with_reducible rfl))); (try simp only [Act.put, List.setIfInBounds_toArray, List.set_cons_zero, List.set_cons_succ])
        refine tk 10 (v := ?_) rfl (by kernel_rfl) (by kernel_rfl) (by kernel_rfl) (fun _ _ _ h => h) rfl ?_ h3 ?_; rotate_left; (focus (intro w hSw; (try dsimp only at hSw); obtain ⟨hC, _⟩ := hSw; have x0 := hC.2.1 0 _ rfl; have x1 := hC.2.1 1 _ rfl; have x2 := hC.2.1 2 _ rfl; have x3 := hC.2.1 3 _ rfl; have x4 := hC.2.1 4 _ rfl; go_simp; (try with_reducible rfl))); (try simp only [Act.put, List.setIfInBounds_toArray, List.set_cons_zero, List.set_cons_succ])
        refine tk 11 (v := ?_) rfl (by kernel_rfl) (by kernel_rfl) (by kernel_rfl) (fun _ _ _ h => h) rfl ?_ h3 ?_; rotate_left; (focus (intro w hSw; (try dsimp only at hSw);  go_simp; (try with_reducible rfl))); (try simp only [Act.put, List.setIfInBounds_toArray, List.set_cons_zero, List.set_cons_succ])
        refine tk 12 (v := ?_) rfl (by kernel_rfl) (by kernel_rfl) (by kernel_rfl) (fun _ _ _ h => h) rfl ?_ h3 ?_; rotate_left; (focus (intro w hSw; (try dsimp only at hSw);  go_simp; (try with_reducible rfl))); (try simp only [Act.put, List.setIfInBounds_toArray, List.set_cons_zero, List.set_cons_succ])
        refine tk 13 (v := ?_) rfl (by kernel_rfl) (by kernel_rfl) (by kernel_rfl) (fun _ _ _ h => h) rfl ?_ h3 ?_; rotate_left; (focus (intro w hSw; (try dsimp only at hSw);  go_simp; (try with_reducible rfl))); (try simp only [Act.put, List.setIfInBounds_toArray, List.set_cons_zero, List.set_cons_succ])
        refine tk 14 (v := ?_) rfl (by kernel_rfl) (by kernel_rfl) (by kernel_rfl) (fun _ _ _ h => h) rfl ?_ h3 ?_; rotate_left; (focus (intro w hSw; (try dsimp only at hSw);  go_simp; (try with_reducible rfl))); (try simp only [Act.put, List.setIfInBounds_toArray, List.set_cons_zero, List.set_cons_succ])
        refine tu 15 rfl (by kernel_rfl) (by kernel_rfl) (by kernel_rfl) (fun _ _ _ h => h) rfl h3 ?_; (try simp only [Act.put, List.setIfInBounds_toArray, List.set_cons_zero, List.set_cons_succ])
        refine tu 16 rfl (by kernel_rfl) (by kernel_rfl) (by kernel_rfl) (fun _ _ _ h => h) rfl h3 ?_; (try simp only [Act.put, List.setIfInBounds_toArray, List.set_cons_zero, List.set_cons_succ])
        refine tu 17 rfl (by kernel_rfl) (by kernel_rfl) (by kernel_rfl) (fun _ _ _ h => h) rfl h3 ?_; (try simp only [Act.put, List.setIfInBounds_toArray, List.set_cons_zero, List.set_cons_succ])
        refine tu 18 rfl (by kernel_rfl) (by kernel_rfl) (by kernel_rfl) (fun _ _ _ h => h) rfl h3 ?_; (try simp only [Act.put, List.setIfInBounds_toArray, List.set_cons_zero, List.set_cons_succ])
        refine tk 19 (v := ?_) rfl (by kernel_rfl) (by kernel_rfl) (by kernel_rfl) (fun _ _ _ h => h) rfl ?_ h3 ?_; rotate_left; (focus (intro w hSw; (try dsimp only at hSw);  go_simp; (try with_reducible rfl))); (try simp only [Act.put, List.setIfInBounds_toArray, List.set_cons_zero, List.set_cons_succ])
        refine tk 20 (v := ?_) rfl (by kernel_rfl) (by kernel_rfl) (by kernel_rfl) (fun _ _ _ h => h) rfl ?_ h3 ?_; rotate_left; (focus (intro w hSw; (try dsimp only at hSw);  go_simp; (try with_reducible rfl))); (try simp only [Act.put, List.setIfInBounds_toArray, List.set_cons_zero, List.set_cons_succ])
        refine tu 21 rfl (by kernel_rfl) (by kernel_rfl) (by kernel_rfl) (fun _ _ _ h => h) rfl h3 ?_; (try simp only [Act.put, List.setIfInBounds_toArray, List.set_cons_zero, List.set_cons_succ])
        refine tu 22 rfl (by kernel_rfl) (by kernel_rfl) (by kernel_rfl) (fun _ _ _ h => h) rfl h3 ?_; (try simp only [Act.put, List.setIfInBounds_toArray, List.set_cons_zero, List.set_cons_succ])
        refine tu 23 rfl (by kernel_rfl) (by kernel_rfl) (by kernel_rfl) (fun _ _ _ h => h) rfl h3 ?_; (try simp only [Act.put, List.setIfInBounds_toArray, List.set_cons_zero, List.set_cons_succ])
        refine tk 24 (v := ?_) rfl (by kernel_rfl) (by kernel_rfl) (by kernel_rfl) (fun _ _ _ h => h) rfl ?_ h3 ?_; rotate_left; (focus (intro w hSw; (try dsimp only at hSw);  go_simp; (try with_reducible rfl))); (try simp only [Act.put, List.setIfInBounds_toArray, List.set_cons_zero, List.set_cons_succ])
        refine tk 25 (v := ?_) rfl (by kernel_rfl) (by kernel_rfl) (by kernel_rfl) (fun _ _ _ h => h) rfl ?_ h3 ?_; rotate_left; (focus (intro w hSw; (try dsimp only at hSw);  go_simp; (try with_reducible rfl))); (try simp only [Act.put, List.setIfInBounds_toArray, List.set_cons_zero, List.set_cons_succ])
        refine wpAnyH_done (by kernel_rfl) ?_ _
        have SE := hid h3.2
        clear h3 h2 h1 hHeld SV CX TK RK
        go_wp2_with fail
        go_roundw
        case rel => exact ⟨k + 1, by omega, by go_num, SE.out⟩
        case measure => simp [intOf]; omega
      · refine wp_region_held_drew (S := fun w' => Ce w' V [.int .i64 st, .int .i64 ad, .int .i64 po, .int .i64 we, .int .i64 si] ∧ SG W w' [(P, p)] []) (by kernel_rfl) ?_ (fun hHeld => ?_)
        · exact ⟨CX.out, SV.out.drew⟩
        refine tk 0 (v := ?_) rfl (by kernel_rfl) (by kernel_rfl) (by kernel_rfl) (fun _ _ _ h => h) rfl ?_ hHeld ?_; rotate_left; (focus (intro w hSw; (try dsimp only at hSw); obtain ⟨hC, _⟩ := hSw; have x0 := hC.2.1 0 _ rfl; have x1 := hC.2.1 1 _ rfl; have x2 := hC.2.1 2 _ rfl; have x3 := hC.2.1 3 _ rfl; have x4 := hC.2.1 4 _ rfl; go_simp; (try with_reducible rfl))); (try simp only [Act.put, List.setIfInBounds_toArray, List.set_cons_zero, List.set_cons_succ])
        refine tk 2 (v := ?_) rfl (by kernel_rfl) (by kernel_rfl) (by kernel_rfl) (fun _ _ _ h => h) rfl ?_ hHeld ?_; rotate_left; (focus (intro w hSw; (try dsimp only at hSw); obtain ⟨hC, _⟩ := hSw; have x0 := hC.2.1 0 _ rfl; have x1 := hC.2.1 1 _ rfl; have x2 := hC.2.1 2 _ rfl; have x3 := hC.2.1 3 _ rfl; have x4 := hC.2.1 4 _ rfl; go_simp; (try with_reducible rfl))); (try simp only [Act.put, List.setIfInBounds_toArray, List.set_cons_zero, List.set_cons_succ])
        refine only 1 rfl (by kernel_rfl) rfl (fun K hK => ?_)
        go_simp
        refine (TK.out _).mono ?_
        rintro e' w' ⟨rfl, hb⟩
        try go_wp2_with fail
        refine hK.out _ _ ⟨hHeld.1.below hb, SG.below hHeld.2 hb⟩ (fun h1 => ?_)
        clear hK hb
        try simp only [Act.put, List.setIfInBounds_toArray, List.set_cons_zero, List.set_cons_succ]
        refine only 3 rfl (by kernel_rfl) rfl (fun K hK => ?_)
        go_simp
        refine (RK.out _).mono ?_
        rintro e' w' ⟨rfl, hb⟩
        try go_wp2_with fail
        refine hK.out _ _ ⟨h1.1.below hb, SG.below h1.2 hb⟩ (fun h2 => ?_)
        clear hK hb
        try simp only [Act.put, List.setIfInBounds_toArray, List.set_cons_zero, List.set_cons_succ]
        refine tk 4 (v := ?_) rfl (by kernel_rfl) (by kernel_rfl) (by kernel_rfl) (fun _ _ _ h => h) rfl ?_ h2 ?_; rotate_left; (focus (intro w hSw; (try dsimp only at hSw);  go_simp; (try with_reducible rfl))); (try simp only [Act.put, List.setIfInBounds_toArray, List.set_cons_zero, List.set_cons_succ])
        refine tk 5 (v := ?_) rfl (by kernel_rfl) (by kernel_rfl) (by kernel_rfl) (fun _ _ _ h => h) rfl ?_ h2 ?_; rotate_left; (focus (intro w hSw; (try dsimp only at hSw);  go_simp; (try with_reducible rfl))); (try simp only [Act.put, List.setIfInBounds_toArray, List.set_cons_zero, List.set_cons_succ])
        refine tk 6 (v := ?_) rfl (by kernel_rfl) (by kernel_rfl) (by kernel_rfl) (fun _ _ _ h => h) rfl ?_ h2 ?_; rotate_left; (focus (intro w hSw; (try dsimp only at hSw); obtain ⟨hC, _⟩ := hSw; have x0 := hC.2.1 0 _ rfl; have x1 := hC.2.1 1 _ rfl; have x2 := hC.2.1 2 _ rfl; have x3 := hC.2.1 3 _ rfl; have x4 := hC.2.1 4 _ rfl; go_simp; (try with_reducible rfl))); (try simp only [Act.put, List.setIfInBounds_toArray, List.set_cons_zero, List.set_cons_succ])
        refine only 7 rfl (by kernel_rfl) rfl (fun K hK => ?_)
        go_simp
        refine (TK.out _).mono ?_
        rintro e' w' ⟨rfl, hb⟩
        try go_wp2_with fail
        refine hK.out _ _ ⟨h2.1.below hb, SG.below h2.2 hb⟩ (fun h3 => ?_)
        clear hK hb
        try simp only [Act.put, List.setIfInBounds_toArray, List.set_cons_zero, List.set_cons_succ]
        refine tk 8 (v := ?_) rfl (by kernel_rfl) (by kernel_rfl) (by kernel_rfl) (fun _ _ _ h => h) rfl ?_ h3 ?_; rotate_left; (focus (intro w hSw; (try dsimp only at hSw);  go_simp; (try with_reducible rfl))); (try simp only [Act.put, List.setIfInBounds_toArray, List.set_cons_zero, List.set_cons_succ])
        refine tk 9 (v := ?_) rfl (by kernel_rfl) (by kernel_rfl) (by kernel_rfl) (fun _ _ _ h => h) rfl ?_ h3 ?_; rotate_left; (focus (intro w hSw; (try dsimp only at hSw);  go_simp; (try with_reducible rfl))); (try simp only [Act.put, List.setIfInBounds_toArray, List.set_cons_zero, List.set_cons_succ])
        refine tk 10 (v := ?_) rfl (by kernel_rfl) (by kernel_rfl) (by kernel_rfl) (fun _ _ _ h => h) rfl ?_ h3 ?_; rotate_left; (focus (intro w hSw; (try dsimp only at hSw); obtain ⟨hC, _⟩ := hSw; have x0 := hC.2.1 0 _ rfl; have x1 := hC.2.1 1 _ rfl; have x2 := hC.2.1 2 _ rfl; have x3 := hC.2.1 3 _ rfl; have x4 := hC.2.1 4 _ rfl; go_simp; (try with_reducible rfl))); (try simp only [Act.put, List.setIfInBounds_toArray, List.set_cons_zero, List.set_cons_succ])
        refine tk 11 (v := ?_) rfl (by kernel_rfl) (by kernel_rfl) (by kernel_rfl) (fun _ _ _ h => h) rfl ?_ h3 ?_; rotate_left; (focus (intro w hSw; (try dsimp only at hSw);  go_simp; (try with_reducible rfl))); (try simp only [Act.put, List.setIfInBounds_toArray, List.set_cons_zero, List.set_cons_succ])
        refine tk 12 (v := ?_) rfl (by kernel_rfl) (by kernel_rfl) (by kernel_rfl) (fun _ _ _ h => h) rfl ?_ h3 ?_; rotate_left; (focus (intro w hSw; (try dsimp only at hSw);  go_simp; (try with_reducible rfl))); (try simp only [Act.put, List.setIfInBounds_toArray, List.set_cons_zero, List.set_cons_succ])
        refine tk 13 (v := ?_) rfl (by kernel_rfl) (by kernel_rfl) (by kernel_rfl) (fun _ _ _ h => h) rfl ?_ h3 ?_; rotate_left; (focus (intro w hSw; (try dsimp only at hSw);  go_simp; (try with_reducible rfl))); (try simp only [Act.put, List.setIfInBounds_toArray, List.set_cons_zero, List.set_cons_succ])
        refine tk 14 (v := ?_) rfl (by kernel_rfl) (by kernel_rfl) (by kernel_rfl) (fun _ _ _ h => h) rfl ?_ h3 ?_; rotate_left; (focus (intro w hSw; (try dsimp only at hSw);  go_simp; (try with_reducible rfl))); (try simp only [Act.put, List.setIfInBounds_toArray, List.set_cons_zero, List.set_cons_succ])
        refine tk 15 (v := ?_) rfl (by kernel_rfl) (by kernel_rfl) (by kernel_rfl) (fun _ _ _ h => h) rfl ?_ h3 ?_; rotate_left; (focus (intro w hSw; (try dsimp only at hSw);  go_simp; (try with_reducible rfl))); (try simp only [Act.put, List.setIfInBounds_toArray, List.set_cons_zero, List.set_cons_succ])
        refine tk 16 (v := ?_) rfl (by kernel_rfl) (by kernel_rfl) (by kernel_rfl) (fun _ _ _ h => h) rfl ?_ h3 ?_; rotate_left; (focus (intro w hSw; (try dsimp only at hSw); obtain ⟨hC, _⟩ := hSw; have x0 := hC.2.1 0 _ rfl; have x1 := hC.2.1 1 _ rfl; have x2 := hC.2.1 2 _ rfl; have x3 := hC.2.1 3 _ rfl; have x4 := hC.2.1 4 _ rfl; go_simp; (try with_reducible rfl))); (try simp only [Act.put, List.setIfInBounds_toArray, List.set_cons_zero, List.set_cons_succ])
        refine tk 17 (v := ?_) rfl (by kernel_rfl) (by kernel_rfl) (by kernel_rfl) (fun _ _ _ h => h) rfl ?_ h3 ?_; rotate_left; (focus (intro w hSw; (try dsimp only at hSw);  go_simp; (try with_reducible rfl))); (try simp only [Act.put, List.setIfInBounds_toArray, List.set_cons_zero, List.set_cons_succ])
        refine tk 18 (v := ?_) rfl (by kernel_rfl) (by kernel_rfl) (by kernel_rfl) (fun _ _ _ h => h) rfl ?_ h3 ?_; rotate_left; (focus (intro w hSw; (try dsimp only at hSw);  go_simp; (try with_reducible rfl))); (try simp only [Act.put, List.setIfInBounds_toArray, List.set_cons_zero, List.set_cons_succ])
        refine tk 19 (v := ?_) rfl (by kernel_rfl) (by kernel_rfl) (by kernel_rfl) (fun _ _ _ h => h) rfl ?_ h3 ?_; rotate_left; (focus (intro w hSw; (try dsimp only at hSw);  go_simp; (try with_reducible rfl))); (try simp only [Act.put, List.setIfInBounds_toArray, List.set_cons_zero, List.set_cons_succ])
        refine tk 20 (v := ?_) rfl (by kernel_rfl) (by kernel_rfl) (by kernel_rfl) (fun _ _ _ h => h) rfl ?_ h3 ?_; rotate_left; (focus (intro w hSw; (try dsimp only at hSw);  go_simp; (try with_reducible rfl))); (try simp only [Act.put, List.setIfInBounds_toArray, List.set_cons_zero, List.set_cons_succ])
        refine tu 21 rfl (by kernel_rfl) (by kernel_rfl) (by kernel_rfl) (fun _ _ _ h => h) rfl h3 ?_; (try simp only [Act.put, List.setIfInBounds_toArray, List.set_cons_zero, List.set_cons_succ])
        refine tu 22 rfl (by kernel_rfl) (by kernel_rfl) (by kernel_rfl) (fun _ _ _ h => h) rfl h3 ?_; (try simp only [Act.put, List.setIfInBounds_toArray, List.set_cons_zero, List.set_cons_succ])
        refine tu 23 rfl (by kernel_rfl) (by kernel_rfl) (by kernel_rfl) (fun _ _ _ h => h) rfl h3 ?_; (try simp only [Act.put, List.setIfInBounds_toArray, List.set_cons_zero, List.set_cons_succ])
        refine tk 24 (v := ?_) rfl (by kernel_rfl) (by kernel_rfl) (by kernel_rfl) (fun _ _ _ h => h) rfl ?_ h3 ?_; rotate_left; (focus (intro w hSw; (try dsimp only at hSw);  go_simp; (try with_reducible rfl))); (try simp only [Act.put, List.setIfInBounds_toArray, List.set_cons_zero, List.set_cons_succ])
        refine tk 25 (v := ?_) rfl (by kernel_rfl) (by kernel_rfl) (by kernel_rfl) (fun _ _ _ h => h) rfl ?_ h3 ?_; rotate_left; (focus (intro w hSw; (try dsimp only at hSw);  go_simp; (try with_reducible rfl))); (try simp only [Act.put, List.setIfInBounds_toArray, List.set_cons_zero, List.set_cons_succ])
        refine wpAnyH_done (by kernel_rfl) ?_ _
        have SE := hid h3.2
        clear h3 h2 h1 hHeld SV CX TK RK
        go_wp2_with fail
        go_roundw
        case rel => exact ⟨k + 1, by omega, by go_num, SE.out⟩
        case measure => simp [intOf]; omega
      · refine wp_region_held_drew (S := fun w' => Ce w' V [.int .i64 st, .int .i64 ad, .int .i64 po, .int .i64 we, .int .i64 si] ∧ SG W w' [(P, p)] []) (by kernel_rfl) ?_ (fun hHeld => ?_)
        · exact ⟨CX.out, SV.out.drew⟩
        refine tk 0 (v := ?_) rfl (by kernel_rfl) (by kernel_rfl) (by kernel_rfl) (fun _ _ _ h => h) rfl ?_ hHeld ?_; rotate_left; (focus (intro w hSw; (try dsimp only at hSw); obtain ⟨hC, _⟩ := hSw; have x0 := hC.2.1 0 _ rfl; have x1 := hC.2.1 1 _ rfl; have x2 := hC.2.1 2 _ rfl; have x3 := hC.2.1 3 _ rfl; have x4 := hC.2.1 4 _ rfl; go_simp; (try with_reducible rfl))); (try simp only [Act.put, List.setIfInBounds_toArray, List.set_cons_zero, List.set_cons_succ])
        refine tk 2 (v := ?_) rfl (by kernel_rfl) (by kernel_rfl) (by kernel_rfl) (fun _ _ _ h => h) rfl ?_ hHeld ?_; rotate_left; (focus (intro w hSw; (try dsimp only at hSw); obtain ⟨hC, _⟩ := hSw; have x0 := hC.2.1 0 _ rfl; have x1 := hC.2.1 1 _ rfl; have x2 := hC.2.1 2 _ rfl; have x3 := hC.2.1 3 _ rfl; have x4 := hC.2.1 4 _ rfl; go_simp; (try with_reducible rfl))); (try simp only [Act.put, List.setIfInBounds_toArray, List.set_cons_zero, List.set_cons_succ])
        refine only 1 rfl (by kernel_rfl) rfl (fun K hK => ?_)
        go_simp
        refine (TK.out _).mono ?_
        rintro e' w' ⟨rfl, hb⟩
        try go_wp2_with fail
        refine hK.out _ _ ⟨hHeld.1.below hb, SG.below hHeld.2 hb⟩ (fun h1 => ?_)
        clear hK hb
        try simp only [Act.put, List.setIfInBounds_toArray, List.set_cons_zero, List.set_cons_succ]
        refine only 3 rfl (by kernel_rfl) rfl (fun K hK => ?_)
        go_simp
        refine (RK.out _).mono ?_
        rintro e' w' ⟨rfl, hb⟩
        try go_wp2_with fail
        refine hK.out _ _ ⟨h1.1.below hb, SG.below h1.2 hb⟩ (fun h2 => ?_)
        clear hK hb
        try simp only [Act.put, List.setIfInBounds_toArray, List.set_cons_zero, List.set_cons_succ]
        refine tk 4 (v := ?_) rfl (by kernel_rfl) (by kernel_rfl) (by kernel_rfl) (fun _ _ _ h => h) rfl ?_ h2 ?_; rotate_left; (focus (intro w hSw; (try dsimp only at hSw);  go_simp; (try with_reducible rfl))); (try simp only [Act.put, List.setIfInBounds_toArray, List.set_cons_zero, List.set_cons_succ])
        refine tk 5 (v := ?_) rfl (by kernel_rfl) (by kernel_rfl) (by kernel_rfl) (fun _ _ _ h => h) rfl ?_ h2 ?_; rotate_left; (focus (intro w hSw; (try dsimp only at hSw);  go_simp; (try with_reducible rfl))); (try simp only [Act.put, List.setIfInBounds_toArray, List.set_cons_zero, List.set_cons_succ])
        refine tk 6 (v := ?_) rfl (by kernel_rfl) (by kernel_rfl) (by kernel_rfl) (fun _ _ _ h => h) rfl ?_ h2 ?_; rotate_left; (focus (intro w hSw; (try dsimp only at hSw); obtain ⟨hC, _⟩ := hSw; have x0 := hC.2.1 0 _ rfl; have x1 := hC.2.1 1 _ rfl; have x2 := hC.2.1 2 _ rfl; have x3 := hC.2.1 3 _ rfl; have x4 := hC.2.1 4 _ rfl; go_simp; (try with_reducible rfl))); (try simp only [Act.put, List.setIfInBounds_toArray, List.set_cons_zero, List.set_cons_succ])
        refine only 7 rfl (by kernel_rfl) rfl (fun K hK => ?_)
        go_simp
        refine (TK.out _).mono ?_
        rintro e' w' ⟨rfl, hb⟩
        try go_wp2_with fail
        refine hK.out _ _ ⟨h2.1.below hb, SG.below h2.2 hb⟩ (fun h3 => ?_)
        clear hK hb
        try simp only [Act.put, List.setIfInBounds_toArray, List.set_cons_zero, List.set_cons_succ]
        refine tk 8 (v := ?_) rfl (by kernel_rfl) (by kernel_rfl) (by kernel_rfl) (fun _ _ _ h => h) rfl ?_ h3 ?_; rotate_left; (focus (intro w hSw; (try dsimp only at hSw);  go_simp; (try with_reducible rfl))); (try simp only [Act.put, List.setIfInBounds_toArray, List.set_cons_zero, List.set_cons_succ])
        refine tk 9 (v := ?_) rfl (by kernel_rfl) (by kernel_rfl) (by kernel_rfl) (fun _ _ _ h => h) rfl ?_ h3 ?_; rotate_left; (focus (intro w hSw; (try dsimp only at hSw);  go_simp; (try with_reducible rfl))); (try simp only [Act.put, List.setIfInBounds_toArray, List.set_cons_zero, List.set_cons_succ])
        refine tk 10 (v := ?_) rfl (by kernel_rfl) (by kernel_rfl) (by kernel_rfl) (fun _ _ _ h => h) rfl ?_ h3 ?_; rotate_left; (focus (intro w hSw; (try dsimp only at hSw); obtain ⟨hC, _⟩ := hSw; have x0 := hC.2.1 0 _ rfl; have x1 := hC.2.1 1 _ rfl; have x2 := hC.2.1 2 _ rfl; have x3 := hC.2.1 3 _ rfl; have x4 := hC.2.1 4 _ rfl; go_simp; (try with_reducible rfl))); (try simp only [Act.put, List.setIfInBounds_toArray, List.set_cons_zero, List.set_cons_succ])
        refine tk 11 (v := ?_) rfl (by kernel_rfl) (by kernel_rfl) (by kernel_rfl) (fun _ _ _ h => h) rfl ?_ h3 ?_; rotate_left; (focus (intro w hSw; (try dsimp only at hSw);  go_simp; (try with_reducible rfl))); (try simp only [Act.put, List.setIfInBounds_toArray, List.set_cons_zero, List.set_cons_succ])
        refine tk 12 (v := ?_) rfl (by kernel_rfl) (by kernel_rfl) (by kernel_rfl) (fun _ _ _ h => h) rfl ?_ h3 ?_; rotate_left; (focus (intro w hSw; (try dsimp only at hSw);  go_simp; (try with_reducible rfl))); (try simp only [Act.put, List.setIfInBounds_toArray, List.set_cons_zero, List.set_cons_succ])
        refine tk 13 (v := ?_) rfl (by kernel_rfl) (by kernel_rfl) (by kernel_rfl) (fun _ _ _ h => h) rfl ?_ h3 ?_; rotate_left; (focus (intro w hSw; (try dsimp only at hSw);  go_simp; (try with_reducible rfl))); (try simp only [Act.put, List.setIfInBounds_toArray, List.set_cons_zero, List.set_cons_succ])
        refine tk 14 (v := ?_) rfl (by kernel_rfl) (by kernel_rfl) (by kernel_rfl) (fun _ _ _ h => h) rfl ?_ h3 ?_; rotate_left; (focus (intro w hSw; (try dsimp only at hSw);  go_simp; (try with_reducible rfl))); (try simp only [Act.put, List.setIfInBounds_toArray, List.set_cons_zero, List.set_cons_succ])
        refine tk 15 (v := ?_) rfl (by kernel_rfl) (by kernel_rfl) (by kernel_rfl) (fun _ _ _ h => h) rfl ?_ h3 ?_; rotate_left; (focus (intro w hSw; (try dsimp only at hSw);  go_simp; (try with_reducible rfl))); (try simp only [Act.put, List.setIfInBounds_toArray, List.set_cons_zero, List.set_cons_succ])
        refine tk 16 (v := ?_) rfl (by kernel_rfl) (by kernel_rfl) (by kernel_rfl) (fun _ _ _ h => h) rfl ?_ h3 ?_; rotate_left; (focus (intro w hSw; (try dsimp only at hSw); obtain ⟨hC, _⟩ := hSw; have x0 := hC.2.1 0 _ rfl; have x1 := hC.2.1 1 _ rfl; have x2 := hC.2.1 2 _ rfl; have x3 := hC.2.1 3 _ rfl; have x4 := hC.2.1 4 _ rfl; go_simp; (try with_reducible rfl))); (try simp only [Act.put, List.setIfInBounds_toArray, List.set_cons_zero, List.set_cons_succ])
        refine tk 17 (v := ?_) rfl (by kernel_rfl) (by kernel_rfl) (by kernel_rfl) (fun _ _ _ h => h) rfl ?_ h3 ?_; rotate_left; (focus (intro w hSw; (try dsimp only at hSw);  go_simp; (try with_reducible rfl))); (try simp only [Act.put, List.setIfInBounds_toArray, List.set_cons_zero, List.set_cons_succ])
        refine tk 18 (v := ?_) rfl (by kernel_rfl) (by kernel_rfl) (by kernel_rfl) (fun _ _ _ h => h) rfl ?_ h3 ?_; rotate_left; (focus (intro w hSw; (try dsimp only at hSw);  go_simp; (try with_reducible rfl))); (try simp only [Act.put, List.setIfInBounds_toArray, List.set_cons_zero, List.set_cons_succ])
        refine tk 19 (v := ?_) rfl (by kernel_rfl) (by kernel_rfl) (by kernel_rfl) (fun _ _ _ h => h) rfl ?_ h3 ?_; rotate_left; (focus (intro w hSw; (try dsimp only at hSw);  go_simp; (try with_reducible rfl))); (try simp only [Act.put, List.setIfInBounds_toArray, List.set_cons_zero, List.set_cons_succ])
        refine tk 20 (v := ?_) rfl (by kernel_rfl) (by kernel_rfl) (by kernel_rfl) (fun _ _ _ h => h) rfl ?_ h3 ?_; rotate_left; (focus (intro w hSw; (try dsimp only at hSw);  go_simp; (try with_reducible rfl))); (try simp only [Act.put, List.setIfInBounds_toArray, List.set_cons_zero, List.set_cons_succ])
        refine tk 21 (v := ?_) rfl (by kernel_rfl) (by kernel_rfl) (by kernel_rfl) (fun _ _ _ h => h) rfl ?_ h3 ?_; rotate_left; (focus (intro w hSw; (try dsimp only at hSw);  go_simp; (try with_reducible rfl))); (try simp only [Act.put, List.setIfInBounds_toArray, List.set_cons_zero, List.set_cons_succ])
        refine tk 22 (v := ?_) rfl (by kernel_rfl) (by kernel_rfl) (by kernel_rfl) (fun _ _ _ h => h) rfl ?_ h3 ?_; rotate_left; (focus (intro w hSw; (try dsimp only at hSw);  go_simp; (try with_reducible rfl))); (try simp only [Act.put, List.setIfInBounds_toArray, List.set_cons_zero, List.set_cons_succ])
        refine tk 23 (v := ?_) rfl (by kernel_rfl) (by kernel_rfl) (by kernel_rfl) (fun _ _ _ h => h) rfl ?_ h3 ?_; rotate_left; (focus (intro w hSw; (try dsimp only at hSw);  go_simp; (try with_reducible rfl))); (try simp only [Act.put, List.setIfInBounds_toArray, List.set_cons_zero, List.set_cons_succ])
        refine tk 24 (v := ?_) rfl (by kernel_rfl) (by kernel_rfl) (by kernel_rfl) (fun _ _ _ h => h) rfl ?_ h3 ?_; rotate_left; (focus (intro w hSw; (try dsimp only at hSw);  go_simp; (try with_reducible rfl))); (try simp only [Act.put, List.setIfInBounds_toArray, List.set_cons_zero, List.set_cons_succ])
        refine tk 25 (v := ?_) rfl (by kernel_rfl) (by kernel_rfl) (by kernel_rfl) (fun _ _ _ h => h) rfl ?_ h3 ?_; rotate_left; (focus (intro w hSw; (try dsimp only at hSw);  go_simp; (try with_reducible rfl))); (try simp only [Act.put, List.setIfInBounds_toArray, List.set_cons_zero, List.set_cons_succ])
        refine wpAnyH_done (by kernel_rfl) ?_ _
        have SE := hid h3.2
        clear h3 h2 h1 hHeld SV CX TK RK
        go_wp2_with fail
        go_roundw
        case rel => exact ⟨k + 1, by omega, by go_num, SE.out⟩
        case measure => simp [intOf]; omega
    · have e : k = 64 := by omega
      subst e
      have TK := hid (fun w => takes_any ⟨c0, 0, 0, 0, 0⟩ w)
      unfold spV at TK
      simp only at TK
      have h3 : (1 ≤ c0 ∧ c0 ≤ 3 ∧ takesB c0 = true) ∨ (¬ 1 ≤ c0 ∧ takesB c0 = false) ∨ (1 ≤ c0 ∧ ¬ c0 ≤ 3 ∧ takesB c0 = false) := by unfold takesB; simp; omega
      rcases h3 with ⟨h1, h2, h3⟩ | ⟨h1, h3⟩ | ⟨h1, h2, h3⟩
      all_goals
        rw [h3] at TK
        clear h3
        go_wp2_with fail
        refine (TK.out _).mono ?_
        rintro x w9 ⟨rfl, hb⟩
        go_wp2_with fail
        go_ret
        first | exact ⟨rfl, S.out.bl.trans (hb.mono S.out.bl.size)⟩ | exact ⟨by simp [h2], S.out.bl.trans (hb.mono S.out.bl.size)⟩

set_option maxRecDepth 100000 in
theorem lifted (os : Os) (started : os.Started) (H : Type) (enc : TypeId × Value → H) :
    ReturnsInHanded {} Try.checked os 6 .any (Rows.poolFindsSpec.pre6 enc Try.prog Try.f6 [] false) (Rows.poolFindsSpec.post enc Try.prog Try.f6 false true false false) :=
  law_step (s := Rows.poolFindsSpec) started (by kernel_rfl) Try.func6
    (ChangeSpec.witness6 (s := Rows.poolFindsSpec) (enc := enc) (C := Try.checked) false ⟨#[], #[.slice none 0 0, .int .i64 0, .int .i64 0, .int .i64 0, .int .i64 0], []⟩ 8 (by kernel_rfl) (by kernel_rfl) (by kernel_rfl) (by kernel_rfl))
    rfl (by rw [Try.params6]; decide +kernel) rfl Try.underlying4
    (fun ds h => by
      rw [Try.params6] at h
      match ds, h with
      | [_, _, _, _, _], _ => rfl)
    (fun W base args ds ps hval hA hsz => by
      rw [Try.params6] at hA hval hsz
      obtain ⟨v0, vs0, d0, ds0, p0, q0, hargs, rfl, rfl, h0, r0⟩ := trodAll_cons hA
      obtain ⟨v1, vs1, d1, ds1, p1, q1, rfl, rfl, rfl, h1, r1⟩ := trodAll_cons r0
      obtain ⟨v2, vs2, d2, ds2, p2, q2, rfl, rfl, rfl, h2, r2⟩ := trodAll_cons r1
      obtain ⟨v3, vs3, d3, ds3, p3, q3, rfl, rfl, rfl, h3, r3⟩ := trodAll_cons r2
      obtain ⟨v4, vs4, d4, ds4, p4, q4, rfl, rfl, rfl, h4, r4⟩ := trodAll_cons r3
      obtain ⟨rfl, rfl, rfl⟩ := trodAll_nil r4
      obtain rfl : args = #[v0, v1, v2, v3, v4] := by cases args; simp_all
      obtain ⟨A0, n0, c0, g0, rfl, hn0, hc0, hs0, hw0, hl0, hd0⟩ := open_row Try.underlying22 Try.underlying3 (by kernel_rfl) (hval 0 22 v0 rfl rfl) h0
      have re0 : c0 * 8 ≤ 140737488351232 := by
        rcases hd0 with ⟨_, h0⟩ | ⟨xs, ys, h1, h2⟩
        · omega
        · have := sized_slice hsz (j := 0) (t := 22) (e := 3) rfl (by rw [h1]; rfl) Try.underlying22
          rw [h2, show Try.prog.bytesOf 3 = 8 from by kernel_rfl] at this
          simpa [reachBytes] using this
      obtain ⟨a1, rfl, rfl, rfl, w1⟩ := open_int Try.underlying3 (hval 1 3 v1 rfl rfl) h1
      obtain ⟨a2, rfl, rfl, rfl, w2⟩ := open_int Try.underlying3 (hval 2 3 v2 rfl rfl) h2
      obtain ⟨a3, rfl, rfl, rfl, w3⟩ := open_int Try.underlying3 (hval 3 3 v3 rfl rfl) h3
      obtain ⟨a4, rfl, rfl, rfl, w4⟩ := open_int Try.underlying3 (hval 4 3 v4 rfl rfl) h4
      exact walk W A0 n0 c0 g0 hn0 hc0 hs0 (fun j => bounds_i64 (hw0 j)) hl0 re0 a1 (bounds_i64 w1) a2 (bounds_i64 w2) a3 (bounds_i64 w3) a4 (bounds_i64 w4))

theorem proved : Rows.PoolFindsSaid :=
  OpenClaim.holds_of_wide 6 Try.f6 rfl rfl rfl rfl rfl rfl rfl ⟨rfl, rfl, rfl, rfl, rfl⟩ rfl rfl rfl rfl rfl (by kernel_rfl) Try.func6 (by kernel_rfl)
    (of_decide_eq_true (by kernel_rfl)) (by unfold Func.isWrapper; first | (rw [if_pos (by decide +kernel)]; kernel_rfl) | (rw [if_neg (by decide +kernel)]; exact ⟨rfl, rfl⟩))
    (fun os started H enc _ => lifted os started H enc)
end Go.Proofs.Ytdobcdhdeagekaa.poolFinds
