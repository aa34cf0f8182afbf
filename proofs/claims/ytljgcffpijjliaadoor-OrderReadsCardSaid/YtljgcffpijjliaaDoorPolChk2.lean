/- The package's Check. -/
import Derived.Test.YtljgcffpijjliaaDoorPolChk
import Derived.BigQuiet
import Derived.Deep.RegionHeld3
import Derived.Deep.Cut
namespace Go.Proofs.YtljgcffpijjliaaDoor
set_option linter.unusedVariables false
set_option linter.unusedSimpArgs false
open Go.RowKit Go.ChangeShapes Go.WideShapes Go.ChangeAt

/-- Why an entry may not be, whatever the pool; 0 if it may. -/
def chk (e : En) : Int :=
  if (decide (e.k < 1) || decide (6 < e.k)) = true then 2
  else if (!(inR e.s 0 63) || (e.k == 6 && e.s != 0)) = true then 11
  else if (e.k == 1 && !(mayB e.a e.p && inR e.w 1 8)) = true then 14
  else if eqE e (its e) = true then 0 else 14
theorem chk_eq (e : En) : chk e = bif (decide (e.k < 1) || decide (6 < e.k)) then 2 else bif (!(inR e.s 0 63) || (e.k == 6 && e.s != 0)) then 11 else bif (e.k == 1 && !(mayB e.a e.p && inR e.w 1 8)) then 14 else (if eqE e (its e) = true then 0 else 14) := by
  unfold chk
  cases (decide (e.k < 1) || decide (6 < e.k)) <;> cases (!(inR e.s 0 63) || (e.k == 6 && e.s != 0)) <;> cases (e.k == 1 && !(mayB e.a e.p && inR e.w 1 8)) <;> rfl
set_option maxRecDepth 100000 in
set_option maxHeartbeats 4000000 in
theorem check_any (e : En) (w : World) : Calls Tryd.prog 37 #[enV e] w fun x w' => x = .returned (.int .i64 (chk e)) ∧ Below w.heap.size w w' := by
  obtain ⟨k, s, a, p, m, y1, y2⟩ := e
  obtain ⟨R, hR⟩ : ∃ R, Value.agg R = enV (its ⟨k, s, a, p, m, ⟨y1, y2⟩⟩) := ⟨_, rfl⟩
  obtain ⟨b, hb⟩ : ∃ b, b = eqE ⟨k, s, a, p, m, ⟨y1, y2⟩⟩ (its ⟨k, s, a, p, m, ⟨y1, y2⟩⟩) := ⟨_, rfl⟩
  have IT := hid (fun w => re_v (its_any ⟨k, s, a, p, m, ⟨y1, y2⟩⟩ w) hR.symm)
  have HBQ := hid hb
  have HRQ := hid hR
  have W1 := hid (fun w => pwithin_any s 0 63 w)
  have W2 := hid (fun w => may_any a p w)
  have W3 := hid (fun w => pwithin_any m 1 8 w)
  have HC := hid (chk_eq ⟨k, s, a, p, m, ⟨y1, y2⟩⟩)
  simp only at HC
  rw [← hb] at HC
  unfold enV
  clear hR hb
  generalize inR s 0 63 = i1 at *
  generalize mayB a p = i2 at *
  generalize inR m 1 8 = i3 at *
  generalize chk ⟨k, s, a, p, m, ⟨y1, y2⟩⟩ = r at *
  cases b1 : decide (k < 1) <;> cases b2 : decide (6 < k)
  · cases i1
    · have HR : Hid (r = 11) := hid (by rw [HC.out, b1, b2]; rfl)
      go_enter Tryd.func37, Tryd.ntmps37
      go_wp2_with fail
      refine (W1.out _).mono ?_
      rintro x w' ⟨rfl, rfl⟩
      go_wp2_with fail
      go_ret
      exact ⟨by rw [HR.out]; rfl, (Below.refl _ _).alloc (Nat.le_refl _) _⟩
    · cases b6 : (k == 6)
      · cases b0 : (k == 1)
        · have HR : Hid (r = if b = true then 0 else 14) := hid (by rw [HC.out, b1, b2, b6, b0]; rfl)
          clear HC
          go_enter Tryd.func37, Tryd.ntmps37
          go_wp2_with fail
          refine (W1.out _).mono ?_
          rintro x w' ⟨rfl, rfl⟩
          have CE := Ce.made (w := w) (l := [.int .i64 k, .int .i64 s, .int .i64 a, .int .i64 p, .int .i64 m, .int .u64 y1, .int .u64 y2]) (T := 56) (g := w.heap.size) rfl
          have B := (Below.refl w.heap.size w).alloc (Nat.le_refl _) (.cells #[.int .i64 k, .int .i64 s, .int .i64 a, .int .i64 p, .int .i64 m, .int .u64 y1, .int .u64 y2] 56)
          generalize w.alloc (.cells #[.int .i64 k, .int .i64 s, .int .i64 a, .int .i64 p, .int .i64 m, .int .u64 y1, .int .u64 y2] 56) = w1 at *
          generalize hK : w.heap.size = E at *
          have c0 := CE.2.1 0 _ rfl
          have c1 := CE.2.1 1 _ rfl
          have c2 := CE.2.1 2 _ rfl
          have c3 := CE.2.1 3 _ rfl
          have c4 := CE.2.1 4 _ rfl
          have c5 := CE.2.1 5 _ rfl
          have c6 := CE.2.1 6 _ rfl
          have HK := hid hK
          clear hK
          go_upto_region 9 with (fail)
          clear c0 c1 c2 c3 c4 c5 c6
          have HCE := hid CE
          have HB := hid B
          clear CE B
          refine wp_region_held_drew (S := fun w' => Ce w' E [.int .i64 k, .int .i64 s, .int .i64 a, .int .i64 p, .int .i64 m, .int .u64 y1, .int .u64 y2] ∧ Below E w w') (by kernel_rfl) ?_ (fun hHeld => ?_)
          · exact ⟨HCE.out, HB.out.drew⟩
          refine tk 0 (v := ?_) rfl (by kernel_rfl) (by kernel_rfl) (by kernel_rfl) (fun _ _ _ h => h) rfl ?_ (by assumption) ?_; rotate_left; (focus (intro w hSw; (try dsimp only at hSw); obtain ⟨hC, hB⟩ := hSw; have x0 := hC.2.1 0 _ rfl; have x1 := hC.2.1 1 _ rfl; have x2 := hC.2.1 2 _ rfl; have x3 := hC.2.1 3 _ rfl; have x4 := hC.2.1 4 _ rfl; have x5 := hC.2.1 5 _ rfl; have x6 := hC.2.1 6 _ rfl; go_simp; (try with_reducible rfl))); (try simp only [Act.put, List.setIfInBounds_toArray, List.set_cons_zero, List.set_cons_succ])
          refine tk 1 (v := ?_) rfl (by kernel_rfl) (by kernel_rfl) (by kernel_rfl) (fun _ _ _ h => h) rfl ?_ (by assumption) ?_; rotate_left; (focus (intro w hSw; (try dsimp only at hSw); obtain ⟨hC, hB⟩ := hSw; have x0 := hC.2.1 0 _ rfl; have x1 := hC.2.1 1 _ rfl; have x2 := hC.2.1 2 _ rfl; have x3 := hC.2.1 3 _ rfl; have x4 := hC.2.1 4 _ rfl; have x5 := hC.2.1 5 _ rfl; have x6 := hC.2.1 6 _ rfl; go_simp; (try with_reducible rfl))); (try simp only [Act.put, List.setIfInBounds_toArray, List.set_cons_zero, List.set_cons_succ])
          refine only 2 rfl (by kernel_rfl) rfl (fun K hK => ?_)
          go_simp
          refine (IT.out _).mono ?_
          rintro e' w' ⟨rfl, hb⟩
          try go_wp2_with fail
          refine hK.out _ _ ⟨hHeld.1.below hb, hHeld.2.trans (hb.mono (Nat.le_of_lt hHeld.1.1))⟩ (fun hHeld2 => ?_)
          clear hK
          try simp only [Act.put, List.setIfInBounds_toArray, List.set_cons_zero, List.set_cons_succ]
          refine tk 3 (v := .bool (!b)) rfl (by kernel_rfl) (by kernel_rfl) (by kernel_rfl) (fun _ _ _ h => h) rfl (fun w _ => by rw [HBQ.out]; exact ex_neq _ _ rfl ⟨k, s, a, p, m, ⟨y1, y2⟩⟩ (its ⟨k, s, a, p, m, ⟨y1, y2⟩⟩) rfl HRQ.out w) (by assumption) ?_
          try simp only [Act.put, List.setIfInBounds_toArray, List.set_cons_zero, List.set_cons_succ]
          refine tk 4 (v := ?_) rfl (by kernel_rfl) (by kernel_rfl) (by kernel_rfl) (fun _ _ _ h => h) rfl ?_ (by assumption) ?_; rotate_left; (focus (intro w hSw; (try dsimp only at hSw);  go_simp; (try with_reducible rfl))); (try simp only [Act.put, List.setIfInBounds_toArray, List.set_cons_zero, List.set_cons_succ])
          refine wpAnyH_done (by kernel_rfl) ?_ _
          have B2 := hid hHeld2.2
          clear hHeld hHeld2 hb
          cases b
          · go_wp2_with fail
            go_ret
            exact ⟨by rw [HR.out]; rfl, by rw [HK.out]; exact B2.out⟩
          · go_wp2_with fail
            go_ret
            exact ⟨by rw [HR.out]; rfl, by rw [HK.out]; exact B2.out⟩
        · cases i2
          · have HR : Hid (r = 14) := hid (by rw [HC.out, b1, b2, b6, b0]; rfl)
            clear HC
            go_enter Tryd.func37, Tryd.ntmps37
            go_wp2_with fail
            refine (W1.out _).mono ?_
            rintro x w' ⟨rfl, rfl⟩
            have CE := Ce.made (w := w) (l := [.int .i64 k, .int .i64 s, .int .i64 a, .int .i64 p, .int .i64 m, .int .u64 y1, .int .u64 y2]) (T := 56) (g := w.heap.size) rfl
            have B := (Below.refl w.heap.size w).alloc (Nat.le_refl _) (.cells #[.int .i64 k, .int .i64 s, .int .i64 a, .int .i64 p, .int .i64 m, .int .u64 y1, .int .u64 y2] 56)
            generalize w.alloc (.cells #[.int .i64 k, .int .i64 s, .int .i64 a, .int .i64 p, .int .i64 m, .int .u64 y1, .int .u64 y2] 56) = w1 at *
            generalize hK : w.heap.size = E at *
            have c0 := CE.2.1 0 _ rfl
            have c1 := CE.2.1 1 _ rfl
            have c2 := CE.2.1 2 _ rfl
            have c3 := CE.2.1 3 _ rfl
            have c4 := CE.2.1 4 _ rfl
            have c5 := CE.2.1 5 _ rfl
            have c6 := CE.2.1 6 _ rfl
            have HK := hid hK
            clear hK
            go_wp2_with fail
            refine (W2.out _).mono ?_
            rintro x w2 ⟨rfl, hb⟩
            clear c0 c1 c2 c3 c4 c5 c6
            replace B := B.trans (hb.mono (Nat.le_of_lt CE.1))
            replace CE := CE.below hb
            clear hb
            have c0 := CE.2.1 0 _ rfl
            have c1 := CE.2.1 1 _ rfl
            have c2 := CE.2.1 2 _ rfl
            have c3 := CE.2.1 3 _ rfl
            have c4 := CE.2.1 4 _ rfl
            have c5 := CE.2.1 5 _ rfl
            have c6 := CE.2.1 6 _ rfl
            go_wp2_with fail
            go_ret
            exact ⟨by rw [HR.out]; rfl, by rw [HK.out]; exact B⟩
          · cases i3
            · have HR : Hid (r = 14) := hid (by rw [HC.out, b1, b2, b6, b0]; rfl)
              clear HC
              go_enter Tryd.func37, Tryd.ntmps37
              go_wp2_with fail
              refine (W1.out _).mono ?_
              rintro x w' ⟨rfl, rfl⟩
              have CE := Ce.made (w := w) (l := [.int .i64 k, .int .i64 s, .int .i64 a, .int .i64 p, .int .i64 m, .int .u64 y1, .int .u64 y2]) (T := 56) (g := w.heap.size) rfl
              have B := (Below.refl w.heap.size w).alloc (Nat.le_refl _) (.cells #[.int .i64 k, .int .i64 s, .int .i64 a, .int .i64 p, .int .i64 m, .int .u64 y1, .int .u64 y2] 56)
              generalize w.alloc (.cells #[.int .i64 k, .int .i64 s, .int .i64 a, .int .i64 p, .int .i64 m, .int .u64 y1, .int .u64 y2] 56) = w1 at *
              generalize hK : w.heap.size = E at *
              have c0 := CE.2.1 0 _ rfl
              have c1 := CE.2.1 1 _ rfl
              have c2 := CE.2.1 2 _ rfl
              have c3 := CE.2.1 3 _ rfl
              have c4 := CE.2.1 4 _ rfl
              have c5 := CE.2.1 5 _ rfl
              have c6 := CE.2.1 6 _ rfl
              have HK := hid hK
              clear hK
              go_wp2_with fail
              refine (W2.out _).mono ?_
              rintro x w2 ⟨rfl, hb⟩
              clear c0 c1 c2 c3 c4 c5 c6
              replace B := B.trans (hb.mono (Nat.le_of_lt CE.1))
              replace CE := CE.below hb
              clear hb
              have c0 := CE.2.1 0 _ rfl
              have c1 := CE.2.1 1 _ rfl
              have c2 := CE.2.1 2 _ rfl
              have c3 := CE.2.1 3 _ rfl
              have c4 := CE.2.1 4 _ rfl
              have c5 := CE.2.1 5 _ rfl
              have c6 := CE.2.1 6 _ rfl
              go_wp2_with fail
              refine (W3.out _).mono ?_
              rintro x w' ⟨rfl, rfl⟩
              go_wp2_with fail
              go_ret
              exact ⟨by rw [HR.out]; rfl, by rw [HK.out]; exact B⟩
            · have HR : Hid (r = if b = true then 0 else 14) := hid (by rw [HC.out, b1, b2, b6, b0]; rfl)
              clear HC
              go_enter Tryd.func37, Tryd.ntmps37
              go_wp2_with fail
              refine (W1.out _).mono ?_
              rintro x w' ⟨rfl, rfl⟩
              have CE := Ce.made (w := w) (l := [.int .i64 k, .int .i64 s, .int .i64 a, .int .i64 p, .int .i64 m, .int .u64 y1, .int .u64 y2]) (T := 56) (g := w.heap.size) rfl
              have B := (Below.refl w.heap.size w).alloc (Nat.le_refl _) (.cells #[.int .i64 k, .int .i64 s, .int .i64 a, .int .i64 p, .int .i64 m, .int .u64 y1, .int .u64 y2] 56)
              generalize w.alloc (.cells #[.int .i64 k, .int .i64 s, .int .i64 a, .int .i64 p, .int .i64 m, .int .u64 y1, .int .u64 y2] 56) = w1 at *
              generalize hK : w.heap.size = E at *
              have c0 := CE.2.1 0 _ rfl
              have c1 := CE.2.1 1 _ rfl
              have c2 := CE.2.1 2 _ rfl
              have c3 := CE.2.1 3 _ rfl
              have c4 := CE.2.1 4 _ rfl
              have c5 := CE.2.1 5 _ rfl
              have c6 := CE.2.1 6 _ rfl
              have HK := hid hK
              clear hK
              go_wp2_with fail
              refine (W2.out _).mono ?_
              rintro x w2 ⟨rfl, hb⟩
              clear c0 c1 c2 c3 c4 c5 c6
              replace B := B.trans (hb.mono (Nat.le_of_lt CE.1))
              replace CE := CE.below hb
              clear hb
              have c0 := CE.2.1 0 _ rfl
              have c1 := CE.2.1 1 _ rfl
              have c2 := CE.2.1 2 _ rfl
              have c3 := CE.2.1 3 _ rfl
              have c4 := CE.2.1 4 _ rfl
              have c5 := CE.2.1 5 _ rfl
              have c6 := CE.2.1 6 _ rfl
              go_wp2_with fail
              refine (W3.out _).mono ?_
              rintro x w' ⟨rfl, rfl⟩
              go_upto_region 9 with (fail)
              clear c0 c1 c2 c3 c4 c5 c6
              have HCE := hid CE
              have HB := hid B
              clear CE B
              refine wp_region_held_drew (S := fun w' => Ce w' E [.int .i64 k, .int .i64 s, .int .i64 a, .int .i64 p, .int .i64 m, .int .u64 y1, .int .u64 y2] ∧ Below E w w') (by kernel_rfl) ?_ (fun hHeld => ?_)
              · exact ⟨HCE.out, HB.out.drew⟩
              refine tk 0 (v := ?_) rfl (by kernel_rfl) (by kernel_rfl) (by kernel_rfl) (fun _ _ _ h => h) rfl ?_ (by assumption) ?_; rotate_left; (focus (intro w hSw; (try dsimp only at hSw); obtain ⟨hC, hB⟩ := hSw; have x0 := hC.2.1 0 _ rfl; have x1 := hC.2.1 1 _ rfl; have x2 := hC.2.1 2 _ rfl; have x3 := hC.2.1 3 _ rfl; have x4 := hC.2.1 4 _ rfl; have x5 := hC.2.1 5 _ rfl; have x6 := hC.2.1 6 _ rfl; go_simp; (try with_reducible rfl))); (try simp only [Act.put, List.setIfInBounds_toArray, List.set_cons_zero, List.set_cons_succ])
              refine tk 1 (v := ?_) rfl (by kernel_rfl) (by kernel_rfl) (by kernel_rfl) (fun _ _ _ h => h) rfl ?_ (by assumption) ?_; rotate_left; (focus (intro w hSw; (try dsimp only at hSw); obtain ⟨hC, hB⟩ := hSw; have x0 := hC.2.1 0 _ rfl; have x1 := hC.2.1 1 _ rfl; have x2 := hC.2.1 2 _ rfl; have x3 := hC.2.1 3 _ rfl; have x4 := hC.2.1 4 _ rfl; have x5 := hC.2.1 5 _ rfl; have x6 := hC.2.1 6 _ rfl; go_simp; (try with_reducible rfl))); (try simp only [Act.put, List.setIfInBounds_toArray, List.set_cons_zero, List.set_cons_succ])
              refine only 2 rfl (by kernel_rfl) rfl (fun K hK => ?_)
              go_simp
              refine (IT.out _).mono ?_
              rintro e' w' ⟨rfl, hb⟩
              try go_wp2_with fail
              refine hK.out _ _ ⟨hHeld.1.below hb, hHeld.2.trans (hb.mono (Nat.le_of_lt hHeld.1.1))⟩ (fun hHeld2 => ?_)
              clear hK
              try simp only [Act.put, List.setIfInBounds_toArray, List.set_cons_zero, List.set_cons_succ]
              refine tk 3 (v := .bool (!b)) rfl (by kernel_rfl) (by kernel_rfl) (by kernel_rfl) (fun _ _ _ h => h) rfl (fun w _ => by rw [HBQ.out]; exact ex_neq _ _ rfl ⟨k, s, a, p, m, ⟨y1, y2⟩⟩ (its ⟨k, s, a, p, m, ⟨y1, y2⟩⟩) rfl HRQ.out w) (by assumption) ?_
              try simp only [Act.put, List.setIfInBounds_toArray, List.set_cons_zero, List.set_cons_succ]
              refine tk 4 (v := ?_) rfl (by kernel_rfl) (by kernel_rfl) (by kernel_rfl) (fun _ _ _ h => h) rfl ?_ (by assumption) ?_; rotate_left; (focus (intro w hSw; (try dsimp only at hSw);  go_simp; (try with_reducible rfl))); (try simp only [Act.put, List.setIfInBounds_toArray, List.set_cons_zero, List.set_cons_succ])
              refine wpAnyH_done (by kernel_rfl) ?_ _
              have B2 := hid hHeld2.2
              clear hHeld hHeld2 hb
              cases b
              · go_wp2_with fail
                go_ret
                exact ⟨by rw [HR.out]; rfl, by rw [HK.out]; exact B2.out⟩
              · go_wp2_with fail
                go_ret
                exact ⟨by rw [HR.out]; rfl, by rw [HK.out]; exact B2.out⟩
      · have b0 : (k == 1) = false := by have := eq_of_beq b6; subst this; rfl
        cases bs : (s != 0)
        · have HR : Hid (r = if b = true then 0 else 14) := hid (by rw [HC.out, b1, b2, b6, b0, bs]; rfl)
          clear HC
          go_enter Tryd.func37, Tryd.ntmps37
          go_wp2_with fail
          refine (W1.out _).mono ?_
          rintro x w' ⟨rfl, rfl⟩
          have CE := Ce.made (w := w) (l := [.int .i64 k, .int .i64 s, .int .i64 a, .int .i64 p, .int .i64 m, .int .u64 y1, .int .u64 y2]) (T := 56) (g := w.heap.size) rfl
          have B := (Below.refl w.heap.size w).alloc (Nat.le_refl _) (.cells #[.int .i64 k, .int .i64 s, .int .i64 a, .int .i64 p, .int .i64 m, .int .u64 y1, .int .u64 y2] 56)
          generalize w.alloc (.cells #[.int .i64 k, .int .i64 s, .int .i64 a, .int .i64 p, .int .i64 m, .int .u64 y1, .int .u64 y2] 56) = w1 at *
          generalize hK : w.heap.size = E at *
          have c0 := CE.2.1 0 _ rfl
          have c1 := CE.2.1 1 _ rfl
          have c2 := CE.2.1 2 _ rfl
          have c3 := CE.2.1 3 _ rfl
          have c4 := CE.2.1 4 _ rfl
          have c5 := CE.2.1 5 _ rfl
          have c6 := CE.2.1 6 _ rfl
          have HK := hid hK
          clear hK
          go_upto_region 9 with (fail)
          clear c0 c1 c2 c3 c4 c5 c6
          have HCE := hid CE
          have HB := hid B
          clear CE B
          refine wp_region_held_drew (S := fun w' => Ce w' E [.int .i64 k, .int .i64 s, .int .i64 a, .int .i64 p, .int .i64 m, .int .u64 y1, .int .u64 y2] ∧ Below E w w') (by kernel_rfl) ?_ (fun hHeld => ?_)
          · exact ⟨HCE.out, HB.out.drew⟩
          refine tk 0 (v := ?_) rfl (by kernel_rfl) (by kernel_rfl) (by kernel_rfl) (fun _ _ _ h => h) rfl ?_ (by assumption) ?_; rotate_left; (focus (intro w hSw; (try dsimp only at hSw); obtain ⟨hC, hB⟩ := hSw; have x0 := hC.2.1 0 _ rfl; have x1 := hC.2.1 1 _ rfl; have x2 := hC.2.1 2 _ rfl; have x3 := hC.2.1 3 _ rfl; have x4 := hC.2.1 4 _ rfl; have x5 := hC.2.1 5 _ rfl; have x6 := hC.2.1 6 _ rfl; go_simp; (try with_reducible rfl))); (try simp only [Act.put, List.setIfInBounds_toArray, List.set_cons_zero, List.set_cons_succ])
          refine tk 1 (v := ?_) rfl (by kernel_rfl) (by kernel_rfl) (by kernel_rfl) (fun _ _ _ h => h) rfl ?_ (by assumption) ?_; rotate_left; (focus (intro w hSw; (try dsimp only at hSw); obtain ⟨hC, hB⟩ := hSw; have x0 := hC.2.1 0 _ rfl; have x1 := hC.2.1 1 _ rfl; have x2 := hC.2.1 2 _ rfl; have x3 := hC.2.1 3 _ rfl; have x4 := hC.2.1 4 _ rfl; have x5 := hC.2.1 5 _ rfl; have x6 := hC.2.1 6 _ rfl; go_simp; (try with_reducible rfl))); (try simp only [Act.put, List.setIfInBounds_toArray, List.set_cons_zero, List.set_cons_succ])
          refine only 2 rfl (by kernel_rfl) rfl (fun K hK => ?_)
          go_simp
          refine (IT.out _).mono ?_
          rintro e' w' ⟨rfl, hb⟩
          try go_wp2_with fail
          refine hK.out _ _ ⟨hHeld.1.below hb, hHeld.2.trans (hb.mono (Nat.le_of_lt hHeld.1.1))⟩ (fun hHeld2 => ?_)
          clear hK
          try simp only [Act.put, List.setIfInBounds_toArray, List.set_cons_zero, List.set_cons_succ]
          refine tk 3 (v := .bool (!b)) rfl (by kernel_rfl) (by kernel_rfl) (by kernel_rfl) (fun _ _ _ h => h) rfl (fun w _ => by rw [HBQ.out]; exact ex_neq _ _ rfl ⟨k, s, a, p, m, ⟨y1, y2⟩⟩ (its ⟨k, s, a, p, m, ⟨y1, y2⟩⟩) rfl HRQ.out w) (by assumption) ?_
          try simp only [Act.put, List.setIfInBounds_toArray, List.set_cons_zero, List.set_cons_succ]
          refine tk 4 (v := ?_) rfl (by kernel_rfl) (by kernel_rfl) (by kernel_rfl) (fun _ _ _ h => h) rfl ?_ (by assumption) ?_; rotate_left; (focus (intro w hSw; (try dsimp only at hSw);  go_simp; (try with_reducible rfl))); (try simp only [Act.put, List.setIfInBounds_toArray, List.set_cons_zero, List.set_cons_succ])
          refine wpAnyH_done (by kernel_rfl) ?_ _
          have B2 := hid hHeld2.2
          clear hHeld hHeld2 hb
          cases b
          · go_wp2_with fail
            go_ret
            exact ⟨by rw [HR.out]; rfl, by rw [HK.out]; exact B2.out⟩
          · go_wp2_with fail
            go_ret
            exact ⟨by rw [HR.out]; rfl, by rw [HK.out]; exact B2.out⟩
        · have HR : Hid (r = 11) := hid (by rw [HC.out, b1, b2, b6, bs]; rfl)
          clear HC
          go_enter Tryd.func37, Tryd.ntmps37
          go_wp2_with fail
          refine (W1.out _).mono ?_
          rintro x w' ⟨rfl, rfl⟩
          go_wp2_with fail
          go_ret
          exact ⟨by rw [HR.out]; rfl, (Below.refl _ _).alloc (Nat.le_refl _) _⟩
  · have HR : Hid (r = 2) := hid (by rw [HC.out, b1, b2]; rfl)
    go_enter Tryd.func37, Tryd.ntmps37
    go_wp2_with fail
    go_ret
    exact ⟨by rw [HR.out]; rfl, (Below.refl _ _).alloc (Nat.le_refl _) _⟩
  · have HR : Hid (r = 2) := hid (by rw [HC.out, b1, b2]; rfl)
    go_enter Tryd.func37, Tryd.ntmps37
    go_wp2_with fail
    go_ret
    exact ⟨by rw [HR.out]; rfl, (Below.refl _ _).alloc (Nat.le_refl _) _⟩
  · have HR : Hid (r = 2) := hid (by rw [HC.out, b1, b2]; rfl)
    go_enter Tryd.func37, Tryd.ntmps37
    go_wp2_with fail
    go_ret
    exact ⟨by rw [HR.out]; rfl, (Below.refl _ _).alloc (Nat.le_refl _) _⟩
end Go.Proofs.YtljgcffpijjliaaDoor
