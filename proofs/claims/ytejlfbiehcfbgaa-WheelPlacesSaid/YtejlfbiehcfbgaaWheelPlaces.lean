/- roundhouselaw7.WheelPlaces answers true for every row, any two numbers; no condition. -/
import Derived.Test.YtejlfbiehcfbgaaWhlLaw3
import Derived.Deep.CutRange
import Derived.Deep.LoopGhost
import Derived.BigQuiet
import Derived.Deep.RegionHeld3
import Derived.Deep.Cut
namespace Go.Proofs.Ytejlfbiehcfbgaa.wheelPlaces
set_option linter.unusedVariables false
set_option linter.unusedSimpArgs false
open Go.RowKit Go.ChangeShapes Go.WideShapes Go.ChangeAt

theorem pk_nat (f : Fl) : pkW f = sumW 0 0 (fun j => [3, f.a, f.p, f.ta, f.tp].getD j 0) 5 % 127 := rfl
theorem Is.of {W w : World} {A : Option Addr} {n : Nat} {g : Nat → Int} (h : Is W A n g) (hb : Below W.heap.size W w) : Is w A n g := Sl.below h hb (Nat.le_refl _)
attribute [local irreducible] PA ia cAt cBy atP byP wtP S3 sumW S5 pkW
set_option maxRecDepth 100000 in
set_option maxHeartbeats 8000000 in
theorem walk (W : World) (A1 : Option Addr) (n1 c1 : Nat) (g1 : Nat → Int) (hn1 : n1 ≤ c1) (hc1 : c1 ≤ maxLen) (hr1 : Is W A1 n1 g1) (hg1 : IsI g1) (hl1 : ∀ ad, A1 = some ad → 0 < n1 → ad.block < W.heap.size) (re1 : c1 * 8 ≤ 140737488351232) (a0 : Int) (r_a0 : -9223372036854775808 ≤ a0 ∧ a0 ≤ 9223372036854775807) (b0 : Int) (r_b0 : -9223372036854775808 ≤ b0 ∧ b0 ≤ 9223372036854775807) :
    Calls Try.prog 11 #[.slice A1 n1 c1, .int .i64 a0, .int .i64 b0] W fun e w' => e = .returned (.bool true) ∧ Below W.heap.size W w' := by
  have hz : ∀ w : World, (zeroValue 33).run Try.prog w = .ok (.agg (PA zPl)) w := fun w => zero_pl w
  have hz1 := pa_size zPl
  have hz2 := pa_ne zPl
  unfold maxLen at hc1
  have hnm : (n1 : Int) ≤ 9223372036854775807 := by have := hn1; omega
  have HL := hid hl1
  clear hl1 re1
  obtain ⟨p, hp⟩ : ∃ p, p = mkP g1 (min n1 60) := ⟨_, rfl⟩
  have HQ := hid (show Pinv p 60 from by rw [hp]; exact (mkP_inv g1 _).mono (by omega))
  have HPW := hid (show Pw p from by rw [hp]; exact mk_pw g1 _)
  have MK := hid (fun (w : World) (h : Is w A1 n1 g1) (hl : ∀ ad, A1 = some ad → 0 < n1 → ad.block < w.heap.size) => (show Calls Try.prog 14 #[.slice A1 n1 c1, .int .i64 60] w fun x w' => x = .returned (.agg (PA p)) ∧ Below w.heap.size w w' from by rw [hp]; exact make_any w A1 n1 c1 g1 h hl hnm 60 (by omega)))
  clear hp
  have M7 := hid (show ∀ w, Calls Try.prog 15 #[.agg (PA p)] w fun x w' => ∃ B : Nat, x = .returned (.slice (some ⟨B, 0, none⟩) 127 127) ∧ w.heap.size ≤ B ∧ IA w' B 127 (whlW p) ∧ Below w.heap.size w w' from fun w => make7_any p HPW.out w)
  obtain ⟨f, hf⟩ : ∃ f, f = flN a0 b0 := ⟨_, rfl⟩
  have FOK := fl_ok a0 b0
  have LF0 := fun w => lflow_any a0 b0 w ⟨by omega, by omega⟩ ⟨by omega, by omega⟩
  rw [← hf] at FOK LF0
  clear hf
  have PK := fun (B : Nat) (g : Nat → Int) (w : World) (h : IA w B 127 g) => pick_any (some ⟨B, 0, none⟩) 127 g f FOK w h.slice
  have hpb := pkW_bd f
  obtain ⟨j, hj⟩ : ∃ j : Nat, (pkW f).toNat = j := ⟨_, rfl⟩
  have j127 : j < 127 := by omega
  have hjj : pkW f = (j : Int) := by omega
  have hpk := pk_nat f
  rw [hjj] at hpk
  have R0 := hid hr1
  replace hpk := hpk.symm
  rw [hj] at PK
  clear hj hjj hpb
  obtain ⟨fa, fp, ft, fq⟩ := f
  unfold flV at LF0 PK
  simp only at LF0 PK hpk
  have LF := hid LF0
  have PKH := hid PK
  clear LF0 PK
  have W1 := hid (fun (A : Option Addr) (w : World) (h : Is w A 5 (fun j => [3, fa, fp, ft, fq].getD j 0)) => rwords_any 0 0 A 5 5 _ w h (isI5 FOK) (by omega))
  have hU := sumW_U 0 0 (fun j => [3, fa, fp, ft, fq].getD j 0) 5
  generalize sumW 0 0 (fun j => [3, fa, fp, ft, fq].getD j 0) 5 = s1 at *
  obtain ⟨u1, u2⟩ := hU
  have HPK := hid hpk
  clear hpk FOK
  go_enter Try.func11, Try.ntmps11
  go_wp2_with fail
  refine (known7_any _).mono ?_
  rintro x w1 ⟨rfl, hB⟩
  have R1 := hid (hr1.below hB (Nat.le_refl _))
  have B1 := hid hB
  clear hr1 hB
  go_wp2_with fail
  refine (LF.out _).mono ?_
  rintro x w2 ⟨rfl, hb⟩
  have R2 := hid (R1.out.below hb (Nat.le_refl _))
  have B2 := hid (B1.out.trans (hb.mono B1.out.size))
  clear hb R1 B1 LF
  go_upto_region 4 with (fail)
  have C3 := hid (Ce.made (w := w2) (l := [.int .i64 fa, .int .i64 fp, .int .i64 ft, .int .i64 fq]) (T := 39) (g := w2.heap.size) rfl)
  have R3 := hid (Sl.alloc R2.out (.cells #[.int .i64 fa, .int .i64 fp, .int .i64 ft, .int .i64 fq] 39))
  have B3 := hid (B2.out.alloc B2.out.size (.cells #[.int .i64 fa, .int .i64 fp, .int .i64 ft, .int .i64 fq] 39))
  clear R2 B2
  generalize w2.alloc (.cells #[.int .i64 fa, .int .i64 fp, .int .i64 ft, .int .i64 fq] 39) = w3 at *
  generalize w2.heap.size = X at *
  go_upto_region 5 with (at_make; refine wp_make_i rfl _ _ rfl 127 127 127 rfl rfl rfl rfl (by omega) (by omega) ?_; intro w4 hI4 hb4; have I4 := hid hI4; have C4 := hid (C3.out.below hb4); have R4 := hid (Sl.below R3.out hb4 (Nat.le_refl _)); have B4 := hid (B3.out.trans (hb4.mono B3.out.size)); have dBX : w3.heap.size ≠ X := Nat.ne_of_gt C3.out.1; have lB := B3.out.size; clear hI4 hb4 C3 R3 B3)
  generalize w3.heap.size = V at *
  go_wp2_with fail
  go_loopg [9] 127 (fun gh i wr => ∃ k : Nat, gh = 127 - k ∧ k ≤ 127 ∧ i = .int .i64 (k : Int) ∧ IA wr V 127 (fun j => if j < k then (j : Int) else 0) ∧ Ce wr X [.int .i64 fa, .int .i64 fp, .int .i64 ft, .int .i64 fq] ∧ Below W.heap.size W wr)
  case atStart => exact ⟨0, rfl, by omega, rfl, I4.out.as_ (fun j _ => by rw [if_neg (by omega)]), C4.out, B4.out⟩
  case round =>
    have RW := R4
    clear I4 C4 B4
    obtain ⟨k, rfl, hk, rfl, hI, hC, hB⟩ := hrel
    have I5 := hid hI
    have C5 := hid hC
    have B5 := hid hB
    clear hI hC hB
    by_cases hlt : k < 127
    · have i0 : (0 : Int) ≤ k := by omega
      have i1 : (k : Int) < 127 := by omega
      have cb : wr.cell? ⟨V, k, none⟩ = some (.int .i64 0) := by have h := I5.out.2.1 k hlt; simp only [Nat.lt_irrefl, if_false] at h; exact h
      have zb := I5.out.2.2 k
      have I6 := hid ((I5.out.set k hlt (k : Int)).as_ (g := fun j => if j < k + 1 then (j : Int) else 0) (fun j hj => by by_cases e : j = k; (subst e; rw [putW_same, if_pos (by omega)]); (rw [putW_ne _ _ e]; by_cases e2 : j < k; (rw [if_pos e2, if_pos (by omega)]); (rw [if_neg e2, if_neg (by omega)]))))
      have C6 := hid (Ce.oth C5.out (c := V) (j := k) (v := .int .i64 (k : Int)) dBX)
      have B6 := hid (B5.out.setCell (p := ⟨V, k, none⟩) lB (.int .i64 (k : Int)))
      clear I5 C5 B5
      go_wp2_with fail
      go_roundg (127 - (k + 1))
      case measure => omega
      case rel => exact ⟨k + 1, rfl, by omega, by go_num, I6.out, C6.out, B6.out⟩
    · have e : k = 127 := by omega
      subst e
      have I7 := hid (I5.out.as_ (g := fun j => (j : Int)) (fun j hj => by rw [if_pos hj]))
      clear I5
      have RR := hid (Is.of R0.out B5.out)
      clear R4 RW
      have x0 := C5.out.2.1 0 _ rfl
      have x1 := C5.out.2.1 1 _ rfl
      have x2 := C5.out.2.1 2 _ rfl
      have x3 := C5.out.2.1 3 _ rfl
      go_wp2_with fail
      refine (W1.out _ _ (row_at .i64 [3, fa, fp, ft, fq] rfl)).mono ?_
      rintro x w6 ⟨rfl, hb⟩
      clear x0 x1 x2 x3
      have I8 := hid ((I7.out.alloc _).below hb)
      have C8 := hid ((C5.out.alloc _).below hb)
      have B8 := hid ((B5.out.alloc B5.out.size _).trans (hb.mono (by have := B5.out.size; simp; omega)))
      clear hb I7 C5 B5 W1 RR
      have R8 := hid (Sl.below R0.out B8.out (Nat.le_refl _))
      have e9 := HPK.out
      go_wp2_with fail
      clear e9
      refine (MK.out _ R8.out (fun ad e h => Nat.lt_of_lt_of_le (HL.out ad e h) B8.out.size)).mono ?_
      rintro x w9 ⟨rfl, hb⟩
      have I9 := hid (I8.out.below hb)
      have C9 := hid (C8.out.below hb)
      have B9 := hid (B8.out.trans (hb.mono B8.out.size))
      clear hb I8 C8 B8 R8 MK
      go_wp2_with fail
      refine (M7.out _).mono ?_
      rintro x w10 ⟨Y, rfl, lY, hY, hb⟩
      have I10 := hid (I9.out.below hb)
      have C10 := hid (C9.out.below hb)
      have B10 := hid (B9.out.trans (hb.mono B9.out.size))
      have Y10 := hid hY
      clear hb hY I9 C9 B9 M7
      go_upto_region 11 with (fail)
      have P1 := hid (fun (w : World) (h : IA w V 127 (fun j => (j : Int))) => PKH.out V _ w h)
      have P2 := hid (fun (w : World) (h : IA w Y 127 (whlW p)) => PKH.out Y _ w h)
      skip
      have j0 : (0 : Int) ≤ j := by omega
      have j1 : (j : Int) < 127 := by omega
      refine wp_region_held_drew (S := fun w' => Ce w' X [.int .i64 fa, .int .i64 fp, .int .i64 ft, .int .i64 fq] ∧ IA w' V 127 (fun j => (j : Int)) ∧ IA w' Y 127 (whlW p) ∧ Below W.heap.size W w') (by kernel_rfl) ?_ (fun hHeld => ?_)
      · exact ⟨C10.out, I10.out.drew, Y10.out.drew, B10.out.drew⟩
      refine tk 0 (v := ?_) rfl (by kernel_rfl) (by kernel_rfl) (by kernel_rfl) (fun _ _ _ h => h) rfl ?_ hHeld ?_; rotate_left; (focus (intro w hSw; (try dsimp only at hSw);  go_simp; (try with_reducible rfl))); (try simp only [Act.put, List.setIfInBounds_toArray, List.set_cons_zero, List.set_cons_succ])
      refine tk 1 (v := ?_) rfl (by kernel_rfl) (by kernel_rfl) (by kernel_rfl) (fun _ _ _ h => h) rfl ?_ hHeld ?_; rotate_left; (focus (intro w hSw; (try dsimp only at hSw); have x0 := hSw.1.2.1 0 _ rfl; have x1 := hSw.1.2.1 1 _ rfl; have x2 := hSw.1.2.1 2 _ rfl; have x3 := hSw.1.2.1 3 _ rfl; go_simp; (try with_reducible rfl))); (try simp only [Act.put, List.setIfInBounds_toArray, List.set_cons_zero, List.set_cons_succ])
      refine tk 3 (v := ?_) rfl (by kernel_rfl) (by kernel_rfl) (by kernel_rfl) (fun _ _ _ h => h) rfl ?_ hHeld ?_; rotate_left; (focus (intro w hSw; (try dsimp only at hSw);  go_simp; (try with_reducible rfl))); (try simp only [Act.put, List.setIfInBounds_toArray, List.set_cons_zero, List.set_cons_succ])
      refine only 2 rfl (by kernel_rfl) rfl (fun K hK => ?_)
      go_simp
      refine (P1.out _ hHeld.2.1).mono ?_
      rintro e' w' ⟨rfl, hb⟩
      try go_wp2_with fail
      refine hK.out _ _ ⟨hHeld.1.below hb, hHeld.2.1.below hb, hHeld.2.2.1.below hb, hHeld.2.2.2.trans (hb.mono hHeld.2.2.2.size)⟩ (fun h1 => ?_)
      clear hK hb
      try simp only [Act.put, List.setIfInBounds_toArray, List.set_cons_zero, List.set_cons_succ]
      refine tk 4 (v := ?_) rfl (by kernel_rfl) (by kernel_rfl) (by kernel_rfl) (fun _ _ _ h => h) rfl ?_ h1 ?_; rotate_left; (focus (intro w hSw; (try dsimp only at hSw);  go_simp; (try with_reducible rfl))); (try simp only [Act.put, List.setIfInBounds_toArray, List.set_cons_zero, List.set_cons_succ])
      refine tk 5 (v := ?_) rfl (by kernel_rfl) (by kernel_rfl) (by kernel_rfl) (fun _ _ _ h => h) rfl ?_ h1 ?_; rotate_left; (focus (intro w hSw; (try dsimp only at hSw);  go_simp; (try with_reducible rfl))); (try simp only [Act.put, List.setIfInBounds_toArray, List.set_cons_zero, List.set_cons_succ])
      refine tk 6 (v := ?_) rfl (by kernel_rfl) (by kernel_rfl) (by kernel_rfl) (fun _ _ _ h => h) rfl ?_ h1 ?_; rotate_left; (focus (intro w hSw; (try dsimp only at hSw);  go_simp; (try with_reducible rfl))); (try simp only [Act.put, List.setIfInBounds_toArray, List.set_cons_zero, List.set_cons_succ])
      refine only 7 rfl (by kernel_rfl) rfl (fun K hK => ?_)
      go_simp
      refine hK.out _ _ h1 (fun h2 => ?_)
      clear hK
      try simp only [Act.put, List.setIfInBounds_toArray, List.set_cons_zero, List.set_cons_succ]
      refine tk 8 (v := ?_) rfl (by kernel_rfl) (by kernel_rfl) (by kernel_rfl) (fun _ _ _ h => h) rfl ?_ h2 ?_; rotate_left; (focus (intro w hSw; (try dsimp only at hSw);  go_simp; (try with_reducible rfl))); (try simp only [Act.put, List.setIfInBounds_toArray, List.set_cons_zero, List.set_cons_succ])
      refine tk 9 (v := ?_) rfl (by kernel_rfl) (by kernel_rfl) (by kernel_rfl) (fun _ _ _ h => h) rfl ?_ h2 ?_; rotate_left; (focus (intro w hSw; (try dsimp only at hSw);  go_simp; (try with_reducible rfl))); (try simp only [Act.put, List.setIfInBounds_toArray, List.set_cons_zero, List.set_cons_succ])
      refine tk 10 (v := ?_) rfl (by kernel_rfl) (by kernel_rfl) (by kernel_rfl) (fun _ _ _ h => h) rfl ?_ h2 ?_; rotate_left; (focus (intro w hSw; (try dsimp only at hSw);  go_simp; (try with_reducible rfl))); (try simp only [Act.put, List.setIfInBounds_toArray, List.set_cons_zero, List.set_cons_succ])
      refine tk 11 (v := ?_) rfl (by kernel_rfl) (by kernel_rfl) (by kernel_rfl) (fun _ _ _ h => h) rfl ?_ h2 ?_; rotate_left; (focus (intro w hSw; (try dsimp only at hSw);  go_simp; (try with_reducible rfl))); (try simp only [Act.put, List.setIfInBounds_toArray, List.set_cons_zero, List.set_cons_succ])
      refine tk 12 (v := ?_) rfl (by kernel_rfl) (by kernel_rfl) (by kernel_rfl) (fun _ _ _ h => h) rfl ?_ h2 ?_; rotate_left; (focus (intro w hSw; (try dsimp only at hSw); have x0 := hSw.1.2.1 0 _ rfl; have x1 := hSw.1.2.1 1 _ rfl; have x2 := hSw.1.2.1 2 _ rfl; have x3 := hSw.1.2.1 3 _ rfl; go_simp; (try with_reducible rfl))); (try simp only [Act.put, List.setIfInBounds_toArray, List.set_cons_zero, List.set_cons_succ])
      refine tk 14 (v := ?_) rfl (by kernel_rfl) (by kernel_rfl) (by kernel_rfl) (fun _ _ _ h => h) rfl ?_ h2 ?_; rotate_left; (focus (intro w hSw; (try dsimp only at hSw);  go_simp; (try with_reducible rfl))); (try simp only [Act.put, List.setIfInBounds_toArray, List.set_cons_zero, List.set_cons_succ])
      refine tk 15 (v := ?_) rfl (by kernel_rfl) (by kernel_rfl) (by kernel_rfl) (fun _ _ _ h => h) rfl ?_ h2 ?_; rotate_left; (focus (intro w hSw; (try dsimp only at hSw);  go_simp; (try with_reducible rfl))); (try simp only [Act.put, List.setIfInBounds_toArray, List.set_cons_zero, List.set_cons_succ])
      refine tk 16 (v := ?_) rfl (by kernel_rfl) (by kernel_rfl) (by kernel_rfl) (fun _ _ _ h => h) rfl ?_ h2 ?_; rotate_left; (focus (intro w hSw; (try dsimp only at hSw);  go_simp; (try with_reducible rfl))); (try simp only [Act.put, List.setIfInBounds_toArray, List.set_cons_zero, List.set_cons_succ])
      refine tk 17 (v := ?_) rfl (by kernel_rfl) (by kernel_rfl) (by kernel_rfl) (fun _ _ _ h => h) rfl ?_ h2 ?_; rotate_left; (focus (intro w hSw; (try dsimp only at hSw); have y := hSw.2.2.1.2.1 j j127; go_simp; (try with_reducible rfl))); (try simp only [Act.put, List.setIfInBounds_toArray, List.set_cons_zero, List.set_cons_succ])
      refine only 13 rfl (by kernel_rfl) rfl (fun K hK => ?_)
      go_simp
      refine (P2.out _ h2.2.2.1).mono ?_
      rintro e' w' ⟨rfl, hb⟩
      try go_wp2_with fail
      refine hK.out _ _ ⟨h2.1.below hb, h2.2.1.below hb, h2.2.2.1.below hb, h2.2.2.2.trans (hb.mono h2.2.2.2.size)⟩ (fun h3 => ?_)
      clear hK hb
      try simp only [Act.put, List.setIfInBounds_toArray, List.set_cons_zero, List.set_cons_succ]
      refine tk 18 (v := ?_) rfl (by kernel_rfl) (by kernel_rfl) (by kernel_rfl) (fun _ _ _ h => h) rfl ?_ h3 ?_; rotate_left; (focus (intro w hSw; (try dsimp only at hSw);  go_simp; (try with_reducible rfl))); (try simp only [Act.put, List.setIfInBounds_toArray, List.set_cons_zero, List.set_cons_succ])
      refine tk 19 (v := ?_) rfl (by kernel_rfl) (by kernel_rfl) (by kernel_rfl) (fun _ _ _ h => h) rfl ?_ h3 ?_; rotate_left; (focus (intro w hSw; (try dsimp only at hSw);  go_simp; (try with_reducible rfl))); (try simp only [Act.put, List.setIfInBounds_toArray, List.set_cons_zero, List.set_cons_succ])
      refine tk 20 (v := ?_) rfl (by kernel_rfl) (by kernel_rfl) (by kernel_rfl) (fun _ _ _ h => h) rfl ?_ h3 ?_; rotate_left; (focus (intro w hSw; (try dsimp only at hSw);  go_simp; (try with_reducible rfl))); (try simp only [Act.put, List.setIfInBounds_toArray, List.set_cons_zero, List.set_cons_succ])
      refine wpAnyH_done (by kernel_rfl) ?_ _
      go_wp2_with fail
      go_ret
      exact ⟨rfl, h3.2.2.2⟩

set_option maxRecDepth 100000 in
theorem lifted (os : Os) (started : os.Started) (H : Type) (enc : TypeId × Value → H) :
    ReturnsInHanded {} Try.checked os 11 .any (Rows.wheelPlacesSpec.pre6 enc Try.prog Try.f11 [] false) (Rows.wheelPlacesSpec.post enc Try.prog Try.f11 false true false false) :=
  law_step (s := Rows.wheelPlacesSpec) started (by kernel_rfl) Try.func11
    (ChangeSpec.witness6 (s := Rows.wheelPlacesSpec) (enc := enc) (C := Try.checked) false ⟨#[], #[.slice none 0 0, .int .i64 0, .int .i64 0], []⟩ 8 (by kernel_rfl) (by kernel_rfl) (by kernel_rfl) (by kernel_rfl))
    rfl (by rw [Try.params11]; decide +kernel) rfl Try.underlying4
    (fun ds h => by
      rw [Try.params11] at h
      match ds, h with
      | [_, _, _], _ => rfl)
    (fun W base args ds ps hval hA hsz => by
      rw [Try.params11] at hA hval hsz
      obtain ⟨v0, vs0, d0, ds0, p0, q0, hargs, rfl, rfl, h0, r0⟩ := trodAll_cons hA
      obtain ⟨v1, vs1, d1, ds1, p1, q1, rfl, rfl, rfl, h1, r1⟩ := trodAll_cons r0
      obtain ⟨v2, vs2, d2, ds2, p2, q2, rfl, rfl, rfl, h2, r2⟩ := trodAll_cons r1
      obtain ⟨rfl, rfl, rfl⟩ := trodAll_nil r2
      obtain rfl : args = #[v0, v1, v2] := by cases args; simp_all
      obtain ⟨A0, n0, c0, g0, rfl, hn0, hc0, hs0, hw0, hl0, hd0⟩ := open_row Try.underlying22 Try.underlying3 (by kernel_rfl) (hval 0 22 v0 rfl rfl) h0
      have re0 : c0 * 8 ≤ 140737488351232 := by
        rcases hd0 with ⟨_, h0⟩ | ⟨xs, ys, h1, h2⟩
        · omega
        · have := sized_slice hsz (j := 0) (t := 22) (e := 3) rfl (by rw [h1]; rfl) Try.underlying22
          rw [h2, show Try.prog.bytesOf 3 = 8 from by kernel_rfl] at this
          simpa [reachBytes] using this
      obtain ⟨a1, rfl, rfl, rfl, w1⟩ := open_int Try.underlying3 (hval 1 3 v1 rfl rfl) h1
      obtain ⟨a2, rfl, rfl, rfl, w2⟩ := open_int Try.underlying3 (hval 2 3 v2 rfl rfl) h2
      exact walk W A0 n0 c0 g0 hn0 hc0 hs0 (fun j => bounds_i64 (hw0 j)) hl0 re0 a1 (bounds_i64 w1) a2 (bounds_i64 w2))

theorem proved : Rows.WheelPlacesSaid :=
  OpenClaim.holds_of_wide 11 Try.f11 rfl rfl rfl rfl rfl rfl rfl ⟨rfl, rfl, rfl, rfl, rfl⟩ rfl rfl rfl rfl rfl (by kernel_rfl) Try.func11 (by kernel_rfl)
    (of_decide_eq_true (by kernel_rfl)) (by unfold Func.isWrapper; first | (rw [if_pos (by decide +kernel)]; kernel_rfl) | (rw [if_neg (by decide +kernel)]; exact ⟨rfl, rfl⟩))
    (fun os started H enc _ => lifted os started H enc)
end Go.Proofs.Ytejlfbiehcfbgaa.wheelPlaces
