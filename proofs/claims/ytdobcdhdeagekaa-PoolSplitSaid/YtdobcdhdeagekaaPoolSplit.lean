/- roundhouselaw6.PoolSplit answers true for every two rows, any number; no condition. -/
import Derived.Test.YtdobcdhdeagekaaPolRow
import Derived.Deep.CutRange
import Derived.BigQuiet
import Derived.Deep.RegionHeld3
import Derived.Deep.Cut
namespace Go.Proofs.Ytdobcdhdeagekaa.poolSplit
set_option linter.unusedVariables false
set_option linter.unusedSimpArgs false
open Go.RowKit Go.ChangeShapes Go.WideShapes Go.ChangeAt

theorem elem_e : Try.prog.underlying 51 = some (.slice (Try.prog.elem 51)) := by kernel_rfl
theorem size_e (W : World) : (sizeOf (Try.prog.elem 51)).run Try.prog W = .ok 7 W := by kernel_rfl
theorem cut_hi (A : Option Addr) (n d c : Nat) (hc : c ≤ d) : ∃ A' : Option Addr, (∀ W : World, (Instr.slice 51 (.slice A n d) none (some (.int .i64 (c : Int))) none).run Try.prog W = .ok (.slice A' c d) W) ∧ ∀ (w : World) (g : Nat → En), Se w A c g → Se w A' c g := by
  refine ⟨if d = 0 then A else A.map (·.add 0), fun W => ?_, fun w g h => ?_⟩
  · rw [run_slice_h W 51 A n d elem_e .i64 (c : Int) (by omega) (by omega), size_e W]
    simp [Result.andThen, sliced]
  · intro h0
    obtain ⟨b, off, rfl, hb, hcell⟩ := h h0
    refine ⟨b, off, ?_, hb, hcell⟩
    split
    · rfl
    · simp [add_plain]
theorem cut_lo (A : Option Addr) (k d c : Nat) (hck : c ≤ k) (hkd : k ≤ d) : ∃ A' : Option Addr, (∀ W : World, (Instr.slice 51 (.slice A k d) (some (.int .i64 (c : Int))) none none).run Try.prog W = .ok (.slice A' (k - c) (d - c)) W) ∧ ∀ (w : World) (g : Nat → En), Se w A k g → Se w A' (k - c) (fun i => g (c + i)) := by
  obtain ⟨A', h1, h2⟩ := cut_from elem_e size_e A k d c hck hkd (c : Int) rfl
  refine ⟨A', h1, fun w g h => (h2 w _ h).as fun j hj => ?_⟩
  simp only
  rw [show (c * 7 + j) / 7 = c + j / 7 by omega, show (c * 7 + j) % 7 = j % 7 by omega]
theorem se_less {w : World} {A : Option Addr} {k c : Nat} {g : Nat → En} (hc : c ≤ k) (h : Se w A k g) : Se w A c g := Sl.less h (by omega)
theorem se_ne {w : World} {A : Option Addr} {k : Nat} {g : Nat → En} (h : Se w A k g) : ∀ ad, A = some ad → 0 < k * 7 → ad.block ≠ w.heap.size := fun ad e h0 => by
  obtain ⟨b, off, e', hb, _⟩ := h h0
  rw [e] at e'
  injection e' with e'
  subst e'
  exact Nat.ne_of_lt hb
theorem run_inv {p : Pl} {g : Nat → En} {K : Int} (hp : Pinv p K) : ∀ {k : Nat} {q : Pl}, runP p g k = some q → Pinv q (K + k)
  | 0, q, h => by
    unfold runP at h
    injection h with h
    subst h
    exact hp.mono (by omega)
  | k + 1, q, h => by
    unfold runP at h
    cases h1 : runP p g k with
    | none => rw [h1] at h; cases h
    | some q1 =>
      rw [h1] at h
      simp only at h
      have ih := run_inv hp h1
      by_cases h0 : (apR q1 (g k)).2 = 0
      · rw [if_pos h0] at h
        injection h with h
        rw [← h]
        exact (apR_inv ih h0).mono (by omega)
      · rw [if_neg h0] at h; cases h
section
variable {P : Program} {o : Oper} {w : World} {v : Value}
theorem ex_slice_h {f : Operand → Value} {T : TypeId} {x y : Operand} {u z : Value} (ho : o.op = .slice T x none (some y) none) (hx : f x = u) (hy : f y = z) (hT : P.underlying T = some (.slice (P.elem T))) (hl : (Instr.slice T u none (some z) none).run P w = .ok v w) : (execOp f o).run P w = .ok (.value v) w := by
  unfold execOp; simp only [ho, hx, hy, Option.map_some, Option.map_none, Sem.run_bind, run_sliceAt_slice _ _ _ _ _ _ hT, hl, Result.andThen_ok, Sem.run_pure]
theorem ex_slice_l {f : Operand → Value} {T : TypeId} {x y : Operand} {u z : Value} (ho : o.op = .slice T x (some y) none none) (hx : f x = u) (hy : f y = z) (hT : P.underlying T = some (.slice (P.elem T))) (hl : (Instr.slice T u (some z) none none).run P w = .ok v w) : (execOp f o).run P w = .ok (.value v) w := by
  unfold execOp; simp only [ho, hx, hy, Option.map_some, Option.map_none, Sem.run_bind, run_sliceAt_slice _ _ _ _ _ _ hT, hl, Result.andThen_ok, Sem.run_pure]
end
attribute [local irreducible] PA
set_option maxRecDepth 100000 in
set_option maxHeartbeats 8000000 in
theorem walk (W : World) (A1 : Option Addr) (n1 c1 : Nat) (g1 : Nat → Int) (hn1 : n1 ≤ c1) (hc1 : c1 ≤ maxLen) (hr1 : Is W A1 n1 g1) (hg1 : IsI g1) (hl1 : ∀ ad, A1 = some ad → 0 < n1 → ad.block < W.heap.size) (re1 : c1 * 8 ≤ 140737488351232) (A2 : Option Addr) (n2 c2 : Nat) (g2 : Nat → Int) (hn2 : n2 ≤ c2) (hc2 : c2 ≤ maxLen) (hr2 : Is W A2 n2 g2) (hg2 : IsI g2) (hl2 : ∀ ad, A2 = some ad → 0 < n2 → ad.block < W.heap.size) (re2 : c2 * 8 ≤ 140737488351232) (c0 : Int) (r_c0 : -9223372036854775808 ≤ c0 ∧ c0 ≤ 9223372036854775807) :
    Calls Try.prog 12 #[.slice A1 n1 c1, .slice A2 n2 c2, .int .i64 c0] W fun e w' => e = .returned (.bool true) ∧ Below W.heap.size W w' := by
  have hz : ∀ w : World, (zeroValue 34).run Try.prog w = .ok (.agg (PA zPl)) w := fun w => zero_pl w
  have hz1 := pa_size zPl
  have hz2 := pa_ne zPl
  unfold maxLen at hc1 hc2
  have hnm : (n1 : Int) ≤ 9223372036854775807 := by have := hn1; omega
  have HL := hid hl1
  have hn2m : (n2 : Int) ≤ 9223372036854775807 := by have := hn2; omega
  have HR2 := hid hr2
  clear hl1 re1 hl2 re2 hr2
  obtain ⟨p, hp⟩ : ∃ p, p = mkP g1 (min n1 30) := ⟨_, rfl⟩
  have HQ := hid (show Pinv p 30 from by rw [hp]; exact (mkP_inv g1 _).mono (by omega))
  have MK := hid (fun (w : World) (h : Is w A1 n1 g1) (hl : ∀ ad, A1 = some ad → 0 < n1 → ad.block < w.heap.size) => (show Calls Try.prog 24 #[.slice A1 n1 c1, .int .i64 30] w fun x w' => x = .returned (.agg (PA p)) ∧ Below w.heap.size w w' from by rw [hp]; exact make_any w A1 n1 c1 g1 h hl hnm 30 (by omega)))
  clear hp
  go_enter Try.func12, Try.ntmps12
  go_wp2_with fail
  refine (known_any _).mono ?_
  rintro x w1 ⟨rfl, hB⟩
  have R1 := hid (hr1.below hB (Nat.le_refl _))
  have B1 := hid hB
  clear hr1 hB
  go_wp2_with fail
  refine (MK.out _ R1.out (fun ad e h => Nat.lt_of_lt_of_le (HL.out ad e h) B1.out.size)).mono ?_
  rintro x w2 ⟨rfl, hb⟩
  have S2 := hid ((SG.start B1.out).below hb)
  clear hb R1 B1 MK
  have ST := hid ((sg_new (w := w2) (T := 34)).storeA p)
  have S3 := hid (SG.put S2.out (T := 34) zPl p (by simp))
  go_upto_region 4 with ((with_reducible refine wl_id ?_); refine wl_store rfl rfl rfl rfl ST.out ?_)
  clear ST S2
  generalize (w2.alloc (.cells (PA zPl) 34)).setCells w2.heap.size 0 (PA p).toList = w3 at *
  generalize w2.heap.size = P at *
  have lD := S3.out.bl.size
  have dP := (SG.get S3.out (b := P) (p := p) (by simp)).1
  obtain ⟨D, hD⟩ : ∃ D, D = w3.heap.size := ⟨_, rfl⟩
  rw [← hD] at lD dP
  have HD := hid hD
  clear hD
  obtain ⟨GG, hG⟩ : ∃ GG : Nat → En, GG = fun k => enN (g2 k) := ⟨_, rfl⟩
  have HG := hid (fun k => (show GG k = enN (g2 k) from by rw [hG]))
  clear hG
  have lDD := hid (show D ≤ w3.heap.size from by rw [HD.out]; exact Nat.le_refl _)
  clear HD
  go_wp2_with fail
  go_loopw [8, 9] (fun v i wr => ∃ (k : Nat) (A : Option Addr) (d : Nat), k ≤ n2 ∧ k ≤ 20 ∧ v = .slice A k d ∧ i = .int .i64 (k : Int) ∧ D ≤ wr.heap.size ∧ OwE wr D (.slice A k d) k GG ∧ SG W wr [(P, p)] []) (fun _ i _ => 20 - (intOf i).toNat)
  case atStart => exact ⟨0, none, 0, by omega, by omega, rfl, rfl, lDD.out, OwE.nil, S3.out⟩
  case round =>
    clear S3 lDD
    obtain ⟨k, A, d, hk, hk20, rfl, rfl, hDr, hO, hS⟩ := hrel
    have S := hid hS
    have HO := hid hO
    clear hS hO
    by_cases hlt : k < n2 ∧ k < 20
    · obtain ⟨hlt1, hlt2⟩ := hlt
      have i0 : (0 : Int) ≤ k := by omega
      have i1 : (k : Int) < n2 := by omega
      have i2 : (k : Int) < 20 := by omega
      have R2 := Sl.below HR2.out S.out.bl (Nat.le_refl _)
      obtain ⟨bb, off, rfl⟩ := Sl.addr R2 (by omega)
      have xc := Sl.at_ R2 (j := k) hlt1
      clear R2
      have EN0 := fun w => entry_any (g2 k) w
      obtain ⟨en, hen⟩ : ∃ en, en = enN (g2 k) := ⟨_, rfl⟩
      have HE := hid ((HG.out k).trans hen.symm)
      rw [← hen] at EN0
      clear hen
      obtain ⟨e1, e2, e3, e4, e5, e6, e7⟩ := en
      unfold enV at EN0
      simp only at EN0
      have EN := hid EN0
      clear EN0
      go_wp2_with fail
      clear xc
      refine (EN.out _).mono ?_
      rintro x w4 ⟨rfl, hb⟩
      have S4 := hid (S.out.below hb)
      have HO4 := hid (HO.out.keep hb (Nat.le_refl _))
      have l4 := Nat.le_trans hDr hb.size
      clear hb S HO EN
      have hne := hid (HO4.out.ge dP)
      go_wp2_with (at_builtin; refine wp_app_e rfl (.tmp 34) (.tmp 40) rfl D _ k GG rfl (Ow.alloc HO4.out _) w4.heap.size 1 rfl (by rw [HE.out]; exact Ce.made rfl) (by omega) (by simp; omega) ?_; intro A' d' w5 hown hbel hgr; have S5 := hid (SG.grown (S4.out.alloc _) hgr (fun x hx => by simp at hx; subst hx; exact hne.out) hbel lD); have HO5 := hid hown; have l5 := Nat.le_trans (Nat.le_succ_of_le l4) (by have := hbel.size; simpa using this); clear hown hbel hgr hne S4 HO4)
      go_roundw
      case rel => exact ⟨k + 1, A', d', by omega, by omega, rfl, by go_num, l5, HO5.out, S5.out⟩
      case measure => simp [intOf]; omega
    · have hk3 : (k : Int) ≤ 20 := by omega
      have hdec : ¬ (k : Int) < n2 ∨ ¬ (k : Int) < 20 := by omega
      have SE := hid HO.out.se
      have hkd := HO.out.cap
      have S0 := hid S.out
      clear HO S
      by_cases hkn : (k : Int) < n2
      · have hk8 : ¬ (k : Int) < 20 := by omega
        clear hdec hlt
        obtain ⟨tt, ht⟩ : ∃ x, x = wi c0 ((k : Int) + 1) := ⟨_, rfl⟩
        have bt := wi_bd c0 ((k : Int) + 1) (by omega)
        rw [← ht] at bt
        have Wt := hid (fun w => re_i64 (within_any c0 ((k : Int) + 1) w (by omega) (by omega)) ht.symm)
        clear ht
        obtain ⟨bt1, bt2⟩ := bt
        obtain ⟨c, rfl⟩ : ∃ c : Nat, tt = c := ⟨tt.toNat, by omega⟩
        have ck : c ≤ k := by omega
        have AL := hid (fun A d w (h : Se w A k GG) => (show Calls Try.prog 25 #[.agg (PA p), .slice A k d] w fun x w' => ∃ (q : Pl) (m : Nat) (er : Int), x = .returned (.tuple #[.agg (PA q), .int .i64 (m : Int), .int .i64 er]) ∧ AllOut p GG k q m er ∧ Below w.heap.size w w' from all_any p GG A k d w h (by omega) 30 HQ.out (by omega)))
        have FL := hid (fun A d w (h : Se w A c GG) => (show Calls Try.prog 25 #[.agg (PA p), .slice A c d] w fun x w' => ∃ (q : Pl) (m : Nat) (er : Int), x = .returned (.tuple #[.agg (PA q), .int .i64 (m : Int), .int .i64 er]) ∧ AllOut p GG c q m er ∧ Below w.heap.size w w' from all_any p GG A c d w h (by omega) 30 HQ.out (by omega)))
        go_wp2_with fail
        refine (Wt.out _).mono ?_
        rintro x w' ⟨rfl, rfl⟩
        go_upto_region 10 with (fail)
        have LP := (SG.get S0.out (b := P) (p := p) (by simp)).loadA
        go_wp2_with ((with_reducible refine wl_id ?_); refine wl_load rfl rfl rfl LP ?_)
        refine (AL.out _ _ _ SE.out).mono ?_
        rintro x w6 ⟨q, n, er, rfl, hout, hb⟩
        have AO := hid hout
        have S6 := hid (S0.out.below hb)
        have SE6 := hid (Se.below SE.out hb (Nat.le_refl _))
        clear hb hout S0 SE LP AL Wt
        have ST := hid ((sg_new (w := w6) (T := 34)).storeA q)
        have S7 := hid (SG.put S6.out (T := 34) zPl q (by simp))
        have SE7 := hid (Se.below SE6.out (below_put (T := 34) zPl q) (Nat.le_refl _))
        go_upto_region 11 with ((with_reducible refine wl_id ?_); refine wl_store rfl rfl rfl rfl ST.out ?_)
        clear ST S6 SE6
        generalize (w6.alloc (.cells (PA zPl) 34)).setCells w6.heap.size 0 (PA q).toList = w7 at *
        generalize w6.heap.size = Q1 at *
        obtain ⟨A2, ct, cs⟩ := cut_hi A k d c (by omega)
        have CT := hid ct
        clear ct
        go_upto_region 11 with (fail)
        go_cut [14, 15, 16] from 54 to 63 (fun u v x wx => ∃ (UU : Nat) (b : Pl) (m : Nat) (f : Int), u = .pointer (some ⟨UU, 0, none⟩) ∧ v = .int .i64 (m : Int) ∧ x = .int .i64 f ∧ PoolAt wx UU b ∧ AllOut p GG c b m f ∧ SG W wx [(Q1, q), (P, p)] [] ∧ Se wx A k GG)
        case first =>
          skip
          refine wp_region_held_drew (S := fun w' => SG W w' [(Q1, q), (P, p)] [] ∧ Se w' A k GG) (by kernel_rfl) ?_ (fun hHeld => ?_)
          · exact ⟨S7.out.drew, Sl.drew SE7.out⟩
          refine tk 0 (v := .agg (PA p)) rfl (by kernel_rfl) (by kernel_rfl) (by kernel_rfl) (fun _ _ _ h => h) rfl (fun w hSw => ex_load rfl rfl (SG.get hSw.1 (b := P) (p := p) (by simp)).loadA) hHeld ?_; (try simp only [Act.put, List.setIfInBounds_toArray, List.set_cons_zero, List.set_cons_succ])
          refine tk 1 (v := ?_) rfl (by kernel_rfl) (by kernel_rfl) (by kernel_rfl) (fun _ _ _ h => h) rfl ?_ hHeld ?_; rotate_left; (focus (intro w hSw; (try dsimp only at hSw);  go_simp; (try with_reducible rfl))); (try simp only [Act.put, List.setIfInBounds_toArray, List.set_cons_zero, List.set_cons_succ])
          refine tk 2 (v := ?_) rfl (by kernel_rfl) (by kernel_rfl) (by kernel_rfl) (fun _ _ _ h => h) rfl ?_ hHeld ?_; rotate_left; (focus (intro w hSw; (try dsimp only at hSw);  go_simp; (try with_reducible rfl))); (try simp only [Act.put, List.setIfInBounds_toArray, List.set_cons_zero, List.set_cons_succ])
          refine tk 3 (v := .slice A2 c d) rfl (by kernel_rfl) (by kernel_rfl) (by kernel_rfl) (fun _ _ _ h => h) rfl (fun w hSw => ex_slice_h rfl rfl rfl elem_e (CT.out w)) hHeld ?_; (try simp only [Act.put, List.setIfInBounds_toArray, List.set_cons_zero, List.set_cons_succ])
          refine twoUp 4 9 rfl rfl (by kernel_rfl) rfl rfl (fun K hK => ?_) (fun K hK => ?_)
          · go_simp
            refine (FL.out _ _ _ (cs _ _ (se_less ck hHeld.2))).mono ?_
            rintro e' w' ⟨b, m, f, rfl, hout, hb⟩
            have HOUT := hid hout
            clear hout
            try go_wp2_with fail
            refine hK.out _ _ ⟨SG.below hHeld.1 hb, Se.below hHeld.2 hb (Nat.le_refl _)⟩ (fun hz0 => ?_)
            clear hK hb
            try simp only [Act.put, List.setIfInBounds_toArray, List.set_cons_zero, List.set_cons_succ]
            refine tk 5 (v := ?_) rfl (by kernel_rfl) (by kernel_rfl) (by kernel_rfl) (fun _ _ _ h => h) rfl ?_ hz0 ?_; rotate_left; (focus (intro w hSw; (try dsimp only at hSw);  go_simp; (try with_reducible rfl))); (try simp only [Act.put, List.setIfInBounds_toArray, List.set_cons_zero, List.set_cons_succ])
            refine tk 6 (v := ?_) rfl (by kernel_rfl) (by kernel_rfl) (by kernel_rfl) (fun _ _ _ h => h) rfl ?_ hz0 ?_; rotate_left; (focus (intro w hSw; (try dsimp only at hSw);  go_simp; (try with_reducible rfl))); (try simp only [Act.put, List.setIfInBounds_toArray, List.set_cons_zero, List.set_cons_succ])
            refine tk 7 (v := ?_) rfl (by kernel_rfl) (by kernel_rfl) (by kernel_rfl) (fun _ _ _ h => h) rfl ?_ hz0 ?_; rotate_left; (focus (intro w hSw; (try dsimp only at hSw);  go_simp; (try with_reducible rfl))); (try simp only [Act.put, List.setIfInBounds_toArray, List.set_cons_zero, List.set_cons_succ])
            refine tk 8 (v := ?_) rfl (by kernel_rfl) (by kernel_rfl) (by kernel_rfl) (fun _ _ _ h => h) rfl ?_ hz0 ?_; rotate_left; (focus (intro w hSw; (try dsimp only at hSw);  go_simp; (try with_reducible rfl))); (try simp only [Act.put, List.setIfInBounds_toArray, List.set_cons_zero, List.set_cons_succ])
            refine only 9 rfl (by kernel_rfl) rfl (fun K hK => ?_)
            go_simp
            have nL := SG.ne hz0.1
            have lN := (SG.bl hz0.1).size
            have dS := se_ne hz0.2
            refine hK.out _ _ ⟨SG.alloc hz0.1 _, Sl.alloc hz0.2 _⟩ (fun hz1 => ?_)
            clear hK
            try simp only [Act.put, List.setIfInBounds_toArray, List.set_cons_zero, List.set_cons_succ]
            have NN := sg_newH hz1.1
            generalize w'.alloc (.cells (PA zPl) 34) = w' at *
            have ST := NN.storeA b
            have NW := NN.whole b
            refine only 10 rfl (by kernel_rfl) rfl (fun K hK => ?_)
            refine ov_store rfl rfl rfl ST ?_
            refine hK.out _ _ ⟨SG.sets hz1.1 nL (by simp) lN, Sl.sets hz1.2 dS⟩ (fun hE => ?_)
            clear hK
            try simp only [Act.put, List.setIfInBounds_toArray, List.set_cons_zero, List.set_cons_succ]
            refine tk 11 (v := ?_) rfl (by kernel_rfl) (by kernel_rfl) (by kernel_rfl) (fun _ _ _ h => h) rfl ?_ hE ?_; rotate_left; (focus (intro w hSw; (try dsimp only at hSw);  go_simp; (try with_reducible rfl))); (try simp only [Act.put, List.setIfInBounds_toArray, List.set_cons_zero, List.set_cons_succ])
            refine tk 12 (v := ?_) rfl (by kernel_rfl) (by kernel_rfl) (by kernel_rfl) (fun _ _ _ h => h) rfl ?_ hE ?_; rotate_left; (focus (intro w hSw; (try dsimp only at hSw);  go_simp; (try with_reducible rfl))); (try simp only [Act.put, List.setIfInBounds_toArray, List.set_cons_zero, List.set_cons_succ])
            refine wpAnyH_done (by kernel_rfl) ?_ _
            go_wp2_with fail
            go_meet
            exact ⟨_, b, m, f, rfl, rfl, rfl, NW, HOUT.out, hE.1, hE.2⟩
          · go_simp
            have nL := SG.ne hHeld.1
            have lN := (SG.bl hHeld.1).size
            have dS := se_ne hHeld.2
            refine hK.out _ _ ⟨SG.alloc hHeld.1 _, Sl.alloc hHeld.2 _⟩ (fun hz0 => ?_)
            clear hK
            try simp only [Act.put, List.setIfInBounds_toArray, List.set_cons_zero, List.set_cons_succ]
            have NN := sg_newHD hz0.1
            generalize (w7.alloc (.cells (PA zPl) 34)).drew = w' at *
            refine only 4 rfl (by kernel_rfl) rfl (fun K hK => ?_)
            go_simp
            refine (FL.out _ _ _ (cs _ _ (se_less ck hz0.2))).mono ?_
            rintro e' w' ⟨b, m, f, rfl, hout, hb⟩
            have HOUT := hid hout
            clear hout
            try go_wp2_with fail
            have NN := NN.below hb
            refine hK.out _ _ ⟨SG.below hz0.1 hb, Se.below hz0.2 hb (Nat.le_refl _)⟩ (fun hz1 => ?_)
            clear hK hb
            try simp only [Act.put, List.setIfInBounds_toArray, List.set_cons_zero, List.set_cons_succ]
            refine tk 5 (v := ?_) rfl (by kernel_rfl) (by kernel_rfl) (by kernel_rfl) (fun _ _ _ h => h) rfl ?_ hz1 ?_; rotate_left; (focus (intro w hSw; (try dsimp only at hSw);  go_simp; (try with_reducible rfl))); (try simp only [Act.put, List.setIfInBounds_toArray, List.set_cons_zero, List.set_cons_succ])
            refine tk 6 (v := ?_) rfl (by kernel_rfl) (by kernel_rfl) (by kernel_rfl) (fun _ _ _ h => h) rfl ?_ hz1 ?_; rotate_left; (focus (intro w hSw; (try dsimp only at hSw);  go_simp; (try with_reducible rfl))); (try simp only [Act.put, List.setIfInBounds_toArray, List.set_cons_zero, List.set_cons_succ])
            refine tk 7 (v := ?_) rfl (by kernel_rfl) (by kernel_rfl) (by kernel_rfl) (fun _ _ _ h => h) rfl ?_ hz1 ?_; rotate_left; (focus (intro w hSw; (try dsimp only at hSw);  go_simp; (try with_reducible rfl))); (try simp only [Act.put, List.setIfInBounds_toArray, List.set_cons_zero, List.set_cons_succ])
            refine tk 8 (v := ?_) rfl (by kernel_rfl) (by kernel_rfl) (by kernel_rfl) (fun _ _ _ h => h) rfl ?_ hz1 ?_; rotate_left; (focus (intro w hSw; (try dsimp only at hSw);  go_simp; (try with_reducible rfl))); (try simp only [Act.put, List.setIfInBounds_toArray, List.set_cons_zero, List.set_cons_succ])
            have ST := NN.storeA b
            have NW := NN.whole b
            refine only 10 rfl (by kernel_rfl) rfl (fun K hK => ?_)
            refine ov_store rfl rfl rfl ST ?_
            refine hK.out _ _ ⟨SG.sets hz1.1 nL (by simp) lN, Sl.sets hz1.2 dS⟩ (fun hE => ?_)
            clear hK
            try simp only [Act.put, List.setIfInBounds_toArray, List.set_cons_zero, List.set_cons_succ]
            refine tk 11 (v := ?_) rfl (by kernel_rfl) (by kernel_rfl) (by kernel_rfl) (fun _ _ _ h => h) rfl ?_ hE ?_; rotate_left; (focus (intro w hSw; (try dsimp only at hSw);  go_simp; (try with_reducible rfl))); (try simp only [Act.put, List.setIfInBounds_toArray, List.set_cons_zero, List.set_cons_succ])
            refine tk 12 (v := ?_) rfl (by kernel_rfl) (by kernel_rfl) (by kernel_rfl) (fun _ _ _ h => h) rfl ?_ hE ?_; rotate_left; (focus (intro w hSw; (try dsimp only at hSw);  go_simp; (try with_reducible rfl))); (try simp only [Act.put, List.setIfInBounds_toArray, List.set_cons_zero, List.set_cons_succ])
            refine wpAnyH_done (by kernel_rfl) ?_ _
            go_wp2_with fail
            go_meet
            exact ⟨_, b, m, f, rfl, rfl, rfl, NW, HOUT.out, hE.1, hE.2⟩
        case rest =>
          obtain ⟨U, b, m, f, rfl, rfl, rfl, hU, hbo, hS, hSE⟩ := hcut
          have S8 := hid (hS.cons hU)
          have SE8 := hid hSE
          have BO := hid hbo
          clear hS hU hSE hbo S7 SE7 FL CT cs
          have hm := BO.out.le
          cases bf : (f != 0)
          · have hf : f = 0 := by simpa using bf
            subst hf
            obtain ⟨A', ct, cs⟩ := cut_lo A k d c ck hkd
            have CT := hid ct
            clear ct
            have hbi := hid (run_inv HQ.out BO.out.1)
            have GL := hid (fun A d w (h : Se w A (k - c) (fun i => GG (c + i))) => (show Calls Try.prog 25 #[.agg (PA b), .slice A (k - c) d] w fun x w' => ∃ (q : Pl) (m : Nat) (er : Int), x = .returned (.tuple #[.agg (PA q), .int .i64 (m : Int), .int .i64 er]) ∧ AllOut b (fun i => GG (c + i)) (k - c) q m er ∧ Below w.heap.size w w' from all_any b (fun i => GG (c + i)) A (k - c) d w h (by omega) 60 (hbi.out.mono (by omega)) (by omega)))
            go_upto_region 14 with (fail)
            go_cut [17, 18, 19] from 78 to 87 (fun u v x wx => ∃ (UU : Nat) (cc : Pl) (o : Nat) (g : Int), u = .pointer (some ⟨UU, 0, none⟩) ∧ v = .int .i64 (o : Int) ∧ x = .int .i64 g ∧ PoolAt wx UU cc ∧ AllOut b (fun i => GG (c + i)) (k - c) cc o g ∧ SG W wx [(U, b), (Q1, q), (P, p)] [] ∧ Se wx A k GG)
            case first =>
              skip
              refine wp_region_held_drew (S := fun w' => SG W w' [(U, b), (Q1, q), (P, p)] [] ∧ Se w' A k GG) (by kernel_rfl) ?_ (fun hHeld => ?_)
              · exact ⟨S8.out.drew, Sl.drew SE8.out⟩
              refine tk 0 (v := .agg (PA b)) rfl (by kernel_rfl) (by kernel_rfl) (by kernel_rfl) (fun _ _ _ h => h) rfl (fun w hSw => ex_load rfl rfl (SG.get hSw.1 (b := U) (p := b) (by simp)).loadA) hHeld ?_; (try simp only [Act.put, List.setIfInBounds_toArray, List.set_cons_zero, List.set_cons_succ])
              refine tk 1 (v := ?_) rfl (by kernel_rfl) (by kernel_rfl) (by kernel_rfl) (fun _ _ _ h => h) rfl ?_ hHeld ?_; rotate_left; (focus (intro w hSw; (try dsimp only at hSw);  go_simp; (try with_reducible rfl))); (try simp only [Act.put, List.setIfInBounds_toArray, List.set_cons_zero, List.set_cons_succ])
              refine tk 2 (v := ?_) rfl (by kernel_rfl) (by kernel_rfl) (by kernel_rfl) (fun _ _ _ h => h) rfl ?_ hHeld ?_; rotate_left; (focus (intro w hSw; (try dsimp only at hSw);  go_simp; (try with_reducible rfl))); (try simp only [Act.put, List.setIfInBounds_toArray, List.set_cons_zero, List.set_cons_succ])
              refine tk 3 (v := .slice A' (k - c) (d - c)) rfl (by kernel_rfl) (by kernel_rfl) (by kernel_rfl) (fun _ _ _ h => h) rfl (fun w hSw => ex_slice_l rfl rfl rfl elem_e (CT.out w)) hHeld ?_; (try simp only [Act.put, List.setIfInBounds_toArray, List.set_cons_zero, List.set_cons_succ])
              refine twoUp 4 9 rfl rfl (by kernel_rfl) rfl rfl (fun K hK => ?_) (fun K hK => ?_)
              · go_simp
                refine (GL.out _ _ _ (cs _ _ hHeld.2)).mono ?_
                rintro e' w' ⟨cc, o, g, rfl, hout, hb⟩
                have HOUT := hid hout
                clear hout
                try go_wp2_with fail
                refine hK.out _ _ ⟨SG.below hHeld.1 hb, Se.below hHeld.2 hb (Nat.le_refl _)⟩ (fun hz0 => ?_)
                clear hK hb
                try simp only [Act.put, List.setIfInBounds_toArray, List.set_cons_zero, List.set_cons_succ]
                refine tk 5 (v := ?_) rfl (by kernel_rfl) (by kernel_rfl) (by kernel_rfl) (fun _ _ _ h => h) rfl ?_ hz0 ?_; rotate_left; (focus (intro w hSw; (try dsimp only at hSw);  go_simp; (try with_reducible rfl))); (try simp only [Act.put, List.setIfInBounds_toArray, List.set_cons_zero, List.set_cons_succ])
                refine tk 6 (v := ?_) rfl (by kernel_rfl) (by kernel_rfl) (by kernel_rfl) (fun _ _ _ h => h) rfl ?_ hz0 ?_; rotate_left; (focus (intro w hSw; (try dsimp only at hSw);  go_simp; (try with_reducible rfl))); (try simp only [Act.put, List.setIfInBounds_toArray, List.set_cons_zero, List.set_cons_succ])
                refine tk 7 (v := ?_) rfl (by kernel_rfl) (by kernel_rfl) (by kernel_rfl) (fun _ _ _ h => h) rfl ?_ hz0 ?_; rotate_left; (focus (intro w hSw; (try dsimp only at hSw);  go_simp; (try with_reducible rfl))); (try simp only [Act.put, List.setIfInBounds_toArray, List.set_cons_zero, List.set_cons_succ])
                refine tk 8 (v := ?_) rfl (by kernel_rfl) (by kernel_rfl) (by kernel_rfl) (fun _ _ _ h => h) rfl ?_ hz0 ?_; rotate_left; (focus (intro w hSw; (try dsimp only at hSw);  go_simp; (try with_reducible rfl))); (try simp only [Act.put, List.setIfInBounds_toArray, List.set_cons_zero, List.set_cons_succ])
                refine only 9 rfl (by kernel_rfl) rfl (fun K hK => ?_)
                go_simp
                have nL := SG.ne hz0.1
                have lN := (SG.bl hz0.1).size
                have dS := se_ne hz0.2
                refine hK.out _ _ ⟨SG.alloc hz0.1 _, Sl.alloc hz0.2 _⟩ (fun hz1 => ?_)
                clear hK
                try simp only [Act.put, List.setIfInBounds_toArray, List.set_cons_zero, List.set_cons_succ]
                have NN := sg_newH hz1.1
                generalize w'.alloc (.cells (PA zPl) 34) = w' at *
                have ST := NN.storeA cc
                have NW := NN.whole cc
                refine only 10 rfl (by kernel_rfl) rfl (fun K hK => ?_)
                refine ov_store rfl rfl rfl ST ?_
                refine hK.out _ _ ⟨SG.sets hz1.1 nL (by simp) lN, Sl.sets hz1.2 dS⟩ (fun hE => ?_)
                clear hK
                try simp only [Act.put, List.setIfInBounds_toArray, List.set_cons_zero, List.set_cons_succ]
                refine tk 11 (v := ?_) rfl (by kernel_rfl) (by kernel_rfl) (by kernel_rfl) (fun _ _ _ h => h) rfl ?_ hE ?_; rotate_left; (focus (intro w hSw; (try dsimp only at hSw);  go_simp; (try with_reducible rfl))); (try simp only [Act.put, List.setIfInBounds_toArray, List.set_cons_zero, List.set_cons_succ])
                refine tk 12 (v := ?_) rfl (by kernel_rfl) (by kernel_rfl) (by kernel_rfl) (fun _ _ _ h => h) rfl ?_ hE ?_; rotate_left; (focus (intro w hSw; (try dsimp only at hSw);  go_simp; (try with_reducible rfl))); (try simp only [Act.put, List.setIfInBounds_toArray, List.set_cons_zero, List.set_cons_succ])
                refine wpAnyH_done (by kernel_rfl) ?_ _
                go_wp2_with fail
                go_meet
                exact ⟨_, cc, o, g, rfl, rfl, rfl, NW, HOUT.out, hE.1, hE.2⟩
              · go_simp
                have nL := SG.ne hHeld.1
                have lN := (SG.bl hHeld.1).size
                have dS := se_ne hHeld.2
                refine hK.out _ _ ⟨SG.alloc hHeld.1 _, Sl.alloc hHeld.2 _⟩ (fun hz0 => ?_)
                clear hK
                try simp only [Act.put, List.setIfInBounds_toArray, List.set_cons_zero, List.set_cons_succ]
                have NN := sg_newHD hz0.1
                generalize (wc.alloc (.cells (PA zPl) 34)).drew = w' at *
                refine only 4 rfl (by kernel_rfl) rfl (fun K hK => ?_)
                go_simp
                refine (GL.out _ _ _ (cs _ _ hz0.2)).mono ?_
                rintro e' w' ⟨cc, o, g, rfl, hout, hb⟩
                have HOUT := hid hout
                clear hout
                try go_wp2_with fail
                have NN := NN.below hb
                refine hK.out _ _ ⟨SG.below hz0.1 hb, Se.below hz0.2 hb (Nat.le_refl _)⟩ (fun hz1 => ?_)
                clear hK hb
                try simp only [Act.put, List.setIfInBounds_toArray, List.set_cons_zero, List.set_cons_succ]
                refine tk 5 (v := ?_) rfl (by kernel_rfl) (by kernel_rfl) (by kernel_rfl) (fun _ _ _ h => h) rfl ?_ hz1 ?_; rotate_left; (focus (intro w hSw; (try dsimp only at hSw);  go_simp; (try with_reducible rfl))); (try simp only [Act.put, List.setIfInBounds_toArray, List.set_cons_zero, List.set_cons_succ])
                refine tk 6 (v := ?_) rfl (by kernel_rfl) (by kernel_rfl) (by kernel_rfl) (fun _ _ _ h => h) rfl ?_ hz1 ?_; rotate_left; (focus (intro w hSw; (try dsimp only at hSw);  go_simp; (try with_reducible rfl))); (try simp only [Act.put, List.setIfInBounds_toArray, List.set_cons_zero, List.set_cons_succ])
                refine tk 7 (v := ?_) rfl (by kernel_rfl) (by kernel_rfl) (by kernel_rfl) (fun _ _ _ h => h) rfl ?_ hz1 ?_; rotate_left; (focus (intro w hSw; (try dsimp only at hSw);  go_simp; (try with_reducible rfl))); (try simp only [Act.put, List.setIfInBounds_toArray, List.set_cons_zero, List.set_cons_succ])
                refine tk 8 (v := ?_) rfl (by kernel_rfl) (by kernel_rfl) (by kernel_rfl) (fun _ _ _ h => h) rfl ?_ hz1 ?_; rotate_left; (focus (intro w hSw; (try dsimp only at hSw);  go_simp; (try with_reducible rfl))); (try simp only [Act.put, List.setIfInBounds_toArray, List.set_cons_zero, List.set_cons_succ])
                have ST := NN.storeA cc
                have NW := NN.whole cc
                refine only 10 rfl (by kernel_rfl) rfl (fun K hK => ?_)
                refine ov_store rfl rfl rfl ST ?_
                refine hK.out _ _ ⟨SG.sets hz1.1 nL (by simp) lN, Sl.sets hz1.2 dS⟩ (fun hE => ?_)
                clear hK
                try simp only [Act.put, List.setIfInBounds_toArray, List.set_cons_zero, List.set_cons_succ]
                refine tk 11 (v := ?_) rfl (by kernel_rfl) (by kernel_rfl) (by kernel_rfl) (fun _ _ _ h => h) rfl ?_ hE ?_; rotate_left; (focus (intro w hSw; (try dsimp only at hSw);  go_simp; (try with_reducible rfl))); (try simp only [Act.put, List.setIfInBounds_toArray, List.set_cons_zero, List.set_cons_succ])
                refine tk 12 (v := ?_) rfl (by kernel_rfl) (by kernel_rfl) (by kernel_rfl) (fun _ _ _ h => h) rfl ?_ hE ?_; rotate_left; (focus (intro w hSw; (try dsimp only at hSw);  go_simp; (try with_reducible rfl))); (try simp only [Act.put, List.setIfInBounds_toArray, List.set_cons_zero, List.set_cons_succ])
                refine wpAnyH_done (by kernel_rfl) ?_ _
                go_wp2_with fail
                go_meet
                exact ⟨_, cc, o, g, rfl, rfl, rfl, NW, HOUT.out, hE.1, hE.2⟩
            case rest =>
              obtain ⟨V, cc, o, g, rfl, rfl, rfl, hV, hco, hS, hSE⟩ := hcut
              obtain ⟨rfl, rfl, rfl⟩ := ((AllOut.cut ck BO.out).2 rfl hco).uniq AO.out
              have hon := hco.le
              have S9 := hid (hS.cons hV)
              clear hS hV hSE hco S8 SE8 GL CT cs
              have LV := (SG.get S9.out (b := V) (p := cc) (by simp)).loadA
              have LQ := (SG.get S9.out (b := Q1) (p := cc) (by simp)).loadA
              have m1 : (m : Int) ≤ 20 := by omega
              have o1 : (o : Int) ≤ 20 := by omega
              have m0 : (0 : Int) ≤ m := by omega
              have o0 : (0 : Int) ≤ o := by omega
              go_wp2_with (first | ((with_reducible refine wl_id ?_); refine wl_load rfl rfl rfl LV ?_) | ((with_reducible refine wl_id ?_); refine wl_load rfl rfl rfl LQ ?_) | ((with_reducible refine wl_id ?_); refine wl_val rfl (ex_eql _ _ rfl cc rfl rfl _) ?_))
              go_ret
              exact ⟨rfl, S9.out.bl⟩
          · have hf : f ≠ 0 := by simpa using bf
            obtain ⟨rfl, rfl, rfl⟩ := ((AllOut.cut ck BO.out).1 hf).uniq AO.out
            clear hf
            have LU := (SG.get S8.out (b := U) (p := b) (by simp)).loadA
            have LQ := (SG.get S8.out (b := Q1) (p := b) (by simp)).loadA
            go_wp2_with (first | ((with_reducible refine wl_id ?_); refine wl_load rfl rfl rfl LU ?_) | ((with_reducible refine wl_id ?_); refine wl_load rfl rfl rfl LQ ?_) | ((with_reducible refine wl_id ?_); refine wl_val rfl (ex_eql _ _ rfl b rfl rfl _) ?_))
            go_ret
            exact ⟨rfl, S8.out.bl⟩
      · clear hdec hlt
        obtain ⟨tt, ht⟩ : ∃ x, x = wi c0 ((k : Int) + 1) := ⟨_, rfl⟩
        have bt := wi_bd c0 ((k : Int) + 1) (by omega)
        rw [← ht] at bt
        have Wt := hid (fun w => re_i64 (within_any c0 ((k : Int) + 1) w (by omega) (by omega)) ht.symm)
        clear ht
        obtain ⟨bt1, bt2⟩ := bt
        obtain ⟨c, rfl⟩ : ∃ c : Nat, tt = c := ⟨tt.toNat, by omega⟩
        have ck : c ≤ k := by omega
        have AL := hid (fun A d w (h : Se w A k GG) => (show Calls Try.prog 25 #[.agg (PA p), .slice A k d] w fun x w' => ∃ (q : Pl) (m : Nat) (er : Int), x = .returned (.tuple #[.agg (PA q), .int .i64 (m : Int), .int .i64 er]) ∧ AllOut p GG k q m er ∧ Below w.heap.size w w' from all_any p GG A k d w h (by omega) 30 HQ.out (by omega)))
        have FL := hid (fun A d w (h : Se w A c GG) => (show Calls Try.prog 25 #[.agg (PA p), .slice A c d] w fun x w' => ∃ (q : Pl) (m : Nat) (er : Int), x = .returned (.tuple #[.agg (PA q), .int .i64 (m : Int), .int .i64 er]) ∧ AllOut p GG c q m er ∧ Below w.heap.size w w' from all_any p GG A c d w h (by omega) 30 HQ.out (by omega)))
        go_wp2_with fail
        refine (Wt.out _).mono ?_
        rintro x w' ⟨rfl, rfl⟩
        go_upto_region 10 with (fail)
        have LP := (SG.get S0.out (b := P) (p := p) (by simp)).loadA
        go_wp2_with ((with_reducible refine wl_id ?_); refine wl_load rfl rfl rfl LP ?_)
        refine (AL.out _ _ _ SE.out).mono ?_
        rintro x w6 ⟨q, n, er, rfl, hout, hb⟩
        have AO := hid hout
        have S6 := hid (S0.out.below hb)
        have SE6 := hid (Se.below SE.out hb (Nat.le_refl _))
        clear hb hout S0 SE LP AL Wt
        have ST := hid ((sg_new (w := w6) (T := 34)).storeA q)
        have S7 := hid (SG.put S6.out (T := 34) zPl q (by simp))
        have SE7 := hid (Se.below SE6.out (below_put (T := 34) zPl q) (Nat.le_refl _))
        go_upto_region 11 with ((with_reducible refine wl_id ?_); refine wl_store rfl rfl rfl rfl ST.out ?_)
        clear ST S6 SE6
        generalize (w6.alloc (.cells (PA zPl) 34)).setCells w6.heap.size 0 (PA q).toList = w7 at *
        generalize w6.heap.size = Q1 at *
        obtain ⟨A2, ct, cs⟩ := cut_hi A k d c (by omega)
        have CT := hid ct
        clear ct
        go_upto_region 11 with (fail)
        go_cut [14, 15, 16] from 54 to 63 (fun u v x wx => ∃ (UU : Nat) (b : Pl) (m : Nat) (f : Int), u = .pointer (some ⟨UU, 0, none⟩) ∧ v = .int .i64 (m : Int) ∧ x = .int .i64 f ∧ PoolAt wx UU b ∧ AllOut p GG c b m f ∧ SG W wx [(Q1, q), (P, p)] [] ∧ Se wx A k GG)
        case first =>
          skip
          refine wp_region_held_drew (S := fun w' => SG W w' [(Q1, q), (P, p)] [] ∧ Se w' A k GG) (by kernel_rfl) ?_ (fun hHeld => ?_)
          · exact ⟨S7.out.drew, Sl.drew SE7.out⟩
          refine tk 0 (v := .agg (PA p)) rfl (by kernel_rfl) (by kernel_rfl) (by kernel_rfl) (fun _ _ _ h => h) rfl (fun w hSw => ex_load rfl rfl (SG.get hSw.1 (b := P) (p := p) (by simp)).loadA) hHeld ?_; (try simp only [Act.put, List.setIfInBounds_toArray, List.set_cons_zero, List.set_cons_succ])
          refine tk 1 (v := ?_) rfl (by kernel_rfl) (by kernel_rfl) (by kernel_rfl) (fun _ _ _ h => h) rfl ?_ hHeld ?_; rotate_left; (focus (intro w hSw; (try dsimp only at hSw);  go_simp; (try with_reducible rfl))); (try simp only [Act.put, List.setIfInBounds_toArray, List.set_cons_zero, List.set_cons_succ])
          refine tk 2 (v := ?_) rfl (by kernel_rfl) (by kernel_rfl) (by kernel_rfl) (fun _ _ _ h => h) rfl ?_ hHeld ?_; rotate_left; (focus (intro w hSw; (try dsimp only at hSw);  go_simp; (try with_reducible rfl))); (try simp only [Act.put, List.setIfInBounds_toArray, List.set_cons_zero, List.set_cons_succ])
          refine tk 3 (v := .slice A2 c d) rfl (by kernel_rfl) (by kernel_rfl) (by kernel_rfl) (fun _ _ _ h => h) rfl (fun w hSw => ex_slice_h rfl rfl rfl elem_e (CT.out w)) hHeld ?_; (try simp only [Act.put, List.setIfInBounds_toArray, List.set_cons_zero, List.set_cons_succ])
          refine twoUp 4 9 rfl rfl (by kernel_rfl) rfl rfl (fun K hK => ?_) (fun K hK => ?_)
          · go_simp
            refine (FL.out _ _ _ (cs _ _ (se_less ck hHeld.2))).mono ?_
            rintro e' w' ⟨b, m, f, rfl, hout, hb⟩
            have HOUT := hid hout
            clear hout
            try go_wp2_with fail
            refine hK.out _ _ ⟨SG.below hHeld.1 hb, Se.below hHeld.2 hb (Nat.le_refl _)⟩ (fun hz0 => ?_)
            clear hK hb
            try simp only [Act.put, List.setIfInBounds_toArray, List.set_cons_zero, List.set_cons_succ]
            refine tk 5 (v := ?_) rfl (by kernel_rfl) (by kernel_rfl) (by kernel_rfl) (fun _ _ _ h => h) rfl ?_ hz0 ?_; rotate_left; (focus (intro w hSw; (try dsimp only at hSw);  go_simp; (try with_reducible rfl))); (try simp only [Act.put, List.setIfInBounds_toArray, List.set_cons_zero, List.set_cons_succ])
            refine tk 6 (v := ?_) rfl (by kernel_rfl) (by kernel_rfl) (by kernel_rfl) (fun _ _ _ h => h) rfl ?_ hz0 ?_; rotate_left; (focus (intro w hSw; (try dsimp only at hSw);  go_simp; (try with_reducible rfl))); (try simp only [Act.put, List.setIfInBounds_toArray, List.set_cons_zero, List.set_cons_succ])
            refine tk 7 (v := ?_) rfl (by kernel_rfl) (by kernel_rfl) (by kernel_rfl) (fun _ _ _ h => h) rfl ?_ hz0 ?_; rotate_left; (focus (intro w hSw; (try dsimp only at hSw);  go_simp; (try with_reducible rfl))); (try simp only [Act.put, List.setIfInBounds_toArray, List.set_cons_zero, List.set_cons_succ])
            refine tk 8 (v := ?_) rfl (by kernel_rfl) (by kernel_rfl) (by kernel_rfl) (fun _ _ _ h => h) rfl ?_ hz0 ?_; rotate_left; (focus (intro w hSw; (try dsimp only at hSw);  go_simp; (try with_reducible rfl))); (try simp only [Act.put, List.setIfInBounds_toArray, List.set_cons_zero, List.set_cons_succ])
            refine only 9 rfl (by kernel_rfl) rfl (fun K hK => ?_)
            go_simp
            have nL := SG.ne hz0.1
            have lN := (SG.bl hz0.1).size
            have dS := se_ne hz0.2
            refine hK.out _ _ ⟨SG.alloc hz0.1 _, Sl.alloc hz0.2 _⟩ (fun hz1 => ?_)
            clear hK
            try simp only [Act.put, List.setIfInBounds_toArray, List.set_cons_zero, List.set_cons_succ]
            have NN := sg_newH hz1.1
            generalize w'.alloc (.cells (PA zPl) 34) = w' at *
            have ST := NN.storeA b
            have NW := NN.whole b
            refine only 10 rfl (by kernel_rfl) rfl (fun K hK => ?_)
            refine ov_store rfl rfl rfl ST ?_
            refine hK.out _ _ ⟨SG.sets hz1.1 nL (by simp) lN, Sl.sets hz1.2 dS⟩ (fun hE => ?_)
            clear hK
            try simp only [Act.put, List.setIfInBounds_toArray, List.set_cons_zero, List.set_cons_succ]
            refine tk 11 (v := ?_) rfl (by kernel_rfl) (by kernel_rfl) (by kernel_rfl) (fun _ _ _ h => h) rfl ?_ hE ?_; rotate_left; (focus (intro w hSw; (try dsimp only at hSw);  go_simp; (try with_reducible rfl))); (try simp only [Act.put, List.setIfInBounds_toArray, List.set_cons_zero, List.set_cons_succ])
            refine tk 12 (v := ?_) rfl (by kernel_rfl) (by kernel_rfl) (by kernel_rfl) (fun _ _ _ h => h) rfl ?_ hE ?_; rotate_left; (focus (intro w hSw; (try dsimp only at hSw);  go_simp; (try with_reducible rfl))); (try simp only [Act.put, List.setIfInBounds_toArray, List.set_cons_zero, List.set_cons_succ])
            refine wpAnyH_done (by kernel_rfl) ?_ _
            go_wp2_with fail
            go_meet
            exact ⟨_, b, m, f, rfl, rfl, rfl, NW, HOUT.out, hE.1, hE.2⟩
          · go_simp
            have nL := SG.ne hHeld.1
            have lN := (SG.bl hHeld.1).size
            have dS := se_ne hHeld.2
            refine hK.out _ _ ⟨SG.alloc hHeld.1 _, Sl.alloc hHeld.2 _⟩ (fun hz0 => ?_)
            clear hK
            try simp only [Act.put, List.setIfInBounds_toArray, List.set_cons_zero, List.set_cons_succ]
            have NN := sg_newHD hz0.1
            generalize (w7.alloc (.cells (PA zPl) 34)).drew = w' at *
            refine only 4 rfl (by kernel_rfl) rfl (fun K hK => ?_)
            go_simp
            refine (FL.out _ _ _ (cs _ _ (se_less ck hz0.2))).mono ?_
            rintro e' w' ⟨b, m, f, rfl, hout, hb⟩
            have HOUT := hid hout
            clear hout
            try go_wp2_with fail
            have NN := NN.below hb
            refine hK.out _ _ ⟨SG.below hz0.1 hb, Se.below hz0.2 hb (Nat.le_refl _)⟩ (fun hz1 => ?_)
            clear hK hb
            try simp only [Act.put, List.setIfInBounds_toArray, List.set_cons_zero, List.set_cons_succ]
            refine tk 5 (v := ?_) rfl (by kernel_rfl) (by kernel_rfl) (by kernel_rfl) (fun _ _ _ h => h) rfl ?_ hz1 ?_; rotate_left; (focus (intro w hSw; (try dsimp only at hSw);  go_simp; (try with_reducible rfl))); (try simp only [Act.put, List.setIfInBounds_toArray, List.set_cons_zero, List.set_cons_succ])
            refine tk 6 (v := ?_) rfl (by kernel_rfl) (by kernel_rfl) (by kernel_rfl) (fun _ _ _ h => h) rfl ?_ hz1 ?_; rotate_left; (focus (intro w hSw; (try dsimp only at hSw);  go_simp; (try with_reducible rfl))); (try simp only [Act.put, List.setIfInBounds_toArray, List.set_cons_zero, List.set_cons_succ])
            refine tk 7 (v := ?_) rfl (by kernel_rfl) (by kernel_rfl) (by kernel_rfl) (fun _ _ _ h => h) rfl ?_ hz1 ?_; rotate_left; (focus (intro w hSw; (try dsimp only at hSw);  go_simp; (try with_reducible rfl))); (try simp only [Act.put, List.setIfInBounds_toArray, List.set_cons_zero, List.set_cons_succ])
            refine tk 8 (v := ?_) rfl (by kernel_rfl) (by kernel_rfl) (by kernel_rfl) (fun _ _ _ h => h) rfl ?_ hz1 ?_; rotate_left; (focus (intro w hSw; (try dsimp only at hSw);  go_simp; (try with_reducible rfl))); (try simp only [Act.put, List.setIfInBounds_toArray, List.set_cons_zero, List.set_cons_succ])
            have ST := NN.storeA b
            have NW := NN.whole b
            refine only 10 rfl (by kernel_rfl) rfl (fun K hK => ?_)
            refine ov_store rfl rfl rfl ST ?_
            refine hK.out _ _ ⟨SG.sets hz1.1 nL (by simp) lN, Sl.sets hz1.2 dS⟩ (fun hE => ?_)
            clear hK
            try simp only [Act.put, List.setIfInBounds_toArray, List.set_cons_zero, List.set_cons_succ]
            refine tk 11 (v := ?_) rfl (by kernel_rfl) (by kernel_rfl) (by kernel_rfl) (fun _ _ _ h => h) rfl ?_ hE ?_; rotate_left; (focus (intro w hSw; (try dsimp only at hSw);  go_simp; (try with_reducible rfl))); (try simp only [Act.put, List.setIfInBounds_toArray, List.set_cons_zero, List.set_cons_succ])
            refine tk 12 (v := ?_) rfl (by kernel_rfl) (by kernel_rfl) (by kernel_rfl) (fun _ _ _ h => h) rfl ?_ hE ?_; rotate_left; (focus (intro w hSw; (try dsimp only at hSw);  go_simp; (try with_reducible rfl))); (try simp only [Act.put, List.setIfInBounds_toArray, List.set_cons_zero, List.set_cons_succ])
            refine wpAnyH_done (by kernel_rfl) ?_ _
            go_wp2_with fail
            go_meet
            exact ⟨_, b, m, f, rfl, rfl, rfl, NW, HOUT.out, hE.1, hE.2⟩
        case rest =>
          obtain ⟨U, b, m, f, rfl, rfl, rfl, hU, hbo, hS, hSE⟩ := hcut
          have S8 := hid (hS.cons hU)
          have SE8 := hid hSE
          have BO := hid hbo
          clear hS hU hSE hbo S7 SE7 FL CT cs
          have hm := BO.out.le
          cases bf : (f != 0)
          · have hf : f = 0 := by simpa using bf
            subst hf
            obtain ⟨A', ct, cs⟩ := cut_lo A k d c ck hkd
            have CT := hid ct
            clear ct
            have hbi := hid (run_inv HQ.out BO.out.1)
            have GL := hid (fun A d w (h : Se w A (k - c) (fun i => GG (c + i))) => (show Calls Try.prog 25 #[.agg (PA b), .slice A (k - c) d] w fun x w' => ∃ (q : Pl) (m : Nat) (er : Int), x = .returned (.tuple #[.agg (PA q), .int .i64 (m : Int), .int .i64 er]) ∧ AllOut b (fun i => GG (c + i)) (k - c) q m er ∧ Below w.heap.size w w' from all_any b (fun i => GG (c + i)) A (k - c) d w h (by omega) 60 (hbi.out.mono (by omega)) (by omega)))
            go_upto_region 14 with (fail)
            go_cut [17, 18, 19] from 78 to 87 (fun u v x wx => ∃ (UU : Nat) (cc : Pl) (o : Nat) (g : Int), u = .pointer (some ⟨UU, 0, none⟩) ∧ v = .int .i64 (o : Int) ∧ x = .int .i64 g ∧ PoolAt wx UU cc ∧ AllOut b (fun i => GG (c + i)) (k - c) cc o g ∧ SG W wx [(U, b), (Q1, q), (P, p)] [] ∧ Se wx A k GG)
            case first =>
              skip
              refine wp_region_held_drew (S := fun w' => SG W w' [(U, b), (Q1, q), (P, p)] [] ∧ Se w' A k GG) (by kernel_rfl) ?_ (fun hHeld => ?_)
              · exact ⟨S8.out.drew, Sl.drew SE8.out⟩
              refine tk 0 (v := .agg (PA b)) rfl (by kernel_rfl) (by kernel_rfl) (by kernel_rfl) (fun _ _ _ h => h) rfl (fun w hSw => ex_load rfl rfl (SG.get hSw.1 (b := U) (p := b) (by simp)).loadA) hHeld ?_; (try simp only [Act.put, List.setIfInBounds_toArray, List.set_cons_zero, List.set_cons_succ])
              refine tk 1 (v := ?_) rfl (by kernel_rfl) (by kernel_rfl) (by kernel_rfl) (fun _ _ _ h => h) rfl ?_ hHeld ?_; rotate_left; (focus (intro w hSw; (try dsimp only at hSw);  go_simp; (try with_reducible rfl))); (try simp only [Act.put, List.setIfInBounds_toArray, List.set_cons_zero, List.set_cons_succ])
              refine tk 2 (v := ?_) rfl (by kernel_rfl) (by kernel_rfl) (by kernel_rfl) (fun _ _ _ h => h) rfl ?_ hHeld ?_; rotate_left; (focus (intro w hSw; (try dsimp only at hSw);  go_simp; (try with_reducible rfl))); (try simp only [Act.put, List.setIfInBounds_toArray, List.set_cons_zero, List.set_cons_succ])
              refine tk 3 (v := .slice A' (k - c) (d - c)) rfl (by kernel_rfl) (by kernel_rfl) (by kernel_rfl) (fun _ _ _ h => h) rfl (fun w hSw => ex_slice_l rfl rfl rfl elem_e (CT.out w)) hHeld ?_; (try simp only [Act.put, List.setIfInBounds_toArray, List.set_cons_zero, List.set_cons_succ])
              refine twoUp 4 9 rfl rfl (by kernel_rfl) rfl rfl (fun K hK => ?_) (fun K hK => ?_)
              · go_simp
                refine (GL.out _ _ _ (cs _ _ hHeld.2)).mono ?_
                rintro e' w' ⟨cc, o, g, rfl, hout, hb⟩
                have HOUT := hid hout
                clear hout
                try go_wp2_with fail
                refine hK.out _ _ ⟨SG.below hHeld.1 hb, Se.below hHeld.2 hb (Nat.le_refl _)⟩ (fun hz0 => ?_)
                clear hK hb
                try simp only [Act.put, List.setIfInBounds_toArray, List.set_cons_zero, List.set_cons_succ]
                refine tk 5 (v := ?_) rfl (by kernel_rfl) (by kernel_rfl) (by kernel_rfl) (fun _ _ _ h => h) rfl ?_ hz0 ?_; rotate_left; (focus (intro w hSw; (try dsimp only at hSw);  go_simp; (try with_reducible rfl))); (try simp only [Act.put, List.setIfInBounds_toArray, List.set_cons_zero, List.set_cons_succ])
                refine tk 6 (v := ?_) rfl (by kernel_rfl) (by kernel_rfl) (by kernel_rfl) (fun _ _ _ h => h) rfl ?_ hz0 ?_; rotate_left; (focus (intro w hSw; (try dsimp only at hSw);  go_simp; (try with_reducible rfl))); (try simp only [Act.put, List.setIfInBounds_toArray, List.set_cons_zero, List.set_cons_succ])
                refine tk 7 (v := ?_) rfl (by kernel_rfl) (by kernel_rfl) (by kernel_rfl) (fun _ _ _ h => h) rfl ?_ hz0 ?_; rotate_left; (focus (intro w hSw; (try dsimp only at hSw);  go_simp; (try with_reducible rfl))); (try simp only [Act.put, List.setIfInBounds_toArray, List.set_cons_zero, List.set_cons_succ])
                refine tk 8 (v := ?_) rfl (by kernel_rfl) (by kernel_rfl) (by kernel_rfl) (fun _ _ _ h => h) rfl ?_ hz0 ?_; rotate_left; (focus (intro w hSw; (try dsimp only at hSw);  go_simp; (try with_reducible rfl))); (try simp only [Act.put, List.setIfInBounds_toArray, List.set_cons_zero, List.set_cons_succ])
                refine only 9 rfl (by kernel_rfl) rfl (fun K hK => ?_)
                go_simp
                have nL := SG.ne hz0.1
                have lN := (SG.bl hz0.1).size
                have dS := se_ne hz0.2
                refine hK.out _ _ ⟨SG.alloc hz0.1 _, Sl.alloc hz0.2 _⟩ (fun hz1 => ?_)
                clear hK
                try simp only [Act.put, List.setIfInBounds_toArray, List.set_cons_zero, List.set_cons_succ]
                have NN := sg_newH hz1.1
                generalize w'.alloc (.cells (PA zPl) 34) = w' at *
                have ST := NN.storeA cc
                have NW := NN.whole cc
                refine only 10 rfl (by kernel_rfl) rfl (fun K hK => ?_)
                refine ov_store rfl rfl rfl ST ?_
                refine hK.out _ _ ⟨SG.sets hz1.1 nL (by simp) lN, Sl.sets hz1.2 dS⟩ (fun hE => ?_)
                clear hK
                try simp only [Act.put, List.setIfInBounds_toArray, List.set_cons_zero, List.set_cons_succ]
                refine tk 11 (v := ?_) rfl (by kernel_rfl) (by kernel_rfl) (by kernel_rfl) (fun _ _ _ h => h) rfl ?_ hE ?_; rotate_left; (focus (intro w hSw; (try dsimp only at hSw);  go_simp; (try with_reducible rfl))); (try simp only [Act.put, List.setIfInBounds_toArray, List.set_cons_zero, List.set_cons_succ])
                refine tk 12 (v := ?_) rfl (by kernel_rfl) (by kernel_rfl) (by kernel_rfl) (fun _ _ _ h => h) rfl ?_ hE ?_; rotate_left; (focus (intro w hSw; (try dsimp only at hSw);  go_simp; (try with_reducible rfl))); (try simp only [Act.put, List.setIfInBounds_toArray, List.set_cons_zero, List.set_cons_succ])
                refine wpAnyH_done (by kernel_rfl) ?_ _
                go_wp2_with fail
                go_meet
                exact ⟨_, cc, o, g, rfl, rfl, rfl, NW, HOUT.out, hE.1, hE.2⟩
              · go_simp
                have nL := SG.ne hHeld.1
                have lN := (SG.bl hHeld.1).size
                have dS := se_ne hHeld.2
                refine hK.out _ _ ⟨SG.alloc hHeld.1 _, Sl.alloc hHeld.2 _⟩ (fun hz0 => ?_)
                clear hK
                try simp only [Act.put, List.setIfInBounds_toArray, List.set_cons_zero, List.set_cons_succ]
                have NN := sg_newHD hz0.1
                generalize (wc.alloc (.cells (PA zPl) 34)).drew = w' at *
                refine only 4 rfl (by kernel_rfl) rfl (fun K hK => ?_)
                go_simp
                refine (GL.out _ _ _ (cs _ _ hz0.2)).mono ?_
                rintro e' w' ⟨cc, o, g, rfl, hout, hb⟩
                have HOUT := hid hout
                clear hout
                try go_wp2_with fail
                have NN := NN.below hb
                refine hK.out _ _ ⟨SG.below hz0.1 hb, Se.below hz0.2 hb (Nat.le_refl _)⟩ (fun hz1 => ?_)
                clear hK hb
                try simp only [Act.put, List.setIfInBounds_toArray, List.set_cons_zero, List.set_cons_succ]
                refine tk 5 (v := ?_) rfl (by kernel_rfl) (by kernel_rfl) (by kernel_rfl) (fun _ _ _ h => h) rfl ?_ hz1 ?_; rotate_left; (focus (intro w hSw; (try dsimp only at hSw);  go_simp; (try with_reducible rfl))); (try simp only [Act.put, List.setIfInBounds_toArray, List.set_cons_zero, List.set_cons_succ])
                refine tk 6 (v := ?_) rfl (by kernel_rfl) (by kernel_rfl) (by kernel_rfl) (fun _ _ _ h => h) rfl ?_ hz1 ?_; rotate_left; (focus (intro w hSw; (try dsimp only at hSw);  go_simp; (try with_reducible rfl))); (try simp only [Act.put, List.setIfInBounds_toArray, List.set_cons_zero, List.set_cons_succ])
                refine tk 7 (v := ?_) rfl (by kernel_rfl) (by kernel_rfl) (by kernel_rfl) (fun _ _ _ h => h) rfl ?_ hz1 ?_; rotate_left; (focus (intro w hSw; (try dsimp only at hSw);  go_simp; (try with_reducible rfl))); (try simp only [Act.put, List.setIfInBounds_toArray, List.set_cons_zero, List.set_cons_succ])
                refine tk 8 (v := ?_) rfl (by kernel_rfl) (by kernel_rfl) (by kernel_rfl) (fun _ _ _ h => h) rfl ?_ hz1 ?_; rotate_left; (focus (intro w hSw; (try dsimp only at hSw);  go_simp; (try with_reducible rfl))); (try simp only [Act.put, List.setIfInBounds_toArray, List.set_cons_zero, List.set_cons_succ])
                have ST := NN.storeA cc
                have NW := NN.whole cc
                refine only 10 rfl (by kernel_rfl) rfl (fun K hK => ?_)
                refine ov_store rfl rfl rfl ST ?_
                refine hK.out _ _ ⟨SG.sets hz1.1 nL (by simp) lN, Sl.sets hz1.2 dS⟩ (fun hE => ?_)
                clear hK
                try simp only [Act.put, List.setIfInBounds_toArray, List.set_cons_zero, List.set_cons_succ]
                refine tk 11 (v := ?_) rfl (by kernel_rfl) (by kernel_rfl) (by kernel_rfl) (fun _ _ _ h => h) rfl ?_ hE ?_; rotate_left; (focus (intro w hSw; (try dsimp only at hSw);  go_simp; (try with_reducible rfl))); (try simp only [Act.put, List.setIfInBounds_toArray, List.set_cons_zero, List.set_cons_succ])
                refine tk 12 (v := ?_) rfl (by kernel_rfl) (by kernel_rfl) (by kernel_rfl) (fun _ _ _ h => h) rfl ?_ hE ?_; rotate_left; (focus (intro w hSw; (try dsimp only at hSw);  go_simp; (try with_reducible rfl))); (try simp only [Act.put, List.setIfInBounds_toArray, List.set_cons_zero, List.set_cons_succ])
                refine wpAnyH_done (by kernel_rfl) ?_ _
                go_wp2_with fail
                go_meet
                exact ⟨_, cc, o, g, rfl, rfl, rfl, NW, HOUT.out, hE.1, hE.2⟩
            case rest =>
              obtain ⟨V, cc, o, g, rfl, rfl, rfl, hV, hco, hS, hSE⟩ := hcut
              obtain ⟨rfl, rfl, rfl⟩ := ((AllOut.cut ck BO.out).2 rfl hco).uniq AO.out
              have hon := hco.le
              have S9 := hid (hS.cons hV)
              clear hS hV hSE hco S8 SE8 GL CT cs
              have LV := (SG.get S9.out (b := V) (p := cc) (by simp)).loadA
              have LQ := (SG.get S9.out (b := Q1) (p := cc) (by simp)).loadA
              have m1 : (m : Int) ≤ 20 := by omega
              have o1 : (o : Int) ≤ 20 := by omega
              have m0 : (0 : Int) ≤ m := by omega
              have o0 : (0 : Int) ≤ o := by omega
              go_wp2_with (first | ((with_reducible refine wl_id ?_); refine wl_load rfl rfl rfl LV ?_) | ((with_reducible refine wl_id ?_); refine wl_load rfl rfl rfl LQ ?_) | ((with_reducible refine wl_id ?_); refine wl_val rfl (ex_eql _ _ rfl cc rfl rfl _) ?_))
              go_ret
              exact ⟨rfl, S9.out.bl⟩
          · have hf : f ≠ 0 := by simpa using bf
            obtain ⟨rfl, rfl, rfl⟩ := ((AllOut.cut ck BO.out).1 hf).uniq AO.out
            clear hf
            have LU := (SG.get S8.out (b := U) (p := b) (by simp)).loadA
            have LQ := (SG.get S8.out (b := Q1) (p := b) (by simp)).loadA
            go_wp2_with (first | ((with_reducible refine wl_id ?_); refine wl_load rfl rfl rfl LU ?_) | ((with_reducible refine wl_id ?_); refine wl_load rfl rfl rfl LQ ?_) | ((with_reducible refine wl_id ?_); refine wl_val rfl (ex_eql _ _ rfl b rfl rfl _) ?_))
            go_ret
            exact ⟨rfl, S8.out.bl⟩

set_option maxRecDepth 100000 in
theorem lifted (os : Os) (started : os.Started) (H : Type) (enc : TypeId × Value → H) :
    ReturnsInHanded {} Try.checked os 12 .any (Rows.poolSplitSpec.pre6 enc Try.prog Try.f12 [] false) (Rows.poolSplitSpec.post enc Try.prog Try.f12 false true false false) :=
  law_step (s := Rows.poolSplitSpec) started (by kernel_rfl) Try.func12
    (ChangeSpec.witness6 (s := Rows.poolSplitSpec) (enc := enc) (C := Try.checked) false ⟨#[], #[.slice none 0 0, .slice none 0 0, .int .i64 0], []⟩ 8 (by kernel_rfl) (by kernel_rfl) (by kernel_rfl) (by kernel_rfl))
    rfl (by rw [Try.params12]; decide +kernel) rfl Try.underlying4
    (fun ds h => by
      rw [Try.params12] at h
      match ds, h with
      | [_, _, _], _ => rfl)
    (fun W base args ds ps hval hA hsz => by
      rw [Try.params12] at hA hval hsz
      obtain ⟨v0, vs0, d0, ds0, p0, q0, hargs, rfl, rfl, h0, r0⟩ := trodAll_cons hA
      obtain ⟨v1, vs1, d1, ds1, p1, q1, rfl, rfl, rfl, h1, r1⟩ := trodAll_cons r0
      obtain ⟨v2, vs2, d2, ds2, p2, q2, rfl, rfl, rfl, h2, r2⟩ := trodAll_cons r1
      obtain ⟨rfl, rfl, rfl⟩ := trodAll_nil r2
      obtain rfl : args = #[v0, v1, v2] := by cases args; simp_all
      obtain ⟨A0, n0, c0, g0, rfl, hn0, hc0, hs0, hw0, hl0, hd0⟩ := open_row Try.underlying22 Try.underlying3 (by kernel_rfl) (hval 0 22 v0 rfl rfl) h0
      have re0 : c0 * 8 ≤ 140737488351232 := by
        rcases hd0 with ⟨_, h0⟩ | ⟨xs, ys, h1, h2⟩
        · omega
        · have := sized_slice hsz (j := 0) (t := 22) (e := 3) rfl (by rw [h1]; rfl) Try.underlying22
          rw [h2, show Try.prog.bytesOf 3 = 8 from by kernel_rfl] at this
          simpa [reachBytes] using this
      obtain ⟨A1, n1, c1, g1, rfl, hn1, hc1, hs1, hw1, hl1, hd1⟩ := open_row Try.underlying22 Try.underlying3 (by kernel_rfl) (hval 1 22 v1 rfl rfl) h1
      have re1 : c1 * 8 ≤ 140737488351232 := by
        rcases hd1 with ⟨_, h0⟩ | ⟨xs, ys, h1, h2⟩
        · omega
        · have := sized_slice hsz (j := 1) (t := 22) (e := 3) rfl (by rw [h1]; rfl) Try.underlying22
          rw [h2, show Try.prog.bytesOf 3 = 8 from by kernel_rfl] at this
          simpa [reachBytes] using this
      obtain ⟨a2, rfl, rfl, rfl, w2⟩ := open_int Try.underlying3 (hval 2 3 v2 rfl rfl) h2
      exact walk W A0 n0 c0 g0 hn0 hc0 hs0 (fun j => bounds_i64 (hw0 j)) hl0 re0 A1 n1 c1 g1 hn1 hc1 hs1 (fun j => bounds_i64 (hw1 j)) hl1 re1 a2 (bounds_i64 w2))

theorem proved : Rows.PoolSplitSaid :=
  OpenClaim.holds_of_wide 12 Try.f12 rfl rfl rfl rfl rfl rfl rfl ⟨rfl, rfl, rfl, rfl, rfl⟩ rfl rfl rfl rfl rfl (by kernel_rfl) Try.func12 (by kernel_rfl)
    (of_decide_eq_true (by kernel_rfl)) (by unfold Func.isWrapper; first | (rw [if_pos (by decide +kernel)]; kernel_rfl) | (rw [if_neg (by decide +kernel)]; exact ⟨rfl, rfl⟩))
    (fun os started H enc _ => lifted os started H enc)
end Go.Proofs.Ytdobcdhdeagekaa.poolSplit
