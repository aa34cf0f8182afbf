/- What is wished. -/
import Derived.Test.YteefhiniamajkaaGreatGi
import Derived.BigQuiet
import Derived.Deep.RegionHeld3
import Derived.Deep.Cut
import Derived.IntWalk
namespace Go.Proofs.YteefhiniamajkaaGreat
set_option linter.unusedVariables false
set_option linter.unusedSimpArgs false
open Go.RowKit Go.ChangeShapes Go.WideShapes Go.ChangeAt

theorem all_fa (p : Pl) (g : Nat → En) (A : Option Addr) (n c : Nat) (w : World) (hA : Se w A n g) (hn : n ≤ 1000) (K : Int) (hp : Pinv p K) (hK : K ≤ 100000) : Calls Tryz.prog 56 #[.agg (FA 330 (pc p)), .slice A n c] w fun x w' => ∃ (q : Pl) (k : Nat) (er : Int), x = .returned (.tuple #[.agg (FA 330 (pc q)), .int .i64 (k : Int), .int .i64 er]) ∧ AllOut p g n q k er ∧ Below w.heap.size w w' := all_any p g A n c w hA hn K hp hK
/-- What Wish tells, and leaves. -/
def WishOk (w : World) (b c m n : Nat) (h : Hd) (g : Nat → En) (k : Nat) (x : Ending) (w' : World) : Prop :=
  ∃ (q : Pl) (j : Nat) (er : Int), AllOut h.ah g k q j er ∧ x = .returned (.int .i64 er) ∧ HeadAt w' b c m n (if er = 0 then { h with ah := q, q := h.q ++ (List.range k).map g } else h) ∧ Ch [b, c, m] w w'
theorem wish_next (q : List En) (g : Nat → En) (j : Nat) : q ++ (List.range j).map g ++ [g j] = q ++ (List.range (j + 1)).map g := by
  rw [List.range_succ, List.map_append, List.map_singleton, List.append_assoc]

section
variable {w : World} {b c m n : Nat} {h : Hd}
set_option maxRecDepth 100000 in
set_option maxHeartbeats 8000000 in
theorem wish_no (hH : HeadAt w b c m n h) (g : Nat → En) (A : Option Addr) (k cc : Nat) (hk : k ≤ 1000) (hA : Se w A k g) (hq : h.q.length ≤ 200) (hr : 200 < h.q.length + k) : Calls Tryz.prog 31 #[.pointer (some ⟨b, 0, none⟩), .slice A k cc] w fun x w' => x = .returned (.int .i64 14) ∧ w = w' := by
  have WA := hid (waiting_any hH)
  have HH := hid hH
  clear hH
  have SE := hid hA
  clear hA
  obtain ⟨ql, hql⟩ : ∃ x, x = h.q.length := ⟨_, rfl⟩
  rw [← hql] at WA hr
  rw [← hql] at hq
  have hgt : 200 - (ql : Int) < k := by omega
  clear hql
  go_enter Tryz.func31, Tryz.ntmps31
  go_wp2_with fail
  refine WA.out.mono ?_
  rintro x w' ⟨rfl, rfl⟩
  go_wp2_with fail
  go_ret
  exact ⟨rfl, rfl⟩
attribute [local irreducible] FA FL
set_option maxRecDepth 100000 in
set_option maxHeartbeats 8000000 in
theorem wish_any (hH : HeadAt w b c m n h) (g : Nat → En) (A : Option Addr) (k cc : Nat) (hA : Se w A k g) (hd : ∀ ad, A = some ad → 0 < k → ad.block ∉ [b, c, m]) (hr : h.q.length + k ≤ 200) (K : Int) (hp : Pinv h.ah K) (hK : K ≤ 100000) : Calls Tryz.prog 31 #[.pointer (some ⟨b, 0, none⟩), .slice A k cc] w (WishOk w b c m n h g k) := by
  have WA := hid (waiting_any hH)
  have HH := hid hH
  have HN := hid hH.nd
  have AN := hid (show ∀ (w' : World) (L : List Th), HS [b, c, m] w w' L → Se w' A k g from fun w' L h => h.ch.sl hA (fun ad e h0 => hd ad e (by omega)))
  have AD := hid (show ∀ bb off, A = some ⟨bb, off, none⟩ → True from fun _ _ _ => trivial)
  clear hA hd AD
  have S0 := hid hH.hs
  clear hH
  obtain ⟨ql, hql⟩ : ∃ x, x = h.q.length := ⟨_, rfl⟩
  rw [← hql] at WA hr
  have HQL := hid hql
  clear hql
  have hle : (k : Int) ≤ 200 - ql := by omega
  go_enter Tryz.func31, Tryz.ntmps31
  go_wp2_with fail
  refine WA.out.mono ?_
  rintro x w' ⟨rfl, rfl⟩
  have LG := hid (HeadAt.loadG (S0.out.nth 0 rfl : HeadAt w b c m n h))
  go_wp2_with ((with_reducible refine wl_id ?_); refine wl_load rfl rfl rfl LG.out ?_)
  refine (all_fa h.ah g A k cc _ (AN.out _ _ S0.out) (by omega) K hp hK).mono ?_
  rintro x w1 ⟨q2, j, er, rfl, ho, hb⟩
  have S1 := hid (S0.out.below hb)
  have HO := hid ho
  clear ho hb LG
  go_simp
  cases be : (er == 0)
  · have hne : ¬ er = 0 := by simpa using be
    have hbn : (er != 0) = true := by simp [hne]
    have HNE := hid hne
    clear hne
    go_wp2_with (first | ((with_reducible refine wl_id ?_); refine wl_ow rfl (ow_alloc rfl (zpl_fa _) (by omega) S1.out ?_); intro U w2 hZ _; have S2 := hid hZ; clear hZ) | ((with_reducible refine wl_id ?_); refine wl_ow rfl (ow_store (A := []) 0 330 (pc q2) (pc q2) rfl rfl rfl S2.out (by omega) (fun j hj => patch_all _ _ _ j hj) info_pl (pc_one q2) ?_); intro w3 hZ; have S3 := hid (HS.tail hZ); clear hZ))
    go_ret
    refine (⟨q2, j, er, HO.out, rfl, ?_, S3.out.ch⟩ : WishOk w b c m n h g k _ _)
    rw [if_neg HNE.out]
    exact S3.out.nth 0 rfl
  · have he0 : er = 0 := by simpa using be
    subst he0
    clear be
    go_upto_region 6 with (first | ((with_reducible refine wl_id ?_); refine wl_ow rfl (ow_alloc rfl (zpl_fa _) (by omega) S1.out ?_); intro U w2 hZ _; have S2 := hid hZ; clear hZ) | ((with_reducible refine wl_id ?_); refine wl_ow rfl (ow_store (A := []) 0 330 (pc q2) (pc q2) rfl rfl rfl S2.out (by omega) (fun j hj => patch_all _ _ _ j hj) info_pl (pc_one q2) ?_); intro w3 hZ; have S3 : Hid (HS [b, c, m] w w3 [thB U 330 (pc q2), thH b c m n h]) := hid hZ; clear hZ))
    have LF := hid ((S3.out.fb 0 rfl).load (T := 33) 0 330 (pc q2) (by omega) (fun j hj => by rw [Nat.zero_add]) Tryz.underlying33 rfl info_pl)
    have hH3 : HeadAt w3 b c m n h := S3.out.nth 1 rfl
    have ST := hid (hH3.fb.store (T := 33) 330 330 (pc q2) (by omega) info_pl (pc_one q2))
    have S4 : Hid (HS [b, c, m] w (w3.setCells b 330 (FL 330 (pc q2))) [thB U 330 (pc q2), thH b c m n { h with ah := q2 }]) := hid (HS.upd (A := [thB U 330 (pc q2)]) (B := []) S3.out (thH b c m n { h with ah := q2 }) rfl ((Ch.refl _ _).sets (.inl (by simp [thH]))) (hH3.setAhead q2))
    clear hH3
    go_upto_region 7 with (first | ((with_reducible refine wl_id ?_); refine wl_load rfl rfl rfl LF.out ?_) | ((with_reducible refine wl_id ?_); refine wl_store rfl rfl rfl rfl ST.out ?_))
    clear LF ST S3
    generalize w3.setCells b 330 (FL 330 (pc q2)) = w4 at *
    have S5 := hid S4.out.tail
    clear S4
    go_wp2_with fail
    go_loopw [35] (fun i wx => ∃ (j : Nat), j ≤ k ∧ i = .int .i64 (j : Int) ∧ HS [b, c, m] w wx [thH b c m n { h with ah := q2, q := h.q ++ (List.range j).map g }]) (fun i _ => k - (intOf i).toNat)
    case atStart =>
      refine ⟨0, Nat.zero_le _, rfl, ?_⟩
      have h0 := S5.out
      simpa using h0
    case round =>
      clear S5
      obtain ⟨i, hi, rfl, hS⟩ := hrel
      have S6 := hid hS
      clear hS
      by_cases hlt : (i : Int) < k
      · have SE := hid (AN.out _ _ S6.out)
        obtain ⟨bb, off, rfl⟩ := Sl.addr SE.out (by omega)
        have LE := SE.out.load i (by omega)
        have WN := hid (wish_next h.q g i)
        obtain ⟨e, he⟩ : ∃ e, e = g i := ⟨_, rfl⟩
        rw [← he] at LE WN
        clear he
        unfold enV at LE
        obtain ⟨qi, hqi⟩ : ∃ x, x = h.q ++ (List.range i).map g := ⟨_, rfl⟩
        have HQI := hid (show qi.length < 200 from by rw [hqi]; simp; have := HQL.out; omega)
        rw [← hqi] at WN S6
        clear hqi
        go_upto_region 10 with ((with_reducible refine wl_id ?_); refine wl_load rfl rfl rfl LE ?_)
        clear LE
        have S7 := hid (S6.out.cells (T := 44) (enL e))
        unfold enL at S7
        generalize wr.alloc (.cells #[.int .i64 e.k, .int .i64 e.s, .int .i64 e.a, .int .i64 e.p, .int .i64 e.w, .int .u64 e.y.a, .int .u64 e.y.b] 44) = w7 at *
        generalize wr.heap.size = V at *
        have x0 := (S7.out.ce 0 rfl).2.1 0 _ rfl
        have x1 := (S7.out.ce 0 rfl).2.1 1 _ rfl
        have x2 := (S7.out.ce 0 rfl).2.1 2 _ rfl
        have x3 := (S7.out.ce 0 rfl).2.1 3 _ rfl
        have x4 := (S7.out.ce 0 rfl).2.1 4 _ rfl
        have x5 := (S7.out.ce 0 rfl).2.1 5 _ rfl
        have x6 := (S7.out.ce 0 rfl).2.1 6 _ rfl
        have WT := hid (wait_any (S7.out.nth 1 rfl : HeadAt w7 b c m n { h with ah := q2, q := qi }) e HQI.out)
        unfold enV at WT
        go_wp2_with fail
        refine WT.out.mono ?_
        rintro x w8 ⟨rfl, hH8, hC8⟩
        have S8 : Hid (HS [b, c, m] w w8 [thH b c m n { h with ah := q2, q := qi ++ [e] }]) := hid (HS.upd (A := []) (B := []) S7.out.tail (thH b c m n { h with ah := q2, q := qi ++ [e] }) rfl hC8 hH8)
        clear hH8 hC8 x0 x1 x2 x3 x4 x5 x6
        go_wp2_with fail
        go_roundw
        case rel => exact ⟨i + 1, by omega, by go_num, by rw [← WN.out]; exact S8.out⟩
        case measure => simp [intOf]; omega
      · have hik : i = k := by omega
        have S9 := hid (show HS [b, c, m] w wr [thH b c m n { h with ah := q2, q := h.q ++ (List.range k).map g }] from by rw [← hik]; exact S6.out)
        clear hik
        go_wp2_with fail
        go_ret
        refine (⟨q2, _, 0, HO.out, rfl, ?_, S9.out.ch⟩ : WishOk w b c m n h g k _ _)
        rw [if_pos rfl]
        exact S9.out.nth 0 rfl
end
end Go.Proofs.YteefhiniamajkaaGreat
