/- A yard's Tick. -/
import Derived.Test.YteefhiniamajkaaGreatYdb
import Derived.BigQuiet
import Derived.Deep.RegionHeld3
import Derived.Deep.Cut
import Derived.IntWalk
namespace Go.Proofs.YteefhiniamajkaaGreat
set_option linter.unusedVariables false
set_option linter.unusedSimpArgs false
open Go.RowKit Go.ChangeShapes Go.WideShapes Go.ChangeAt
theorem YL.lessR (D : Yl) (h : Hd) (uf : Nat → Uy) (T R : List Th) : (YL D h uf R).Sublist (YL D h uf (T ++ R)) := by
  unfold YL
  refine List.Sublist.cons_cons _ (List.Sublist.cons_cons _ (List.Sublist.cons_cons _ (List.Sublist.cons_cons _ (List.Sublist.cons_cons _ (List.Sublist.cons_cons _ (List.Sublist.append (List.Sublist.refl _) (List.Sublist.append (List.Sublist.refl _) (List.sublist_append_right _ _))))))))
attribute [local irreducible] FA FL
section
variable {S : List Nat} {W w : World} {D : Yl} {h : Hd} {uf : Nat → Uy} {R : List Th} {t : Th}
/-- A note is added, a thing being held beside the yard. -/
theorem yd_add2 (hS : HS S W w (t :: YL D h uf R)) (n : Nt) (hl : D.ns.length ≤ 1000000) : Calls Tryz.prog 45 #[.pointer (some ⟨D.Y, 2, none⟩), .agg (FA 342 (ntc n))] w fun x w' => x = .returned (.tuple #[]) ∧ ∃ nb V', HS S W w' (t :: YL { D with V := V', ns := D.ns ++ [(nb, n)] } h uf R) := by
  have h1 : HS S W w (YL D h uf ([t] ++ R)) := hS.perm (put_mid t (thB D.Y 5 (yc D.hb D.U D.V D.ca D.cm) :: thL D.V D.ns :: thH D.hb D.hc D.hm D.hn h :: thC1 D.ca [] :: thC1 D.cm [] :: thW 0 72 1 D.U h.un (ubV D) :: (List.range h.un).map (unT D uf)) (nths D.ns) R)
  refine (yd_add h1 n hl).mono ?_
  rintro x w' ⟨rfl, nb, V', hZ⟩
  refine ⟨rfl, nb, V', ?_⟩
  exact hZ.perm (put_mid t (thB D.Y 5 (yc D.hb D.U V' D.ca D.cm) :: thL V' (D.ns ++ [(nb, n)]) :: thH D.hb D.hc D.hm D.hn h :: thC1 D.ca [] :: thC1 D.cm [] :: thW 0 72 1 D.U h.un (ubV D) :: (List.range h.un).map (unT D uf)) (nths (D.ns ++ [(nb, n)])) R).symm
set_option maxRecDepth 100000 in
set_option maxHeartbeats 16000000 in
theorem yd_tick (hS : HS S W w (YL D h uf R)) (hu : h.un ≤ 16) (hp : PB h.pl) (hv2 : 0 ≤ (sendH h).pl.v ∧ (sendH h).pl.v ≤ 1000000000) (hns : D.ns.length ≤ 900000) : Calls Tryz.prog 20 #[.pointer (some ⟨D.Y, 0, none⟩)] w fun x w' => ∃ (V' : Value) (ns' : List (Nat × Nt)), x = .returned (.int .i64 (ns'.length : Int)) ∧ HS S W w' (YL { D with V := V', ns := ns' } (sendH h) uf R) ∧ ns'.map Prod.snd = D.ns.map Prod.snd ++ notesK (sendH h) h.un := by
  have HB := hid (YL.hd hS)
  have hun : (sendH h).un = h.un := sendH_un h
  have SH := hid (send_any (YL.hd hS) hu hp hv2)
  have c0 := YL.c0 hS
  have S0 := hid hS
  obtain ⟨l, hl⟩ : ∃ l, l = notesK (sendH h) h.un := ⟨_, rfl⟩
  have hll : l.length ≤ 16 := by rw [hl]; exact Nat.le_trans (notesK_len _ _) hu
  unfold SentOk at SH
  rw [← hl] at SH ⊢
  have LL_ := hid hll
  obtain ⟨H, hHH⟩ : ∃ H, H = sendH h := ⟨_, rfl⟩
  rw [← hHH] at SH hun ⊢
  clear hHH
  clear hll hS HB hl hp hv2
  go_enter Tryz.func20, Tryz.ntmps20
  go_wp2_with fail
  refine SH.out.mono ?_
  rintro x w1 ⟨A, cc, rfl, hlc, hH, hC, hrow⟩
  have S1 := hid (YL.setH S0.out H hun hC hH)
  obtain ⟨T_, hT⟩ : ∃ T : List Th, HS S W w1 (YL D H uf (T ++ R)) ∧ (0 < l.length → ∃ g, A = some ⟨g, 0, none⟩ ∧ thB g (l.length * 342) (ntf l) ∈ T) := by
    skip
    by_cases h0 : 0 < l.length
    · obtain ⟨g, hg, hgs, hF⟩ := hrow h0
      have h1 := HS.updNew (A := [thB D.Y 5 (yc D.hb D.U D.V D.ca D.cm), thL D.V D.ns]) S0.out (thH D.hb D.hc D.hm D.hn H) rfl hC hH hF hgs
      refine ⟨[thB g (l.length * 342) (ntf l)], ?_, fun _ => ⟨g, hg, by simp⟩⟩
      unfold YL
      rw [hun]
      exact h1.perm (put_mid _ (thB D.Y 5 (yc D.hb D.U D.V D.ca D.cm) :: thL D.V D.ns :: thH D.hb D.hc D.hm D.hn H :: thC1 D.ca [] :: thC1 D.cm [] :: thW 0 72 1 D.U h.un (ubV D) :: (List.range h.un).map (unT D uf)) (nths D.ns) R)
    · exact ⟨[], S1.out, fun h => absurd h h0⟩
  have S2 := hid hT.1
  have TF := hid hT.2
  clear hT hrow hH hC S1 S0 SH c0
  go_simp
  obtain ⟨n, hn⟩ : ∃ n, n = l.length := ⟨_, rfl⟩
  rw [← hn] at hlc TF ⊢
  have hn16 : n ≤ 16 := by rw [hn]; exact LL_.out
  replace hn := hid hn
  clear LL_
  go_wp2_with fail
  go_loopw [11] (fun i wr => ∃ (k : Nat) (V' : Value) (ns' : List (Nat × Nt)), k ≤ n ∧ i = .int .i64 (k : Int) ∧ HS S W wr (YL { D with V := V', ns := ns' } H uf (T_ ++ R)) ∧ ns'.map Prod.snd = D.ns.map Prod.snd ++ l.take k) (fun i _ => n - (intOf i).toNat)
  case atStart => exact ⟨0, D.V, D.ns, Nat.zero_le _, rfl, S2.out, by simp⟩
  case round =>
    obtain ⟨k, V', ns', hk, rfl, hS, hm⟩ := hrel
    have S3 := hid hS
    have HM := hid hm
    have hlen : ns'.length ≤ 900016 := by have := congrArg List.length hm; simp at this; omega
    clear hS hm S2
    by_cases hlt : (k : Int) < n
    · obtain ⟨g, hA, hmem⟩ := TF.out (by omega)
      subst hA
      have hkl : k < l.length := by rw [← hn.out]; omega
      obtain ⟨x, hx⟩ : ∃ x, l[k]? = some x := ⟨_, List.getElem?_eq_getElem hkl⟩
      have HX := hid hx
      clear hx hkl
      have MF := hid (fun (w' : World) (V2 : Value) (n2 : List (Nat × Nt)) (h' : HS S W w' (YL { D with V := V2, ns := n2 } H uf (T_ ++ R))) => (show Fb w' g (n * 342) (ntf l) from by rw [hn.out] at hmem ⊢; exact h'.1 _ (by unfold YL; simp only [List.mem_cons, List.mem_append]; exact .inr (.inr (.inr (.inr (.inr (.inr (.inr (.inr (.inl hmem)))))))))))
      clear hmem
      have z0 : (0 : Int) ≤ k := by omega
      have z4 : (0 : Nat) ≤ k := Nat.zero_le _
      have zk : k < n := by omega
      go_upto_region 3 with (fail)
      apply wp_region_lit
      refine wl_val (v := ?_) rfl ?_ ?_; rotate_left; (focus ( go_simp; (try with_reducible rfl))); (try simp only [Act.put, List.setIfInBounds_toArray, List.set_cons_zero, List.set_cons_succ])
      refine wl_ow rfl (ov_val (ex_load rfl rfl ((MF.out _ _ _ S3.out).load (k * 342) 342 (ntc x) (by omega) (fun j hj => ntf_at l k j x HX.out hj) Tryz.underlying94 rfl info_nt)) ?_)
      try simp only [Act.put, List.setIfInBounds_toArray, List.set_cons_zero, List.set_cons_succ]
      refine wl_ow rfl (ow_alloc rfl (znt_fa _) (by omega) S3.out (fun X w4 hZ _ => ?_))
      have S4 := hid hZ
      clear hZ S3 MF
      try simp only [Act.put, List.setIfInBounds_toArray, List.set_cons_zero, List.set_cons_succ]
      refine wl_ow rfl (ow_store (A := []) 0 342 (ntc x) (ntc x) rfl rfl rfl S4.out (by omega) (fun j hj => patch_all _ _ _ j hj) info_nt (ntc_one _) ?_)
      intro w5 hZ
      have S5 : Hid (HS S W w5 (thB X 342 (ntc x) :: YL { D with V := V', ns := ns' } H uf (T_ ++ R))) := hid hZ
      clear hZ S4
      try simp only [Act.put, List.setIfInBounds_toArray, List.set_cons_zero, List.set_cons_succ]
      go_upto_region 4 with (fail)
      refine wp_region_held_drew (S := fun (w' : World) => ∃ (V2 : Value) (n2 : List (Nat × Nt)), HS S W w' (thB X 342 (ntc x) :: YL { D with V := V2, ns := n2 } H uf (T_ ++ R))) (by kernel_rfl) ?_ (fun hHeld => ?_)
      · exact ⟨_, _, S5.out.drew⟩
      have F0 := S5.out.drew
      refine tkq 0 hHeld ?_
      refine tkq 1 hHeld ?_
      refine tkq 2 hHeld ?_
      refine tk 3 (v := .agg (FA 342 (ntc x))) rfl (by kernel_rfl) (by kernel_rfl) (by kernel_rfl) (fun _ _ _ h => h) rfl (fun w hSw => by obtain ⟨_, _, hS⟩ := hSw; exact ex_load rfl rfl ((hS.fb 0 rfl).load 0 342 (ntc x) (by omega) (fun j hj => by rw [Nat.zero_add]) Tryz.underlying94 rfl info_nt)) hHeld ?_; (try simp only [Act.put, List.setIfInBounds_toArray, List.set_cons_zero, List.set_cons_succ])
      refine only 4 rfl (by kernel_rfl) rfl (fun K hK => ?_)
      go_simp
      refine (yd_add2 F0 x (by show ns'.length ≤ 1000000; omega)).mono ?_
      rintro e' w6 ⟨rfl, nb, V2, hZ⟩
      try go_wp2_with fail
      refine hK.out _ _ (⟨_, _, hZ⟩) (fun h2 => ?_)
      clear hK
      try simp only [Act.put, List.setIfInBounds_toArray, List.set_cons_zero, List.set_cons_succ]
      have S6 := hid hZ.tail
      clear h2 hZ F0 hHeld S5
      refine wpAnyH_done (by kernel_rfl) ?_ _
      go_wp2_with fail
      go_roundw
      case rel => exact ⟨k + 1, V2, ns' ++ [(nb, x)], by omega, by go_num, S6.out, map_take_next HM.out HX.out⟩
      case measure => simp [intOf]; omega
    · have hkn : k = n := by omega
      subst hkn
      have HM2 : Hid (ns'.map Prod.snd = D.ns.map Prod.snd ++ l) := hid (by rw [HM.out, hn.out, List.take_length])
      clear HM TF
      have SR : Hid (HS S W wr (YL { D with V := V', ns := ns' } H uf R)) := hid (S3.out.sub (YL.lessR _ _ _ _ _))
      clear S3
      have NN := hid (yd_notes SR.out)
      go_wp2_with fail
      refine NN.out.mono ?_
      rintro x w' ⟨rfl, rfl⟩
      go_simp
      go_wp2_with fail
      go_ret
      exact ⟨V', ns', rfl, SR.out, HM2.out⟩
end
end Go.Proofs.YteefhiniamajkaaGreat
