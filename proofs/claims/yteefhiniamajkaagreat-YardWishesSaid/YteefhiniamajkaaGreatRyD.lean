/- Two yards side by side. Two yards that tell the same. What YardWishes wants. -/
import Derived.Test.YteefhiniamajkaaGreatRyC
import Derived.Test.YteefhiniamajkaaGreatGt
import Derived.BigQuiet
import Derived.Deep.RegionHeld3
import Derived.Deep.Cut
import Derived.IntWalk
namespace Go.Proofs.YteefhiniamajkaaGreat
set_option linter.unusedVariables false
set_option linter.unusedSimpArgs false
open Go.RowKit Go.ChangeShapes Go.WideShapes Go.ChangeAt
set_option maxRecDepth 100000
/-- What waits applies, one after another: it is what lies ahead. -/
def QOK (h : Hd) : Prop := runP h.pl (lsE h.q) h.q.length = some h.ah
theorem apR_k {p : Pl} {e : En} (h0 : (apR p e).2 = 0) : (e.k != 0) = true := by
  have hc : chk e = 0 := by
    by_cases hc : chk e = 0
    · exact hc
    · unfold apR at h0
      rw [if_neg hc] at h0
      exact absurd h0 hc
  have := (chk_ok hc).1
  have h1 : e.k ≠ 0 := by omega
  simpa using h1
theorem runP_congr {p : Pl} {g g2 : Nat → En} : ∀ {k : Nat}, (∀ j, j < k → g j = g2 j) → runP p g k = runP p g2 k
  | 0, _ => rfl
  | k + 1, h => by
    unfold runP
    rw [runP_congr (k := k) (fun j hj => h j (by omega)), h k (by omega)]
theorem runP_one {p : Pl} {g : Nat → En} : runP p g 1 = if (apR p (g 0)).2 = 0 then some (apR p (g 0)).1 else none := rfl
theorem qok_head {h : Hd} (hq : QOK h) {e : En} {t : List En} (he : h.q = e :: t) : (apR h.pl e).2 = 0 ∧ (e.k != 0) = true ∧ runP (apR h.pl e).1 (lsE t) t.length = some h.ah := by
  unfold QOK at hq
  rw [he] at hq
  have h0 : (apR h.pl e).2 = 0 := by
    by_cases h0 : (apR h.pl e).2 = 0
    · exact h0
    · have h1 : runP h.pl (lsE (e :: t)) 1 = none := by rw [runP_one]; exact if_neg h0
      rw [runP_none h1 (e :: t).length (by simp)] at hq
      cases hq
  refine ⟨h0, apR_k h0, ?_⟩
  have h1 : runP h.pl (lsE (e :: t)) 1 = some (apR h.pl e).1 := by rw [runP_one]; exact if_pos h0
  have h2 := runP_add h1 t.length
  rw [show (e :: t).length = 1 + t.length by simp; omega, h2] at hq
  rw [← hq]
  refine runP_congr fun j hj => ?_
  unfold lsE
  rw [show 1 + j = j + 1 by omega]
  rfl
theorem qok_send {h : Hd} (hq : QOK h) : QOK (sendH h) := by
  unfold sendH
  split
  · unfold pubH
    cases he : h.q with
    | nil => exact hq
    | cons e t =>
      obtain ⟨h0, _, h2⟩ := qok_head hq he
      simp only [if_pos h0]
      exact h2
  · exact hq
theorem qok_same {h h' : Hd} (hq : QOK h) (e1 : h'.pl = h.pl) (e2 : h'.q = h.q) (e3 : h'.ah = h.ah) : QOK h' := by
  unfold QOK
  rw [e1, e2, e3]
  exact hq
theorem qok_new (p : Pl) (u : Nat) : QOK (newH p u) := rfl
theorem comb_all {h : Hd} (hq : QOK h) {g : Nat → En} {n : Nat} {a : Pl} {j : Nat} {er : Int} (hA : AllOut h.ah g n a j er) : AllOut h.pl (comb h.q.length (lsE h.q) g) (h.q.length + n) a (h.q.length + j) er := by
  have h1 : runP h.pl (comb h.q.length (lsE h.q) g) h.q.length = some h.ah := by
    rw [← show runP h.pl (lsE h.q) h.q.length = some h.ah from hq]
    refine runP_congr fun j hj => ?_
    unfold comb
    rw [if_pos hj]
  have hg : ∀ i, comb h.q.length (lsE h.q) g (h.q.length + i) = g i := fun i => by
    unfold comb
    rw [if_neg (by omega)]
    congr 1
    omega
  refine ⟨?_, ?_⟩
  · rw [runP_add h1 j, runP_congr (g2 := g) (fun i _ => hg i)]
    exact hA.1
  · rw [hg j]
    rcases hA.2 with ⟨e1, e2⟩ | ⟨e1, e2, e3⟩
    · exact .inl ⟨by omega, e2⟩
    · exact .inr ⟨by omega, e2, e3⟩
theorem qok_wish {h : Hd} (hq : QOK h) {g : Nat → En} {n : Nat} {a : Pl} {j : Nat} (hA : AllOut h.ah g n a j 0) : QOK { h with ah := a, q := h.q ++ (List.range n).map g } := by
  have h1 := comb_all hq hA
  have hj : h.q.length + j = h.q.length + n := by
    rcases h1.2 with ⟨e1, _⟩ | ⟨_, _, e3⟩
    · exact e1
    · exact absurd rfl e3
  have h2 := h1.1
  rw [hj] at h2
  unfold QOK
  show runP h.pl (lsE (h.q ++ (List.range n).map g)) (h.q ++ (List.range n).map g).length = some a
  rw [← h2, List.length_append, List.length_map, List.length_range]
  refine runP_congr fun i hi => ?_
  unfold comb lsE
  by_cases hi2 : i < h.q.length
  · rw [if_pos hi2]; simp [List.getD, List.getElem?_append_left hi2]
  · rw [if_neg hi2]
    have h2 : i - h.q.length < n := by omega
    simp [List.getD, List.getElem?_append_right (show h.q.length ≤ i by omega), h2]
attribute [local irreducible] FA FL
section
variable {S : List Nat} {W w w' : World} {D : Rl} {y : Yd} {R : List Th} {V Q : Value} {K : Int}
set_option maxHeartbeats 8000000 in
theorem ra_pool (h : RA S W w D y R) : Calls Tryz.prog 16 #[.pointer (some ⟨D.Y, 0, none⟩)] w fun x w' => x = .returned (.agg (FA 330 (pc y.h.pl))) ∧ RA S W w' D y R := by
  obtain ⟨V, Q, hS⟩ := h
  have S0 := hid hS
  clear hS
  obtain ⟨p, hp⟩ : ∃ p, p = y.h.pl := ⟨_, rfl⟩
  have PP := hid (fun (w' : World) (U : Nat) (hZ : HS S W w' (thB U 330 (pc zPl) :: RL D V Q y R)) => (show Calls Tryz.prog 38 #[.pointer (some ⟨D.hb, 0, none⟩)] w' fun x w2 => x = .returned (.agg (FA 330 (pc p))) ∧ HS S W w2 (thB U 330 (pc zPl) :: RL D V Q y R) from by rw [hp]; exact rh_pool2 (D := D) (y := y) (hZ.fb 3 rfl) hZ))
  rw [← hp]
  clear hp
  go_enter Tryz.func16, Tryz.ntmps16
  go_upto_region 1 with (((with_reducible refine wl_id ?_); refine wl_ow rfl (ow_alloc rfl (zpl_fa _) (by omega) S0.out ?_); intro U w_ hZ _; have S1 := hid hZ; clear hZ))
  have c0 := rl_c0 S1.out.tail
  go_wp2_with fail
  refine (PP.out _ _ S1.out).mono ?_
  rintro x w2 ⟨rfl, hb⟩
  have S2 := hid hb
  clear hb S1 c0
  go_simp
  go_wp2_with ((with_reducible refine wl_id ?_); refine wl_ow rfl (ow_store (A := []) 0 330 (pc p) (pc p) rfl rfl rfl S2.out (by omega) (fun j hj => patch_all _ _ _ j hj) info_pl (pc_one _) ?_); intro w9 hZ; have S9 := hid hZ; clear hZ S2; refine end_then ?_; apply_assumption; refine wp_ret ?_; (repeat refine ret_then ?_); (show bodyPost _ _ _ _ _ _); exact bodyPost_ret (v := .agg (FA 330 (pc p))) (results_F9 Tryz.results16 _ rfl (S9.out.fb 0 rfl) Tryz.underlying33 rfl info_pl) rfl ⟨rfl, V, Q, S9.out.tail⟩)
theorem ra_wish (h : RA S W w D y R) (A1 : Option Addr) (n1 c1 : Nat) (g1 : Nat → En) (h1 : Se w A1 n1 g1) (hb2 : y.h.q.length + n1 ≤ 200) (hp : Pinv y.h.pl K) (hK : K ≤ 100000) : Calls Tryz.prog 11 #[.pointer (some ⟨D.Y, 0, none⟩), .slice A1 n1 c1] w fun x w' => ∃ (q' : Pl) (k : Nat) (er : Int), x = .returned (.int .i64 er) ∧ AllOut y.h.pl (comb y.h.q.length (lsE y.h.q) g1) (y.h.q.length + n1) q' k er ∧ ∀ a, RA S W w' D ⟨if er = 0 then { y.h with ah := a, q := y.h.q ++ (List.range n1).map g1 } else y.h, y.uf, y.ns⟩ R := by
  obtain ⟨V, Q, hS⟩ := h
  have c0 := rl_c0 hS
  unfold RL at hS
  have WW := hid (rh_wish (hS.perm (perm_q _ _ _ _ _ _)) A1 n1 c1 g1 h1 hb2 K hp hK)
  clear hS h1
  go_enter Tryz.func11, Tryz.ntmps11
  go_wp2_with fail
  refine WW.out.mono ?_
  rintro x w2 ⟨q', k, er, rfl, hA, hh⟩
  have HA := hid hA
  have HH := hid hh
  clear hA hh WW
  go_simp
  go_wp2_with fail
  go_ret
  refine ⟨q', k, er, rfl, HA.out, fun a => ?_⟩
  rcases HH.out with ⟨h0, hZ⟩ | ⟨h0, V', hZ⟩
  · rw [if_neg h0]
    exact ⟨V, Q, hZ.perm (perm_q _ _ _ _ _ _).symm⟩
  · rw [if_pos h0]
    exact ⟨V, V', hZ.perm (perm_q _ _ _ _ _ _).symm⟩
theorem ra_tickF (h : RA S W w D y R) (hF : Fit y K) (hK : K ≤ 100000) (hq : QOK y.h) (hlq : y.h.q.length ≤ 1000) (hn : y.ns.length ≤ 900000) : Calls Tryz.prog 13 #[.pointer (some ⟨D.Y, 0, none⟩)] w fun x w' => x = .returned (.int .i64 ((tickY y).ns.length : Int)) ∧ RA S W w' D (tickY y) R := by
  obtain ⟨_, s2, s3, s4⟩ := hF.1.send
  have hv := hF.1.1.v
  have := hF.2.2.1
  exact ra_tick h hF.2.1 (hF.pb hK) (fun e t he => ⟨(qok_head hq he).1, (qok_head hq he).2.1⟩) hlq ⟨by omega, by omega⟩ hn
theorem ra_delF (h : RA S W w D y R) (hF : Fit y K) (hK : K ≤ 100000) (hns : y.ns.length ≤ 900000) (i : Nat) (hi : i < y.ns.length) : Calls Tryz.prog 14 #[.pointer (some ⟨D.Y, 0, none⟩), .int .i64 (i : Int), .bool false] w fun x w' => x = .returned (.bool true) ∧ RA S W w' D (delY y i false) R := by
  obtain ⟨x, hx⟩ : ∃ n, y.ns[i]? = some n := ⟨_, List.getElem?_eq_getElem hi⟩
  have hD : delY y i false = getY y x (y.ns.eraseIdx i) := by unfold delY; rw [hx]; rfl
  rw [hD]
  obtain ⟨⟨u1, u2⟩, _, hm⟩ := hF.1.2.2 x (List.mem_of_getElem? hx)
  cases hak : x.ak with
  | true =>
    have hG : getY y x (y.ns.eraseIdx i) = ⟨heardH y.h x, y.uf, y.ns.eraseIdx i⟩ := by unfold getY; rw [if_pos hak]
    rw [hG]
    exact ra_delA h i x hx hak ⟨u1, u2⟩ hns
  | false =>
    have hG : getY y x (y.ns.eraseIdx i) = ⟨y.h, setU y.uf x.u.toNat (readU x (y.uf x.u.toNat)), y.ns.eraseIdx i ++ [ackU x.u.toNat (readU x (y.uf x.u.toNat))]⟩ := by unfold getY; rw [if_neg (by rw [hak]; decide)]
    rw [hG]
    have hkl : x.u.toNat < y.h.un := by omega
    have hw : (readU x (y.uf x.u.toNat)).up = true → Pw (readU x (y.uf x.u.toNat)).p := fun hup => by
      have h5 := (hF.1.read (hF.1.2.2 x (List.mem_of_getElem? hx)) hak).2.1 x.u.toNat hkl
      have e1 : setU y.uf x.u.toNat (readU x (y.uf x.u.toNat)) x.u.toNat = readU x (y.uf x.u.toNat) := by unfold setU; rw [if_pos rfl]
      have h6 := h5.2.2.2
      simp only [e1] at h6
      exact (h6 hup).1.2
    have hv : (y.uf x.u.toNat).up = true → 0 ≤ (y.uf x.u.toNat).p.v ∧ (y.uf x.u.toNat).p.v ≤ 100000 := fun hup => by
      have h5 := (hF.1.2.1 x.u.toNat hkl).2.2.2 hup
      have h6 := h5.1.v
      have h7 := h5.2.1
      have h8 := hF.2.2.1
      omega
    have hnv : x.b = (y.uf x.u.toNat).b → x.wh = true → x.p.v = x.v ∧ 0 ≤ x.v := fun _ hwh => by
      have h5 := (hm hak).2.2.1 hwh
      exact ⟨h5.2, by rw [← h5.2]; exact h5.1.v⟩
    exact ra_delM h i x hx hak x.u.toNat (by omega) hkl (hF.unit hK hkl) hw hv hnv hns
theorem ra_delN (h : RA S W w D y R) (h0 : y.ns.length = 0) : Calls Tryz.prog 14 #[.pointer (some ⟨D.Y, 0, none⟩), .int .i64 0, .bool false] w fun x w' => x = .returned (.bool false) ∧ w = w' := by
  obtain ⟨V, Q, hS⟩ := h
  obtain ⟨A, c, hV, hc⟩ := rl_V hS
  have c2 := rl_c2 hS
  rw [hV, h0] at c2
  clear hS hV hc h0
  go_enter Tryz.func14, Tryz.ntmps14
  go_wp2_with fail
  go_ret
  exact ⟨rfl, rfl⟩
end
/-- Two yards side by side. -/
def TW (S : List Nat) (W w : World) (D : Yl) (y : Yd) (N : Nat) (D9 : Rl) (y9 : Yd) (R : List Th) : Prop := ∃ V9 Q9, YA S W w D y (RL D9 V9 Q9 y9 R) N
theorem YL_app (D : Yl) (h : Hd) (uf : Nat → Uy) (R : List Th) : YL D h uf R = YL D h uf [] ++ R := by unfold YL; simp [List.append_assoc]
theorem RL_app (D : Rl) (V Q : Value) (y : Yd) (R : List Th) : RL D V Q y R = RL D V Q y [] ++ R := by unfold RL; simp [List.append_assoc]
theorem swap_app {α : Type} (A B R : List α) : (A ++ (B ++ R)).Perm (B ++ (A ++ R)) := by
  rw [← List.append_assoc, ← List.append_assoc]
  exact List.Perm.append_right R List.perm_append_comm
section
variable {S : List Nat} {W w w' : World} {D : Yl} {y y9 : Yd} {N : Nat} {D9 : Rl} {R : List Th} {K : Int}
theorem TW.ref (h : TW S W w D y N D9 y9 R) : ∃ T : List Th, RA S W w D9 y9 T ∧ (∀ t, t ∈ R → t ∈ T) ∧ ∀ w' z, RA S W w' D9 z T → TW S W w' D y N D9 z R := by
  obtain ⟨V9, Q9, V, ns, bf, hn, h1, h2, h3⟩ := h
  refine ⟨YL { D with V := V, ns := ns, bf := bf, hn := hn } y.h y.uf R, ⟨V9, Q9, ?_⟩, fun t ht => ?_, fun w' z hz => ?_⟩
  · rw [YL_app, RL_app] at h3
    rw [RL_app, YL_app]
    exact h3.perm (swap_app _ _ _)
  · rw [YL_app]
    exact List.mem_append.2 (.inr ht)
  · obtain ⟨V8, Q8, hz⟩ := hz
    refine ⟨V8, Q8, V, ns, bf, hn, h1, h2, ?_⟩
    rw [RL_app, YL_app] at hz
    rw [YL_app, RL_app]
    exact hz.perm (swap_app _ _ _)
theorem TW.below (h : TW S W w D y N D9 y9 R) (hb : Below w.heap.size w w') : TW S W w' D y N D9 y9 R := by
  obtain ⟨V9, Q9, h⟩ := h
  exact ⟨V9, Q9, h.below hb⟩
theorem TW.mono {N' : Nat} (h : TW S W w D y N D9 y9 R) (hN : N ≤ N') : TW S W w D y N' D9 y9 R := by
  obtain ⟨V9, Q9, h⟩ := h
  exact ⟨V9, Q9, h.mono hN⟩
theorem TW.memR {t : Th} (h : TW S W w D y N D9 y9 R) (ht : t ∈ R) : t.at_ w := by
  obtain ⟨V9, Q9, h⟩ := h
  exact h.memR (by rw [RL_app]; exact List.mem_append.2 (.inr ht))
theorem TW.ch (h : TW S W w D y N D9 y9 R) : Ch S W w := by
  obtain ⟨V9, Q9, h⟩ := h
  exact h.ch
theorem tw_wish (h : TW S W w D y N D9 y9 R) (g : Nat → En) (G off : Nat) (k cc : Nat) (hA : Se w (some ⟨G, off, none⟩) k g) {f : Nat → Value} {n : Nat} (hG : thB G n f ∈ R) (hr : y.h.q.length + k ≤ 200) (hp : Pinv y.h.ah K) (hK : K ≤ 100000) : Calls Tryz.prog 10 #[.pointer (some ⟨D.Y, 0, none⟩), .slice (some ⟨G, off, none⟩) k cc] w fun x w' => ∃ (q : Pl) (j : Nat) (er : Int), AllOut y.h.ah g k q j er ∧ x = .returned (.int .i64 er) ∧ TW S W w' D ⟨if er = 0 then { y.h with ah := q, q := y.h.q ++ (List.range k).map g } else y.h, y.uf, y.ns⟩ N D9 y9 R := by
  obtain ⟨V9, Q9, V, ns, bf, hn, h1, h2, h3⟩ := h
  refine (yd_wish h3 g (some ⟨G, off, none⟩) k cc hA (fun ad ea _ hm => ?_) hr K hp hK).mono ?_
  · injection ea with ea
    subst ea
    have hnd := h3.2.2.1
    have hmem : thB G n f ∈ RL D9 V9 Q9 y9 R := by rw [RL_app]; exact List.mem_append.2 (.inr hG)
    unfold YL at hnd
    rw [List.flatMap_cons, List.flatMap_cons, List.flatMap_cons] at hnd
    have h5 := (List.nodup_append.1 (List.nodup_append.1 (List.nodup_append.1 hnd).2.1).2.1).2.2
    refine h5 G hm G ?_ rfl
    refine List.mem_flatMap.2 ⟨thB G n f, ?_, by simp [thB]⟩
    simp only [List.mem_cons, List.mem_append]
    exact .inr (.inr (.inr (.inr (.inr hmem))))
  · rintro x w2 ⟨q, j, er, ho, rfl, hZ⟩
    refine ⟨q, j, er, ho, rfl, V9, Q9, V, ns, bf, hn, h1, h2, ?_⟩
    exact hZ
end
end Go.Proofs.YteefhiniamajkaaGreat
namespace Go.Proofs.YteefhiniamajkaaGreat
set_option linter.unusedVariables false
set_option linter.unusedSimpArgs false
open Go.RowKit Go.ChangeShapes Go.WideShapes Go.ChangeAt
set_option maxRecDepth 100000
attribute [local irreducible] FA FL
section
variable {S : List Nat} {W w w' : World} {D : Yl} {y y9 : Yd} {N : Nat} {D9 : Rl} {R : List Th} {K : Int}
theorem tw_pool (h : TW S W w D y N D9 y9 R) : Calls Tryz.prog 15 #[.pointer (some ⟨D.Y, 0, none⟩)] w fun x w' => x = .returned (.agg (FA 330 (pc y.h.pl))) ∧ TW S W w' D y N D9 y9 R := by
  obtain ⟨V9, Q9, h⟩ := h
  refine (ya_pool h).mono ?_
  rintro x w' ⟨rfl, hZ⟩
  exact ⟨rfl, V9, Q9, hZ⟩
theorem tw_rpool (h : TW S W w D y N D9 y9 R) : Calls Tryz.prog 16 #[.pointer (some ⟨D9.Y, 0, none⟩)] w fun x w' => x = .returned (.agg (FA 330 (pc y9.h.pl))) ∧ TW S W w' D y N D9 y9 R := by
  obtain ⟨T, h1, _, h3⟩ := h.ref
  refine (ra_pool h1).mono ?_
  rintro x w' ⟨rfl, hZ⟩
  exact ⟨rfl, h3 _ _ hZ⟩
theorem tw_notes (h : TW S W w D y N D9 y9 R) : Calls Tryz.prog 19 #[.pointer (some ⟨D.Y, 0, none⟩)] w fun x w' => x = .returned (.int .i64 (y.ns.length : Int)) ∧ w = w' := by
  obtain ⟨V9, Q9, h⟩ := h
  exact ya_notes h
theorem tw_rnotes (h : TW S W w D y N D9 y9 R) : Calls Tryz.prog 40 #[.pointer (some ⟨D9.Y, 0, none⟩)] w fun x w' => x = .returned (.int .i64 (y9.ns.length : Int)) ∧ w = w' := by
  obtain ⟨T, h1, _, h3⟩ := h.ref
  exact ra_notes h1
theorem tw_vers (S : List Nat) (W : World) (D : Yl) (y : Yd) (N : Nat) (D9 : Rl) (R : List Th) (i : Int) : ∃ (va : Int) (bu : Bool), (∀ w, TW S W w D y N D9 y R → Calls Tryz.prog 22 #[.pointer (some ⟨D.Y, 0, none⟩), .int .i64 i] w fun x w' => x = .returned (.tuple #[.int .i64 va, .bool bu]) ∧ TW S W w' D y N D9 y R) ∧ (∀ w, TW S W w D y N D9 y R → Calls Tryz.prog 39 #[.pointer (some ⟨D9.Y, 0, none⟩), .int .i64 i] w fun x w' => x = .returned (.tuple #[.int .i64 va, .bool bu]) ∧ TW S W w' D y N D9 y R) := by
  by_cases hb : 0 ≤ i ∧ i < y.h.un
  · obtain ⟨k, rfl⟩ : ∃ k : Nat, i = (k : Int) := ⟨i.toNat, by omega⟩
    have hk : k < y.h.un := by omega
    refine ⟨(if (y.uf k).up = true then (y.uf k).p.v else 0), (y.uf k).up, fun w h => ?_, fun w h => ?_⟩
    · have h' := h
      obtain ⟨V9, Q9, h⟩ := h
      refine (ya_ver h k hk).mono ?_
      rintro x w' ⟨rfl, hb⟩
      exact ⟨rfl, h'.below hb⟩
    · obtain ⟨T, h1, _, h3⟩ := h.ref
      refine (ra_ver h1 k hk).mono ?_
      rintro x w' ⟨rfl, hb⟩
      exact ⟨rfl, h.below hb⟩
  · refine ⟨0, false, fun w h => ?_, fun w h => ?_⟩
    · have h' := h
      obtain ⟨V9, Q9, h⟩ := h
      refine (ya_verN h i (by cases e : hasB i y.h.un with | false => rfl | true => (unfold hasB at e; simp at e; omega))).mono ?_
      rintro x w' ⟨rfl, rfl⟩
      exact ⟨rfl, h'⟩
    · obtain ⟨T, h1, _, h3⟩ := h.ref
      refine (ra_verN h1 i hb).mono ?_
      rintro x w' ⟨rfl, rfl⟩
      exact ⟨rfl, h⟩
set_option maxHeartbeats 16000000 in
theorem ysame_any (h : TW S W w D y N D9 y R) (u : Nat) (hu : u ≤ 100) : Calls Tryz.prog 17 #[.pointer (some ⟨D.Y, 0, none⟩), .pointer (some ⟨D9.Y, 0, none⟩), .int .i64 (u : Int)] w fun x w' => x = .returned (.bool true) ∧ TW S W w' D y N D9 y R := by
  have T0 := hid h
  clear h
  go_enter Tryz.func17, Tryz.ntmps17
  go_wp2_with fail
  go_loopw [7] (fun i wr => ∃ k : Nat, k ≤ u + 2 ∧ i = .int .i64 ((k : Int) - 1) ∧ TW S W wr D y N D9 y R) (fun i _ => (u + 2) - (intOf i + 1).toNat)
  case atStart => exact ⟨0, by omega, rfl, T0.out⟩
  case round =>
    clear T0
    obtain ⟨k, hk, rfl, hT⟩ := hrel
    have T1 := hid hT
    clear hT
    by_cases hlt : (k : Int) - 1 ≤ u
    · obtain ⟨va, bu, c1, c2⟩ := tw_vers S W D y N D9 R ((k : Int) - 1)
      have C1 := hid c1
      have C2 := hid c2
      clear c1 c2
      have x1 : IntKind.i64.wrap ((k : Int) - 1 + 1) = ((k + 1 : Nat) : Int) - 1 := by rw [IntWalk.i64_in _ (by omega)]; omega
      go_wp2_with fail
      refine (C1.out _ T1.out).mono ?_
      rintro x w2 ⟨rfl, hT⟩
      have T2 := hid hT
      clear hT T1 C1
      go_simp
      go_wp2_with fail
      refine (C2.out _ T2.out).mono ?_
      rintro x w3 ⟨rfl, hT⟩
      have T3 := hid hT
      clear hT T2 C2
      go_simp
      go_wp2_with fail
      go_roundw
      case rel => exact ⟨k + 1, by omega, by first | rfl | go_num, T3.out⟩
      case measure => simp [intOf]; omega
    · clear hk
      obtain ⟨n, hn⟩ : ∃ n, n = y.ns.length := ⟨_, rfl⟩
      have N1 := hid (tw_notes T1.out)
      have N2 := hid (tw_rnotes T1.out)
      rw [← hn] at N1 N2
      obtain ⟨p, hp⟩ : ∃ p, p = y.h.pl := ⟨_, rfl⟩
      have P1 := (fun w h => tw_pool (S := S) (W := W) (w := w) (D := D) (y := y) (N := N) (D9 := D9) (y9 := y) (R := R) h)
      have P2 := (fun w h => tw_rpool (S := S) (W := W) (w := w) (D := D) (y := y) (N := N) (D9 := D9) (y9 := y) (R := R) h)
      simp only [← hp] at P1 P2
      replace P1 := hid P1
      replace P2 := hid P2
      clear hn hp
      go_wp2_with fail
      refine N1.out.mono ?_
      rintro x w2 ⟨rfl, rfl⟩
      go_simp
      go_wp2_with fail
      refine N2.out.mono ?_
      rintro x w3 ⟨rfl, rfl⟩
      go_simp
      go_wp2_with fail
      refine (P1.out _ T1.out).mono ?_
      rintro x w4 ⟨rfl, hT⟩
      have T2 := hid hT
      clear hT T1 N1 N2 P1
      go_simp
      go_wp2_with fail
      refine (P2.out _ T2.out).mono ?_
      rintro x w5 ⟨rfl, hT⟩
      have T3 := hid hT
      clear hT T2 P2
      go_simp
      go_wp2_with ((with_reducible refine wl_id ?_); refine wl_ow rfl (ov_val (ex_eqFP _ _ rfl p rfl rfl _) ?_))
      go_ret
      exact ⟨rfl, T3.out⟩
end
end Go.Proofs.YteefhiniamajkaaGreat
namespace Go.Proofs.YteefhiniamajkaaGreat
set_option linter.unusedVariables false
set_option linter.unusedSimpArgs false
open Go.RowKit Go.ChangeShapes Go.WideShapes Go.ChangeAt
set_option maxRecDepth 100000
def g3 (e0 e1 e2 : En) (i : Nat) : En := if i = 0 then e0 else if i = 1 then e1 else e2
def f3 (e0 e1 e2 : En) (j : Nat) : Value := enc (g3 e0 e1 e2 (j / 7)) (j % 7)
theorem run_bs3 (e0 e1 e2 : En) (w : World) : (Instr.buildSlice 46 3 #[(0, enV e0), (1, enV e1), (2, enV e2)]).run Tryz.prog w = .ok (.slice (some ⟨w.heap.size, 0, none⟩) 3 3) (w.alloc (.cells (FA 21 (f3 e0 e1 e2)) 44)) := by
  obtain ⟨i0, hi, hz0, hz1, hz2⟩ := info_parts info_e
  refine run_buildSlice (P := Tryz.prog) w _ _ 3 _ (FA 21 (f3 e0 e1 e2)) i0 (.agg #[.int .i64 0, .int .i64 0, .int .i64 0, .int .i64 0, .int .i64 0, .int .u64 0, .int .u64 0]) Tryz.underlying46 hi hz0 (by rw [hz1]; omega) (by rw [hz1]; omega) ?_
  rw [hz1]
  kernel_rfl
theorem cut31 (G : Nat) (w : World) : (Instr.slice 46 (.slice (some ⟨G, 0, none⟩) 3 3) (some (.int .i64 1)) none none).run Tryz.prog w = .ok (.slice (some ⟨G, 7, none⟩) 2 2) w := by
  rw [run_slice_l w 46 (some ⟨G, 0, none⟩) 3 3 elem_e9 .i64 1 (by omega) (by omega), size_e9 w]
  simp [Result.andThen, sliced, Addr.add]
theorem se3 {w : World} {G : Nat} {e0 e1 e2 : En} (h : Fb w G 21 (f3 e0 e1 e2)) : Se w (some ⟨G, 0, none⟩) 3 (g3 e0 e1 e2) := fun _ => ⟨G, 0, rfl, h.1, fun j hj => by rw [Nat.zero_add]; exact h.2.1 j hj⟩
theorem se31 {w : World} {G : Nat} {e0 e1 e2 : En} (h : Fb w G 21 (f3 e0 e1 e2)) : Se w (some ⟨G, 7, none⟩) 2 (fun i => g3 e0 e1 e2 (1 + i)) := by
  intro _
  refine ⟨G, 7, rfl, h.1, fun j hj => ?_⟩
  rw [h.2.1 (7 + j) (by omega)]
  unfold f3
  rw [show (7 + j) / 7 = 1 + j / 7 by omega, show (7 + j) % 7 = j % 7 by omega]
theorem entry_ex (n : Int) (w : World) : Calls Tryz.prog 9 #[.int .i64 n] w fun x w' => ∃ e : En, x = .returned (enV e) ∧ Below w.heap.size w w' := (entry_any n w).mono fun _ _ h => ⟨_, h⟩
theorem wish_step {y : Yd} {K L : Int} {g : Nat → En} {n j : Nat} {a : Pl} {er : Int} (hF : Fit y K) (hq : QOK y.h) (hA : AllOut y.h.ah g n a j er) (hp : Pinv y.h.ah L) : Fit ⟨if er = 0 then { y.h with ah := a, q := y.h.q ++ (List.range n).map g } else y.h, y.uf, y.ns⟩ K ∧ QOK (if er = 0 then { y.h with ah := a, q := y.h.q ++ (List.range n).map g } else y.h) ∧ (if er = 0 then { y.h with ah := a, q := y.h.q ++ (List.range n).map g } else y.h).pl = y.h.pl ∧ (if er = 0 then { y.h with ah := a, q := y.h.q ++ (List.range n).map g } else y.h).q.length ≤ y.h.q.length + n ∧ Pinv (if er = 0 then { y.h with ah := a, q := y.h.q ++ (List.range n).map g } else y.h).ah (L + n) := by
  by_cases h0 : er = 0
  · subst h0
    simp only [if_pos (show (0 : Int) = 0 from rfl)]
    have hj : j = n := by
      rcases hA.2 with ⟨e1, _⟩ | ⟨_, _, e3⟩
      · exact e1
      · exact absurd rfl e3
    have hr := hA.1
    rw [hj] at hr
    exact ⟨hF.wish _ _, qok_wish hq hA, rfl, by simp, run_invY (k := n) hp hr⟩
  · simp only [if_neg h0]
    exact ⟨hF, hq, by trivial, by omega, hp.mono (by omega)⟩
section
variable {S : List Nat} {W w w' : World} {D : Yl} {y y9 : Yd} {N : Nat} {D9 : Rl} {R : List Th} {K : Int} {V : Value} {ns : List (Nat × Nt)} {bf : Nat → Nat × Nat × Nat} {hn : Nat}
theorem tw_start (h1 : hn ≤ N) (h2 : ns.map Prod.snd = y.ns) (hz : RA S W w D9 y9 (YL { D with V := V, ns := ns, bf := bf, hn := hn } y.h y.uf R)) : TW S W w D y N D9 y9 R := by
  obtain ⟨V8, Q8, hz⟩ := hz
  refine ⟨V8, Q8, V, ns, bf, hn, h1, h2, ?_⟩
  rw [RL_app, YL_app] at hz
  rw [YL_app, RL_app]
  exact hz.perm (swap_app _ _ _)
theorem tw_new (h : TW S W w D y N D9 y9 R) (t : Th) (hb : Below w.heap.size w w') (ht : t.at_ w') (hn : t.bs.Nodup) (hg : ∀ b, b ∈ t.bs → w.heap.size ≤ b) : TW S W w' D y N D9 y9 (t :: R) := by
  obtain ⟨V9, Q9, V, ns, bf, hn', h1, h2, h3⟩ := h
  refine ⟨V9, Q9, V, ns, bf, hn', h1, h2, ?_⟩
  have h4 := h3.new t hb ht hn hg
  rw [YL_app, RL_app] at h4
  rw [YL_app, RL_app]
  refine h4.perm ?_
  rw [← List.append_assoc, ← List.append_assoc]
  exact List.perm_middle.symm
variable {Q : Exit → Act → World → Prop} {o : Oper} {a : Act} {KK : Act → World → Prop}
theorem ow_bs3 {x0 x1 x2 : Operand} {e0 e1 e2 : En} (ho : o.op = .buildSlice 46 3 #[(0, x0), (1, x1), (2, x2)]) (h0 : a.eval x0 = enV e0) (h1 : a.eval x1 = enV e1) (h2 : a.eval x2 = enV e2) (hT : TW S W w D y N D9 y9 R)
    (h : ∀ G w', TW S W w' D y N D9 y9 (thB G 21 (f3 e0 e1 e2) :: R) → KK (a.put o.dst (.slice (some ⟨G, 0, none⟩) 3 3)) w') : o.wp Tryz.prog a w KK Q := by
  refine ow_val (v := .slice (some ⟨w.heap.size, 0, none⟩) 3 3) (w' := w.alloc (.cells (FA 21 (f3 e0 e1 e2)) 44)) ?_ (h _ _ (tw_new hT (thB w.heap.size 21 (f3 e0 e1 e2)) ((Below.refl _ _).alloc (Nat.le_refl _) _) (Fb.made rfl) (by simp [thB]) (fun b hb => by simp [thB] at hb; omega)))
  unfold execOp
  simp only [ho, List.map_toArray, List.map_cons, List.map_nil, h0, h1, h2, Sem.run_bind, run_bs3, Result.andThen_ok, Sem.run_pure]
theorem tw_settle {B n : Nat} (h : TW S W w D y N D9 y9 R) (hF : Fit y K) (hK : K ≤ 10000) (hN : N ≤ 100000) (hns : y.ns.length ≤ B) (hB : B ≤ 10000) (hn : n ≤ 100) : Calls Tryz.prog 12 #[.pointer (some ⟨D.Y, 0, none⟩), .int .i64 (n : Int)] w fun x w' => x = .returned (.tuple #[]) ∧ TW S W w' D (setl n y) (N + 101 * n) D9 y9 R := by
  obtain ⟨V9, Q9, h⟩ := h
  refine (settle_any h hF hK hN hns hB hn).mono ?_
  rintro x w' ⟨rfl, hZ⟩
  exact ⟨rfl, V9, Q9, hZ⟩
theorem tw_rwish (h : TW S W w D y N D9 y9 R) (g : Nat → En) (G off : Nat) (k cc : Nat) (hA : Se w (some ⟨G, off, none⟩) k g) (hr : y9.h.q.length + k ≤ 200) (hp : Pinv y9.h.pl K) (hK : K ≤ 100000) {aa : Pl} {j : Nat} {er : Int} (hq : QOK y9.h) (hO : AllOut y9.h.ah g k aa j er) : Calls Tryz.prog 11 #[.pointer (some ⟨D9.Y, 0, none⟩), .slice (some ⟨G, off, none⟩) k cc] w fun x w' => x = .returned (.int .i64 er) ∧ TW S W w' D y N D9 ⟨if er = 0 then { y9.h with ah := aa, q := y9.h.q ++ (List.range k).map g } else y9.h, y9.uf, y9.ns⟩ R := by
  obtain ⟨T, h1, _, h3⟩ := h.ref
  refine (ra_wish h1 (some ⟨G, off, none⟩) k cc g hA hr hp hK).mono ?_
  rintro x w' ⟨q', k', er', rfl, hA', hR⟩
  obtain ⟨_, _, e⟩ := hA'.uniq (comb_all hq hO)
  subst e
  exact ⟨rfl, h3 _ _ (hR aa)⟩
theorem tw_rtick (h : TW S W w D y N D9 y9 R) (hF : Fit y9 K) (hK : K ≤ 100000) (hq : QOK y9.h) (hlq : y9.h.q.length ≤ 1000) (hn : y9.ns.length ≤ 900000) : Calls Tryz.prog 13 #[.pointer (some ⟨D9.Y, 0, none⟩)] w fun x w' => x = .returned (.int .i64 ((tickY y9).ns.length : Int)) ∧ TW S W w' D y N D9 (tickY y9) R := by
  obtain ⟨T, h1, _, h3⟩ := h.ref
  refine (ra_tickF h1 hF hK hq hlq hn).mono ?_
  rintro x w' ⟨rfl, hZ⟩
  exact ⟨rfl, h3 _ _ hZ⟩
theorem tw_rdel (h : TW S W w D y N D9 y9 R) (hF : Fit y9 K) (hK : K ≤ 100000) (hns : y9.ns.length ≤ 900000) (hi : 0 < y9.ns.length) : Calls Tryz.prog 14 #[.pointer (some ⟨D9.Y, 0, none⟩), .int .i64 0, .bool false] w fun x w' => x = .returned (.bool true) ∧ TW S W w' D y N D9 (delY y9 0 false) R := by
  obtain ⟨T, h1, _, h3⟩ := h.ref
  refine Calls.mono (ra_delF h1 hF hK hns 0 hi) ?_
  rintro x w' ⟨rfl, hZ⟩
  exact ⟨rfl, h3 _ _ hZ⟩
theorem tw_rdelN (h : TW S W w D y N D9 y9 R) (h0 : y9.ns.length = 0) : Calls Tryz.prog 14 #[.pointer (some ⟨D9.Y, 0, none⟩), .int .i64 0, .bool false] w fun x w' => x = .returned (.bool false) ∧ TW S W w' D y N D9 y9 R := by
  obtain ⟨T, h1, _, h3⟩ := h.ref
  refine Calls.mono (ra_delN h1 h0) ?_
  rintro x w' ⟨rfl, rfl⟩
  exact ⟨rfl, h⟩
end
end Go.Proofs.YteefhiniamajkaaGreat
