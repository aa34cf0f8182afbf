/- A stamp out, and in again. -/
import Derived.Test.YtomlpkojnipkhaaGreatGa
import Derived.Test.YtomlpkojnipkhaaGreatTopPk
import Derived.BigQuiet
import Derived.Deep.RegionHeld3
import Derived.Deep.Cut
import Derived.IntWalk
namespace Go.Proofs.YtomlpkojnipkhaaGreat
set_option linter.unusedVariables false
set_option linter.unusedSimpArgs false
open Go.RowKit Go.ChangeShapes Go.WideShapes Go.ChangeAt
/-- What a backend sends; what a unit makes of it; what the client sends back; what comes to the backend. -/
def xO (A P T v k : Int) : Pk := { kind := 1, life := 9, src := A, dst := 5000, fp := P, tp := T, flags := 2, no := 12, go := mkBO v k }
def xW (T z k : Int) : Pk := { kind := 1, life := 8, src := 10, dst := 5000, fp := 80, tp := T, flags := 2, no := 12, go := mkBO z k }
def xI (T z : Int) : Pk := { kind := 1, life := 9, src := 5000, dst := 10, fp := T, tp := 80, flags := 2, no := 12, go := mkBO 9 z }
def xB (T a b y : Int) : Pk := { kind := 1, life := 8, src := 5000, dst := a, fp := T, tp := b, flags := 2, no := 12, go := mkBO 9 y }
theorem c0B_ : IsB (fun _ => (0 : Int)) := fun _ => ⟨(by decide : (0 : Int) ≤ 0), (by decide : (0 : Int) ≤ 255)⟩
theorem st_E {x : Pk} (k : x.kind = 1) (l : 0 ≤ x.life ∧ x.life ≤ 255) (pc : x.piece = 0) (a : 0 ≤ x.src ∧ x.src ≤ 4294967295) (b : 0 ≤ x.dst ∧ x.dst ≤ 4294967295) (c : 0 ≤ x.fp ∧ x.fp ≤ 65535) (d : 0 ≤ x.tp ∧ x.tp ≤ 65535) (f : 0 ≤ x.flags ∧ x.flags ≤ 15) (n : x.no ≤ 40) (m : x.nd ≤ 1000) : buildE x = 0 := by
  have hL : lenP x ≤ 1500 := by unfold lenP; rw [k, if_neg (by decide), if_neg (by decide)]; omega
  have hr : rangeB x = true := by
    unfold rangeB inR
    rw [k, pc, if_neg (by decide), if_neg (by decide)]
    simp
    omega
  unfold buildE
  rw [hr, k, if_neg (by decide), if_neg (by simp), if_neg (by omega), if_neg (by omega)]
theorem xO_E {A P T v k : Int} (hA : 0 ≤ A ∧ A ≤ 4294967295) (hP : 0 ≤ P ∧ P ≤ 65535) (hT : 0 ≤ T ∧ T ≤ 65535) : buildE (xO A P T v k) = 0 :=
  st_E rfl (by show (0 : Int) ≤ 9 ∧ (9 : Int) ≤ 255; decide) rfl hA (by show (0 : Int) ≤ 5000 ∧ (5000 : Int) ≤ 4294967295; decide) hP hT (by show (0 : Int) ≤ 2 ∧ (2 : Int) ≤ 15; decide) (by show 12 ≤ 40; decide) (by show 0 ≤ 1000; decide)
theorem xI_E {T z : Int} (hT : 0 ≤ T ∧ T ≤ 65535) : buildE (xI T z) = 0 :=
  st_E rfl (by show (0 : Int) ≤ 9 ∧ (9 : Int) ≤ 255; decide) rfl (by show (0 : Int) ≤ 5000 ∧ (5000 : Int) ≤ 4294967295; decide) (by show (0 : Int) ≤ 10 ∧ (10 : Int) ≤ 4294967295; decide) hT (by show (0 : Int) ≤ 80 ∧ (80 : Int) ≤ 65535; decide) (by show (0 : Int) ≤ 2 ∧ (2 : Int) ≤ 15; decide) (by show 12 ≤ 40; decide) (by show 0 ≤ 1000; decide)
theorem x_clean {x : Pk} (k : x.kind = 1) (h1 : x.label = 0) (h2 : x.bare = false) (h3 : x.code = 0) : Clean x := ⟨fun h => absurd (k.symm.trans h) (by decide), fun h => absurd k h, fun _ => ⟨h1, h2⟩, fun _ => h3⟩
theorem tn4 : (4 : Int).toNat = 4 := rfl
theorem ret_out {p : Pl} (hp : Pt p) (ha : p.a = 10) (hpp : p.p = 80) {A P T v k : Int} (hA : 0 ≤ A ∧ A ≤ 4294967295) (hP : 0 ≤ P ∧ P ≤ 65535) (hT : 0 ≤ T ∧ T ≤ 65535) (hv : U32 v) (hk : U32 k) {nr : Nat → Option Int} {s : Nat} (hf : findO p A P = some s) {c : Int} (hc : c = cok 4096 p.r.c 1 ⟨5000, T, 10, 80⟩ s (p.r.e % 4)) (hcb : 0 ≤ c ∧ c < 1048576) :
    ∃ F, takeT p true nr (builtF (xO A P T v k)) 36 = ⟨0, -1, false, 36, F, setN nr s v⟩ ∧ IsB F ∧ parseE F 36 = 0 ∧ Pe (parseR F 36) (xW T (putV v c) k) := by
  have hE := xO_E (v := v) (k := k) hA hP hT
  have hgo : IsB (xO A P T v k).go := mkB_B hv hk
  have hgd : IsB (xO A P T v k).gd := c0B_
  have hq := built_parseE hgd hgo hE
  have pe := built_parse hgd hgo hE (x_clean rfl rfl rfl rfl)
  have hL : lenP (xO A P T v k) = 36 := rfl
  have hg := builtF_B hgd hgo hE
  rw [hL] at hq pe
  have hst : stO (xO A P T v k) = (4, v, k, true) := stamp_mk0 hv hk
  have hu : U32 (putV v c) := by
    unfold U32 at hv ⊢
    unfold putV
    omega
  have hok : okC p (xO A P T v k) s = c := by
    unfold okC flP
    rw [hc, ha, hpp]
    rfl
  obtain ⟨q1, q2, q3, q4, q5⟩ := an_read (s := true) (ad := p.a) (po := p.p) hg hq pe (by show (1 : Int) < 9; decide) (by show (1 : Int) ≠ 3; decide) (by rw [ha]; decide) (by rw [hpp]; decide)
  have e0 : builtF (xO A P T v k) 0 = 1 := pe_kind hq pe
  rw [e0] at q5
  have hw := wr_opt (i := 4) (v := putV v c) q1 q5 (by rw [q3.no]; show 8 ≤ 12; decide)
  refine ⟨wrF (natF (ageF (builtF (xO A P T v k))) 36 true p.a p.p) 36 (24 + 4) 4 (putV v c), ?_, wr_B q2 _ _ _ _, wr_parse (by omega) q1, ?_⟩
  · rw [take_out hq pe rfl (by show (1 : Int) < 9; decide) (by show (1 : Int) ≠ 3; decide) (by rw [ha]; intro h; exact absurd h.1 (by show ¬ (5000 : Int) = 10; decide)) hf]
    unfold outT
    dsimp only
    rw [if_neg (by show ¬ (1 : Int) = 2; decide), hst, if_pos rfl, hok]
    rfl
  · refine pe_trans hw (pe_trans (pe_go q3) ⟨rfl, rfl, rfl, by show p.a = 10; exact ha, rfl, by show p.p = 80; exact hpp, rfl, rfl, rfl, rfl, rfl, rfl, fun j hj => ?_, rfl, fun j hj => rfl⟩)
    exact put_mk4 hu j hj
/-- What comes back: to the slot of its cookie, its echo as it was. -/
theorem ret_in {p : Pl} (hp : Pt p) (ha : p.a = 10) (hpp : p.p = 80) {T z c n2 : Int} {s : Nat} (hs : s < 64) (hT : 0 ≤ T ∧ T ≤ 65535) (hz : U32 z) (hzc : z % 1048576 = c) (hc : c = cok 4096 p.r.c 1 ⟨5000, T, 10, 80⟩ s (p.r.e % 4)) (ht : takesB (p.s s).st = true) {nr : Nat → Option Int} (hn : nr s = some n2) :
    ∃ F, takeT p true nr (builtF (xI T z)) 36 = ⟨0, s, true, 36, F, nr⟩ ∧ IsB F ∧ parseE F 36 = 0 ∧ Pe (parseR F 36) (xB T (p.s s).ad (p.s s).po (if z = 0 then 0 else backV z n2)) := by
  have hE := xI_E (z := z) hT
  have h9 : U32 9 := ⟨by decide, by decide⟩
  have hgo : IsB (xI T z).go := mkB_B h9 hz
  have hgd : IsB (xI T z).gd := c0B_
  have hq := built_parseE hgd hgo hE
  have pe := built_parse hgd hgo hE (x_clean rfl rfl rfl rfl)
  have hL : lenP (xI T z) = 36 := rfl
  have hg := builtF_B hgd hgo hE
  rw [hL] at hq pe
  have hst : stO (xI T z) = (4, 9, z, true) := stamp_mk0 h9 hz
  have hsp := hp.1 s hs
  have hca : carT (xI T z) = some c := by
    unfold carT
    rw [if_neg (by show ¬ (1 : Int) = 2; decide), if_neg (by show ¬ (2 : Int) = 1; decide), hst, if_pos rfl, hzc]
  have hrd : readC 4096 p.r 1 ⟨5000, T, 10, 80⟩ c = some (s : Int) := by
    rw [hc]
    exact read_cok 4096 p.r p.r.c 1 ⟨5000, T, 10, 80⟩ s (p.r.e % 4) (.inl rfl) (by omega) (by omega) (keyOf_now p.r)
  have hby : byT p (xI T z) = some (s : Int) := by
    unfold byT
    rw [hca]
    show (readC 4096 p.r 1 ⟨5000, T, p.a, p.p⟩ c).bind _ = _
    rw [ha, hpp, hrd]
    show (if takesB (p.s s).st = true then some (s : Int) else none) = _
    rw [if_pos ht]
  have hsl : slT p (xI T z) = s := by unfold slT; rw [hby]; rfl
  obtain ⟨q1, q2, q3, q4, q5⟩ := an_read (s := false) (ad := (p.s s).ad) (po := (p.s s).po) hg hq pe (by show (1 : Int) < 9; decide) (by show (1 : Int) ≠ 3; decide) hsp.1 hsp.2.1
  have e0 : builtF (xI T z) 0 = 1 := pe_kind hq pe
  rw [e0] at q5
  have hT0 : takeT p true nr (builtF (xI T z)) 36 = ⟨0, s, true, 36, inG p nr (builtF (xI T z)) 36 (xI T z) s, nr⟩ := by
    rw [take_in hq pe rfl (by show (1 : Int) < 9; decide) (by show (1 : Int) ≠ 3; decide) ⟨ha.symm, hpp.symm⟩]
    unfold inT
    rw [hsl, hby, if_neg (by omega)]
    rfl
  by_cases h0 : z = 0
  · refine ⟨natF (ageF (builtF (xI T z))) 36 false (p.s s).ad (p.s s).po, ?_, q2, q1, ?_⟩
    · rw [hT0]
      unfold inG
      rw [hst]
      dsimp only
      rw [if_neg (fun h => h.2 h0)]
    · rw [if_pos h0]
      subst h0
      exact pe_trans q3 ⟨rfl, rfl, rfl, rfl, rfl, rfl, rfl, rfl, rfl, rfl, rfl, rfl, fun _ _ => rfl, rfl, fun _ _ => rfl⟩
  · have hbu : U32 (backV z n2) := by unfold U32 backV; omega
    have hw := wr_opt (i := 8) (v := backV z n2) q1 q5 (by rw [q3.no]; show 12 ≤ 12; decide)
    refine ⟨wrF (natF (ageF (builtF (xI T z))) 36 false (p.s s).ad (p.s s).po) 36 (24 + 8) 4 (backV z n2), ?_, wr_B q2 _ _ _ _, wr_parse (by omega) q1, ?_⟩
    · rw [hT0]
      unfold inG
      rw [hst]
      dsimp only
      rw [if_pos ⟨rfl, h0⟩]
      unfold backT
      rw [hn]
      rfl
    · rw [if_neg h0]
      refine pe_trans hw (pe_trans (pe_go q3) ⟨rfl, rfl, rfl, rfl, rfl, rfl, rfl, rfl, rfl, rfl, rfl, rfl, fun j hj => ?_, rfl, fun j hj => rfl⟩)
      exact put_mk8 hbu j hj
theorem put_mod {v c : Int} (hc : 0 ≤ c ∧ c < 1048576) : putV v c % 1048576 = c := by unfold putV; omega
theorem back_near {v c d : Int} (hv : U32 v) (hc : 0 ≤ c ∧ c < 1048576) (hd : 0 ≤ d ∧ d < 262144) : backV (putV v c) ((v + d) % 4294967296) = near8 v := by
  unfold U32 at hv
  have e : putV v c / 1048576 = v / 256 % 4096 := by unfold putV; omega
  unfold backV backD
  rw [e]
  unfold near8
  omega
theorem find_some {p : Pl} {s : Nat} (hs : s < 64) (ht : takesB (p.s s).st = true) : ∃ k, findO p (p.s s).ad (p.s s).po = some k ∧ k < 64 ∧ takesB (p.s k).st = true ∧ (p.s k).ad = (p.s s).ad ∧ (p.s k).po = (p.s s).po := by
  have hm : tkS p (p.s s).ad (p.s s).po s = true := by unfold tkS; rw [ht]; simp
  cases hf : findO p (p.s s).ad (p.s s).po with
  | none =>
    unfold findO at hf
    have := List.find?_eq_none.1 hf s (by simp; omega)
    rw [hm] at this
    exact absurd rfl this
  | some k =>
    have h1 := find_lt hf
    unfold findO at hf
    have h2 := List.find?_some hf
    unfold tkS at h2
    simp at h2
    refine ⟨k, rfl, h1, ?_, ?_, ?_⟩ <;> (first | exact h2.1 | exact h2.1.1 | exact h2.1.2 | exact h2.2.1 | exact h2.2.2 | exact h2.2)
theorem x_B {x : Pk} (hgd : IsB x.gd) (hgo : IsB x.go) (hE : buildE x = 0) : IsB (builtF x) := builtF_B hgd hgo hE
theorem x_0 {x : Pk} (h : x.kind = 1) : builtF x 0 = 1 := by rw [built_hd (by omega), raw_0, h]
theorem mk_u {v d : Int} (hv : U32 v) (hd : 0 ≤ d) : U32 ((v + d) % 4294967296) := by unfold U32; omega
/-- The whole way of a stamp. -/
theorem ret_all {p : Pl} (hp : Pt p) (ha : p.a = 10) (hpp : p.p = 80) {s : Nat} (hs : s < 64) (ht : takesB (p.s s).st = true) {v d T : Int} (hv : U32 v) (hd : 0 ≤ d ∧ d < 262144) (hT : 0 ≤ T ∧ T ≤ 65535) :
    ∃ (k : Nat) (z y : Int) (F1 F2 F3 : Nat → Int) (nr1 nr2 : Nat → Option Int), U32 z ∧ U32 y ∧ (z ≠ 0 → y = near8 v) ∧ Nt32 nr1 ∧ Nt32 nr2 ∧
      takeT p true (fun _ => none) (builtF (xO (p.s s).ad (p.s s).po T v 3)) 36 = ⟨0, -1, false, 36, F1, nr1⟩ ∧ IsB F1 ∧ parseE F1 36 = 0 ∧ Pe (parseR F1 36) (xW T z 3) ∧
      takeT p true nr1 (builtF (xO (p.s s).ad (p.s s).po T ((v + d) % 4294967296) 4)) 36 = ⟨0, -1, false, 36, F2, nr2⟩ ∧
      takeT p true nr2 (builtF (xI T z)) 36 = ⟨0, k, true, 36, F3, nr2⟩ ∧ IsB F3 ∧ parseE F3 36 = 0 ∧ Pe (parseR F3 36) (xB T (p.s s).ad (p.s s).po y) := by
  obtain ⟨k, hf, hk, htk, e1, e2⟩ := find_some hs ht
  have hsp := hp.1 s hs
  obtain ⟨c, hc⟩ : ∃ c, c = cok 4096 p.r.c 1 ⟨5000, T, 10, 80⟩ k (p.r.e % 4) := ⟨_, rfl⟩
  have hcp := cok_parts 4096 p.r.c 1 ⟨5000, T, 10, 80⟩ k (p.r.e % 4) (.inl rfl) (by omega) (by omega)
  rw [← hc] at hcp
  have hcb : 0 ≤ c ∧ c < 1048576 := by obtain ⟨_, _, _, h0, h1⟩ := hcp; omega
  have hv2 := mk_u hv hd.1
  have hz : U32 (putV v c) := by unfold U32 at hv ⊢; unfold putV; omega
  obtain ⟨F1, t1, b1, q1, p1⟩ := ret_out (v := v) (k := 3) (nr := fun _ => none) hp ha hpp hsp.1 hsp.2.1 hT hv ⟨by decide, by decide⟩ hf hc hcb
  obtain ⟨F2, t2, _, _, _⟩ := ret_out (v := (v + d) % 4294967296) (k := 4) (nr := setN (fun _ => none) k v) hp ha hpp hsp.1 hsp.2.1 hT hv2 ⟨by decide, by decide⟩ hf hc hcb
  obtain ⟨F3, t3, b3, q3, p3⟩ := ret_in (z := putV v c) (n2 := (v + d) % 4294967296) (nr := setN (setN (fun _ => none) k v) k ((v + d) % 4294967296)) hp ha hpp hk hT hz (put_mod hcb) hc htk (by unfold setN; rw [if_pos rfl])
  rw [e1, e2] at p3
  have n1 : Nt32 (setN (fun _ => none) k v) := fun j x h => by
    unfold setN at h
    split at h
    · injection h with h; rw [← h]; exact hv
    · cases h
  have n2 : Nt32 (setN (setN (fun _ => none) k v) k ((v + d) % 4294967296)) := fun j x h => by
    unfold setN at h
    split at h
    · injection h with h; rw [← h]; exact hv2
    · cases h
  refine ⟨k, putV v c, _, F1, F2, F3, _, _, hz, ?_, ?_, n1, n2, t1, b1, q1, p1, t2, t3, b3, q3, p3⟩
  · split
    · exact ⟨by decide, by decide⟩
    · unfold U32 backV; omega
  · intro h
    rw [if_neg h]
    exact back_near hv hcb hd
end Go.Proofs.YtomlpkojnipkhaaGreat
