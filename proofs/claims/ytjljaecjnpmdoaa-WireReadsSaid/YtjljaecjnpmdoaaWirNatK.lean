/- What Nat keeps. -/
import Derived.Test.YtjljaecjnpmdoaaWirAge
import Derived.BigQuiet
import Derived.Deep.RegionHeld3
import Derived.Deep.Cut
namespace Go.Proofs.Ytjljaecjnpmdoaa
set_option linter.unusedVariables false
set_option linter.unusedSimpArgs false
open Go.RowKit Go.ChangeShapes Go.WideShapes Go.ChangeAt

/-- Where a place stands. -/
def aA (s : Bool) : Nat := if s = true then 4 else 8
def pA (s : Bool) : Nat := if s = true then 16 else 18
theorem natP_eq (g : Nat → Int) (s : Bool) (ad po : Int) : natP g s ad po = putF (putF g (aA s) 4 ad) (pA s) 2 po := by cases s <;> rfl
theorem aA_or (s : Bool) : aA s = 4 ∧ pA s = 16 ∨ aA s = 8 ∧ pA s = 18 := by cases s; exact .inr ⟨rfl, rfl⟩; exact .inl ⟨rfl, rfl⟩
theorem natF_eq (g : Nat → Int) (L : Nat) (s : Bool) (ad po : Int) : natF g L s ad po = if bareF g = true then tbody 14 L g 2 (aA s) (natP g s ad po) else fillF (tbody 22 L g 1 (pA s) (tbody 22 L g 2 (aA s) (tbody 14 L g 2 (aA s) (natP g s ad po)))) := by cases s <;> rfl
theorem natE_0 {g : Nat → Int} {L : Nat} {ad po : Int} (h : natE g L ad po = 0) : parseE g L = 0 ∧ g 0 ≠ 3 ∧ inR ad 4294967295 = true ∧ inR po 65535 = true := by
  unfold natE at h
  split at h
  · contradiction
  · rename_i hp
    split at h
    · cases h
    · rename_i h3
      split at h
      · rename_i hr
        simp at hr
        exact ⟨by simpa using hp, h3, hr.1, hr.2⟩
      · cases h
theorem natP_isB {g : Nat → Int} (hg : IsB g) (s : Bool) (ad po : Int) : IsB (natP g s ad po) := by rw [natP_eq]; exact putF_B (putF_B hg _ _ _) _ _ _
theorem nat_isB {g : Nat → Int} (hg : IsB g) (L : Nat) (s : Bool) (ad po : Int) : IsB (natF g L s ad po) := by
  rw [natF_eq]
  split
  · exact tbody_B _ _ _ (natP_isB hg _ _ _)
  · exact fillF_B (tbody_B _ _ _ (tbody_B _ _ _ (tbody_B _ _ _ (natP_isB hg _ _ _))))
/-- Away from its sums it is as laid. -/
theorem nat_at {g : Nat → Int} {L : Nat} {s : Bool} {ad po : Int} {j : Nat} (h : j < 14 ∨ 16 ≤ j) (h' : j < 22 ∨ 24 ≤ j) : natF g L s ad po j = natP g s ad po j := by
  rw [natF_eq]
  split
  · exact tbody_out h _ _ _
  · rw [fillF_out h', tbody_out h', tbody_out h', tbody_out h]
theorem natP_out {g : Nat → Int} {s : Bool} {ad po : Int} {j : Nat} (h : j < aA s ∨ aA s + 4 ≤ j) (h' : j < pA s ∨ pA s + 2 ≤ j) : natP g s ad po j = g j := by rw [natP_eq, putF_out h', putF_out h]
theorem nat_bare {g : Nat → Int} {L : Nat} {s : Bool} {ad po : Int} : bareF (natF g L s ad po) = bareF g := by
  have ha := aA_or s
  rw [natF_eq]
  split
  · have o : ∀ j, (j = 0 ∨ j = 22 ∨ j = 23) → tbody 14 L g 2 (aA s) (natP g s ad po) j = g j := fun j hj => by rw [tbody_out (by omega), natP_out (by omega) (by omega)]
    exact bare_ext (o 0 (by omega)) (o 22 (by omega)) (o 23 (by omega))
  · rename_i hb
    rw [bare_fill]
    simpa using hb
theorem dP_ext {g x y : Nat → Int} {L q : Nat} (h0 : x (2 * q) = y (2 * q)) (h1 : 2 * q + 1 < L → x (2 * q + 1) = y (2 * q + 1)) (hq : 2 * q < L) : dP g x L q = dP g y L q := by
  unfold dP
  rw [pairF_ext (x := x) (y := y) h0 h1 hq]
theorem nat_head {g : Nat → Int} {L : Nat} {s : Bool} {ad po : Int} (hg : IsB g) (hL : 24 ≤ L) : tot (natF g L s ad po) 16 % 65535 = tot g 16 % 65535 := by
  have ha := aA_or s
  have hx := natP_isB hg s ad po
  have e1 : tot (natF g L s ad po) 16 = tot (tbody 14 L g 2 (aA s) (natP g s ad po)) 16 := tot_ext _ _ _ fun j hj => by
    rw [natF_eq]
    split
    · rfl
    · rw [fillF_out (by omega), tbody_out (by omega), tbody_out (by omega)]
  obtain ⟨q, hq⟩ : ∃ q, aA s = 2 * q := ⟨aA s / 2, by omega⟩
  rw [e1, hq]
  have hmain := tbody_sum (F := fun x => tot x 16) (s := 14) (L := L) hg 7 rfl (by omega) (fun _ => True) (fun _ _ _ => trivial) (fun x v hB _ hv hv' => by
    have := tot_put2 x 7 v hv hv' 16 (by omega); exact this) 2 q (natP g s ad po) hx trivial (fun q' h1 h2 => by omega)
  rw [hmain]
  have e2 : tot (natP g s ad po) 16 = tot (putF g (aA s) 4 ad) 16 := tot_ext _ _ _ fun j hj => by rw [natP_eq, putF_out (by omega)]
  have e3 : dS (dP g (natP g s ad po) L) q 2 = dS (dP g (putF g (aA s) 4 ad) L) q 2 := dS_ext 2 q fun q' h1 h2 => dP_ext (by rw [natP_eq, putF_out (by omega)]) (fun _ => by rw [natP_eq, putF_out (by omega)]) (by omega)
  have hd := tot_diff (g := g) (x := putF g (aA s) 4 ad) (L := L) (a := q) (k := 2) (n := 8) (by omega) (by omega) (fun j hj => putF_out (by omega))
  rw [show min (2 * 8) L = 16 from by omega] at hd
  rw [e2, e3]
  omega
theorem nat_sum {g : Nat → Int} {L : Nat} {s : Bool} {ad po : Int} (hg : IsB g) (hL : 24 ≤ L) (hL' : L ≤ 1500) (h3 : g 0 ≠ 3) (hb : bareF g = false) :
    tot (sumF (natF g L s ad po) L) (sumN (natF g L s ad po) L) % 65535 = tot (sumF g L) (sumN g L) % 65535 := by
  have ha := aA_or s
  have hs : sumA (g 0) = 22 := by unfold sumA; rw [if_neg h3]
  have hx := natP_isB hg s ad po
  have hx0 : natP g s ad po 0 = g 0 := natP_out (by omega) (by omega)
  have hx2 : IsB (tbody 14 L g 2 (aA s) (natP g s ad po)) := tbody_B _ _ _ hx
  have o2 : ∀ j, (j < 14 ∨ 16 ≤ j) → tbody 14 L g 2 (aA s) (natP g s ad po) j = natP g s ad po j := fun j hj => tbody_out hj _ _ _
  obtain ⟨q, hq⟩ : ∃ q, aA s = 2 * q := ⟨aA s / 2, by omega⟩
  obtain ⟨r, hr⟩ : ∃ r, pA s = 2 * r := ⟨pA s / 2, by omega⟩
  rw [natF_eq, if_neg (by rw [hb]; decide), fill_sum (tbody_B _ _ _ (tbody_B _ _ _ hx2)) hL]
  have step := fun (k a : Nat) (x : Nat → Int) (hB : IsB x) (h0 : x 0 = g 0) (hk : ∀ q', a ≤ q' → q' < a + k → q' ≠ 11 ∧ 2 * q' < L) =>
    tbody_sum (F := fun x => tot (sumF x L) (sumN x L)) (s := 22) (L := L) hg 11 rfl (by omega) (fun x => x 0 = g 0) (fun x v h => by rw [putF_out (by omega)]; exact h)
      (fun x v hB hr hv hv' => by have := sum_put hB (n := L) v hv hv' hL; rw [hr, hs] at this; exact this) k a x hB h0 hk
  have y0 : tbody 14 L g 2 (aA s) (natP g s ad po) 0 = g 0 := by rw [o2 0 (by omega), hx0]
  have m1 := step 2 q (tbody 14 L g 2 (aA s) (natP g s ad po)) hx2 y0 (fun q' h1 h2 => by omega)
  have z0 : tbody 22 L g 2 (2 * q) (tbody 14 L g 2 (aA s) (natP g s ad po)) 0 = g 0 := by rw [tbody_out (by omega), y0]
  have m2 := step 1 r (tbody 22 L g 2 (2 * q) (tbody 14 L g 2 (aA s) (natP g s ad po))) (tbody_B _ _ _ hx2) z0 (fun q' h1 h2 => by omega)
  rw [hr]
  have e0 : tbody 22 L g 2 (aA s) (tbody 14 L g 2 (aA s) (natP g s ad po)) = tbody 22 L g 2 (2 * q) (tbody 14 L g 2 (aA s) (natP g s ad po)) := by rw [← hq]
  rw [e0, m2]
  have f1 : dS (dP g (tbody 14 L g 2 (aA s) (natP g s ad po)) L) q 2 = dS (dP g (natP g s ad po) L) q 2 := dS_ext 2 q fun q' h1 h2 => dP_ext (o2 _ (by omega)) (fun _ => o2 _ (by omega)) (by omega)
  have f2 : dS (dP g (tbody 22 L g 2 (2 * q) (tbody 14 L g 2 (aA s) (natP g s ad po))) L) r 1 = dS (dP g (natP g s ad po) L) r 1 := dS_ext 1 r fun q' h1 h2 => dP_ext (by rw [tbody_out (by omega), o2 _ (by omega)]) (fun _ => by rw [tbody_out (by omega), o2 _ (by omega)]) (by omega)
  have f3 : tot (sumF (tbody 14 L g 2 (aA s) (natP g s ad po)) L) (sumN (tbody 14 L g 2 (aA s) (natP g s ad po)) L) = tot (sumF (natP g s ad po) L) (sumN (natP g s ad po) L) := sumF_ext (o2 0 (by omega)) (fun j h1 h2 => o2 j (by omega)) (fun j h1 => o2 j (by omega))
  -- what was laid
  have d1 := tot_diff (g := g) (x := putF g (aA s) 4 ad) (L := L) (a := q) (k := 2) (n := (L + 1) / 2) (by omega) (by omega) (fun j hj => putF_out (by omega))
  have d2 := tot_diff (g := putF g (aA s) 4 ad) (x := natP g s ad po) (L := L) (a := r) (k := 1) (n := (L + 1) / 2) (by omega) (by omega) (fun j hj => by rw [natP_eq, putF_out (by omega)])
  rw [show min (2 * ((L + 1) / 2)) L = L from by omega] at d1 d2
  have f4 : dS (dP g (natP g s ad po) L) q 2 = dS (dP g (putF g (aA s) 4 ad) L) q 2 := dS_ext 2 q fun q' h1 h2 => dP_ext (by rw [natP_eq, putF_out (by omega)]) (fun _ => by rw [natP_eq, putF_out (by omega)]) (by omega)
  have f5 : dS (dP g (natP g s ad po) L) r 1 = dS (dP (putF g (aA s) 4 ad) (natP g s ad po) L) r 1 := dS_ext 1 r fun q' h1 h2 => by
    unfold dP
    rw [pairF_ext (x := putF g (aA s) 4 ad) (y := g) (putF_out (by omega)) (fun _ => putF_out (by omega)) (by omega)]
  have t4 : tot (natP g s ad po) 4 = tot g 4 := tot_ext _ _ _ fun j hj => natP_out (by omega) (by omega)
  have t12 : tot (natP g s ad po) 16 - tot (natP g s ad po) 12 = tot g 16 - tot g 12 := by
    have u1 := tot_split (natP g s ad po) 6 4
    have u2 := tot_split g 6 4
    have u3 : tot (fun j => natP g s ad po (2 * 6 + j)) 4 = tot (fun j => g (2 * 6 + j)) 4 := tot_ext _ _ _ fun j hj => natP_out (by omega) (by omega)
    rw [show 2 * 6 + 4 = 16 from rfl, show 2 * 6 = 12 from rfl] at u1 u2
    rw [show 2 * 6 = 12 from rfl] at u3
    omega
  have g1 := sum_tot (g := natP g s ad po) (n := L) (by rw [hx0]; exact h3) (by omega) hL'
  have g2 := sum_tot (g := g) (n := L) h3 (by omega) hL'
  rw [f1, f3] at m1
  rw [f2]
  rw [hx0] at g1
  omega
theorem nat_parse {g : Nat → Int} {L : Nat} {s : Bool} {ad po : Int} (hg : IsB g) (h : natE g L ad po = 0) : parseE (natF g L s ad po) L = 0 := by
  obtain ⟨hp, h3, _, _⟩ := natE_0 h
  obtain ⟨p1, p2⟩ := parseE_0 hp
  have pf := parse_facts hp
  have ha := aA_or s
  have o : ∀ j, (j < 4 ∨ j = 13 ∨ j = 20 ∨ j = 21) → natF g L s ad po j = g j := fun j hj => by rw [nat_at (by omega) (by omega), natP_out (by omega) (by omega)]
  have hb : bodyE (natF g L s ad po) L = bodyE g L := by
    unfold bodyE
    rw [o 0 (by omega), if_neg h3, if_neg h3, o 20 (by omega), o 21 (by omega)]
  unfold parseE
  rw [head_same (nat_isB hg _ _ _ _) hg p1 (o 0 (by omega)) (o 2 (by omega)) (o 3 (by omega)) (o 13 (by omega)) (nat_head hg pf.1), if_pos rfl, hb, p2]
theorem nat_whole {g : Nat → Int} {L : Nat} {s : Bool} {ad po : Int} (hg : IsB g) (h : natE g L ad po = 0) : wholeB (natF g L s ad po) L = wholeB g L := by
  obtain ⟨hp, h3, _, _⟩ := natE_0 h
  have pf := parse_facts hp
  have ha := aA_or s
  exact wholeB_of hg (nat_isB hg _ _ _ _) (by rw [nat_at (by omega) (by omega), natP_out (by omega) (by omega)]) pf.2.2.1 pf.1 (nat_parse hg h) hp nat_bare (fun hb => nat_sum hg pf.1 pf.2.1 h3 hb)
end Go.Proofs.Ytjljaecjnpmdoaa
