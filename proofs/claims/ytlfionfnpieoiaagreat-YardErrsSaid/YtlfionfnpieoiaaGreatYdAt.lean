/- A yard in a world, all its ways. -/
import Derived.Test.YtlfionfnpieoiaaGreatYdNew
import Derived.Test.YtlfionfnpieoiaaGreatYdNone
import Derived.Test.YtlfionfnpieoiaaGreatYdDelKA
import Derived.Test.YtlfionfnpieoiaaGreatYdDelDA
import Derived.Test.YtlfionfnpieoiaaGreatYdDelKM
import Derived.Test.YtlfionfnpieoiaaGreatYdDelDM
import Derived.Test.YtlfionfnpieoiaaGreatYdTick
import Derived.BigQuiet
import Derived.Deep.RegionHeld3
import Derived.Deep.Cut
import Derived.IntWalk
namespace Go.Proofs.YtlfionfnpieoiaaGreat
set_option linter.unusedVariables false
set_option linter.unusedSimpArgs false
open Go.RowKit Go.ChangeShapes Go.WideShapes Go.ChangeAt
set_option maxRecDepth 100000
attribute [local irreducible] FA FL
theorem fol_down {n : Nt} {u : Uy} (h : (folU n u).up = false) : folU n u = u := by
 unfold folU at h ⊢
 by_cases c1 : n.wh = true ∧ ver u < n.p.v
 ·rw [if_pos c1] at h; cases h
 ·rw [if_neg c1] at h ⊢
  by_cases c2 : n.wh = false ∧ ver u ≠ -1 ∧ n.v = ver u + 1
  ·rw [if_pos c2] at h ⊢
   by_cases c3 : (apR u.p n.e).2 = 0
   ·rw [if_pos c3] at h; cases h
   ·rw [if_neg c3]
  ·rw [if_neg c2]
theorem read_down {n : Nt} {u : Uy} (h : (readU n u).up = false) : readU n u = u := by
 unfold readU at h ⊢
 by_cases c : n.b = u.b
 ·rw [if_pos c] at h ⊢; exact fol_down h
 ·rw [if_neg c]
theorem pb_zero : PB zPl := ⟨⟨by show (-1152921504606846976 : Int) ≤ 0; omega, by show (0 : Int) ≤ 1152921504606846976; omega⟩, by unfold Ep zPl; constructor <;> decide, fun i hi => ⟨by show (-1152921504606846976 : Int) ≤ 0; omega, by show (0 : Int) ≤ 1152921504606846976; omega⟩⟩
/-- What holds of a yard, and how far it went. -/
def Fit (y : Yd) (K : Int) : Prop := YdOk y ∧ (1 ≤ y.h.un ∧ y.h.un ≤ 16) ∧ y.h.pl.v ≤ K ∧ ∀ i, i < y.h.un → (0 ≤ (y.uf i).b ∧ (y.uf i).b ≤ K) ∧ ((y.uf i).up = false → (y.uf i).p = zPl)
theorem good.pb {p : Pl} (h : good p) (hv : p.v ≤ 100000) : PB p := h.1.pb (by omega)
section
variable {y : Yd} {K : Int}
theorem Fit.mono {L : Int} (h : Fit y K) (hl : K ≤ L) : Fit y L := ⟨h.1, h.2.1, by have := h.2.2.1; omega, fun i hi => ⟨⟨(h.2.2.2 i hi).1.1, by have := (h.2.2.2 i hi).1.2; omega⟩, (h.2.2.2 i hi).2⟩⟩
theorem Fit.pb (h : Fit y K) (hK : K ≤ 100000) : PB y.h.pl := h.1.1.pb (by have := h.2.2.1; omega)
theorem Fit.unit (h : Fit y K) (hK : K ≤ 100000) {i : Nat} (hi : i < y.h.un) : PB (y.uf i).p := by
 cases hup : (y.uf i).up with
 | true =>
   obtain ⟨g1, g2, _⟩ := (h.1.2.1 i hi).2.2.2 hup
   exact g1.pb (by have := h.2.2.1; omega)
 | false => rw [(h.2.2.2 i hi).2 hup]; exact pb_zero
theorem Fit.new {p : Pl} {u : Nat} (hp : good p) (hu : 1 ≤ u ∧ u ≤ 16) (hv : p.v ≤ K) : Fit (newY p u) K := ⟨newY_ok hp, hu, hv, fun i hi => ⟨⟨Int.le_refl _, by have := hp.v; show (0 : Int) ≤ K; omega⟩, fun _ => rfl⟩⟩
theorem Fit.tick (h : Fit y K) : Fit (tickY y) (K + 1) := by
 obtain ⟨_, _, _, h4⟩ := h.1.send
 have hun : (tickY y).h.un = y.h.un := sendH_un y.h
 refine ⟨h.1.tick, by rw [hun]; exact h.2.1, by have := h.2.2.1; show (sendH y.h).pl.v ≤ K + 1; omega, fun i hi => ?_⟩
 rw [hun] at hi
 exact ⟨⟨(h.2.2.2 i hi).1.1, by have := (h.2.2.2 i hi).1.2; show (y.uf i).b ≤ K + 1; omega⟩, (h.2.2.2 i hi).2⟩
theorem Fit.crash (h : Fit y K) {i : Nat} (hi : i < y.h.un) : Fit (crY y i) (K + 1) := by
 refine ⟨h.1.crash hi, h.2.1, by have := h.2.2.1; show y.h.pl.v ≤ K + 1; omega, fun j hj => ?_⟩
 obtain ⟨⟨b1, b2⟩, b3⟩ := h.2.2.2 j hj
 show (0 ≤ (setU y.uf i (crU (y.uf i)) j).b ∧ (setU y.uf i (crU (y.uf i)) j).b ≤ K + 1) ∧ ((setU y.uf i (crU (y.uf i)) j).up = false → (setU y.uf i (crU (y.uf i)) j).p = zPl)
 unfold setU
 by_cases e : j = i
 ·subst e
  rw [if_pos rfl]
  exact ⟨⟨by show 0 ≤ (y.uf j).b + 1; omega, by show (y.uf j).b + 1 ≤ K + 1; omega⟩, fun _ => rfl⟩
 ·rw [if_neg e]
  exact ⟨⟨b1, by omega⟩, b3⟩
theorem delY_some {i : Nat} {k : Bool} {n : Nt} (hn : y.ns[i]? = some n) : delY y i k = getY y n (dropL y.ns i k) := by unfold delY; rw [hn]
theorem delY_none {i : Nat} {k : Bool} (hn : y.ns[i]? = none) : delY y i k = y := by unfold delY; rw [hn]
theorem Fit.del (h : Fit y K) (i : Nat) (k : Bool) : Fit (delY y i k) K := by
 refine ⟨h.1.deliver i k, ?_⟩
 cases hn : y.ns[i]? with
 | none => rw [delY_none hn]; exact h.2
 | some n =>
   rw [delY_some hn]
   unfold getY
   by_cases ha : n.ak = true
   ·rw [if_pos ha]
    have hun : (heardH y.h n).un = y.h.un := heardH_un _ _
    have hpl : (heardH y.h n).pl = y.h.pl := by
     unfold heardH
     split
     ·split <;> rfl
     ·rfl
    refine ⟨by show 1 ≤ (heardH y.h n).un ∧ (heardH y.h n).un ≤ 16; rw [hun]; exact h.2.1, by show (heardH y.h n).pl.v ≤ K; rw [hpl]; exact h.2.2.1, fun j hj => ?_⟩
    have hj' : j < y.h.un := by have : j < (heardH y.h n).un := hj; rwa [hun] at this
    exact h.2.2.2 j hj'
   ·rw [if_neg ha]
    refine ⟨h.2.1, h.2.2.1, fun j hj => ?_⟩
    show (0 ≤ (setU y.uf n.u.toNat (readU n (y.uf n.u.toNat)) j).b ∧ (setU y.uf n.u.toNat (readU n (y.uf n.u.toNat)) j).b ≤ K) ∧ ((setU y.uf n.u.toNat (readU n (y.uf n.u.toNat)) j).up = false → (setU y.uf n.u.toNat (readU n (y.uf n.u.toNat)) j).p = zPl)
    unfold setU
    by_cases e : j = n.u.toNat
    ·rw [if_pos e, ← e]
     refine ⟨by rw [read_bY]; exact (h.2.2.2 j hj).1, fun hup => ?_⟩
     have e3 := read_down hup
     rw [e3] at hup ⊢
     exact (h.2.2.2 j hj).2 hup
    ·rw [if_neg e]
     exact h.2.2.2 j hj
end
/-- A yard that lies there. -/
def YA (S : List Nat) (W w : World) (D : Yl) (y : Yd) (R : List Th) (N : Nat) : Prop := ∃ V ns bf hn, hn ≤ N ∧ ns.map Prod.snd = y.ns ∧ HS S W w (YL { D with V := V, ns := ns, bf := bf, hn := hn } y.h y.uf R)
theorem snd_at {ns : List (Nat × Nt)} {l : List Nt} {i : Nat} {n : Nt} (h : ns.map Prod.snd = l) (hx : l[i]? = some n) : ∃ x, ns[i]? = some x ∧ x.2 = n := by
 rw [← h, List.getElem?_map] at hx
 cases e : ns[i]? with
 | none => rw [e] at hx; cases hx
 | some x => rw [e] at hx; injection hx with hx; exact ⟨x, rfl, hx⟩
theorem snd_erase {ns : List (Nat × Nt)} {l : List Nt} (i : Nat) (h : ns.map Prod.snd = l) : (ns.eraseIdx i).map Prod.snd = l.eraseIdx i := by
 subst h
 induction ns generalizing i with
 | nil => rfl
 | cons x xs ih => cases i with
   | zero => rfl
   | succ k => simp only [List.eraseIdx_cons_succ, List.map_cons, ih]
theorem snd_len {ns : List (Nat × Nt)} {l : List Nt} (h : ns.map Prod.snd = l) : ns.length = l.length := by rw [← h, List.length_map]
section
variable {S : List Nat} {W w : World} {D : Yl} {y : Yd} {R : List Th} {N : Nat} {K : Int}
theorem YA.below {w' : World} (h : YA S W w D y R N) (hb : Below w.heap.size w w') : YA S W w' D y R N := by
 obtain ⟨V, ns, bf, hn, h1, h2, h3⟩ := h
 exact ⟨V, ns, bf, hn, h1, h2, h3.below hb⟩
theorem YA.mono {N' : Nat} (h : YA S W w D y R N) (hN : N ≤ N') : YA S W w D y R N' := by
 obtain ⟨V, ns, bf, hn, h1, h2, h3⟩ := h
 exact ⟨V, ns, bf, hn, Nat.le_trans h1 hN, h2, h3⟩
theorem YA.memR {t : Th} (h : YA S W w D y R N) (ht : t ∈ R) : t.at_ w := by
 obtain ⟨V, ns, bf, hn, h1, h2, h3⟩ := h
 exact YL.memR h3 ht
theorem YA.ch (h : YA S W w D y R N) : Ch S W w := by
 obtain ⟨V, ns, bf, hn, h1, h2, h3⟩ := h
 exact h3.ch
theorem YA.part {T : List Th} (h : YA S W w D y (T ++ R) N) : YA S W w D y R N := by
 obtain ⟨V, ns, bf, hn, h1, h2, h3⟩ := h
 exact ⟨V, ns, bf, hn, h1, h2, h3.sub (YL.lessR _ _ _ T R)⟩
theorem ya_new (hS : HS S W w R) (p : Pl) (u : Nat) (hu : 1 ≤ u ∧ u ≤ 16) : Calls Tryz.prog 6 #[.agg (FA 330 (pc p)), .int .i64 (u : Int)] w fun x w' => ∃ D : Yl, x = .returned (.tuple #[.pointer (some ⟨D.Y, 0, none⟩), .int .i64 0]) ∧ YA S W w' D (newY p u) R 16 := by
 refine (yd_new hS p u hu).mono ?_
 rintro x w' ⟨D, rfl, h1, h2, h3⟩
 exact ⟨D, rfl, D.V, D.ns, D.bf, D.hn, h2, by rw [h1]; rfl, h3⟩
theorem ya_notes (h : YA S W w D y R N) : Calls Tryz.prog 13 #[.pointer (some ⟨D.Y, 0, none⟩)] w fun x w' => x = .returned (.int .i64 (y.ns.length : Int)) ∧ w = w' := by
 obtain ⟨V, ns, bf, hn, h1, h2, h3⟩ := h
 rw [← snd_len h2]
 exact yd_notes h3
theorem ya_tick (h : YA S W w D y R N) (hF : Fit y K) (hK : K ≤ 100000) (hns : y.ns.length ≤ 900000) : Calls Tryz.prog 14 #[.pointer (some ⟨D.Y, 0, none⟩)] w fun x w' => x = .returned (.int .i64 ((tickY y).ns.length : Int)) ∧ YA S W w' D (tickY y) R N := by
 obtain ⟨V, ns, bf, hn, h1, h2, h3⟩ := h
 obtain ⟨_, s2, s3, s4⟩ := hF.1.send
 have hv := hF.1.1.v
 have := hF.2.2.1
 refine (yd_tick h3 hF.2.1.2 (hF.pb hK) ⟨by omega, by omega⟩ (by show ns.length ≤ 900000; rw [snd_len h2]; exact hns)).mono ?_
 rintro x w' ⟨V', ns', rfl, hZ, hm⟩
 have e : ns'.map Prod.snd = (tickY y).ns := by rw [hm]; show ns.map Prod.snd ++ _ = _; rw [h2]; rfl
 exact ⟨by rw [snd_len e], V', ns', bf, hn, h1, e, hZ⟩
theorem ya_loseN (h : YA S W w D y R N) (i : Int) (hi : hasB i y.ns.length = false) : Calls Tryz.prog 11 #[.pointer (some ⟨D.Y, 0, none⟩), .int .i64 i] w fun x w' => x = .returned (.bool false) ∧ w = w' := by
 obtain ⟨V, ns, bf, hn, h1, h2, h3⟩ := h
 exact yd_loseN h3 i (by show hasB i ns.length = false; rw [snd_len h2]; exact hi)
theorem ya_lose (h : YA S W w D y R N) (i : Nat) (hi : i < y.ns.length) : Calls Tryz.prog 11 #[.pointer (some ⟨D.Y, 0, none⟩), .int .i64 (i : Int)] w fun x w' => x = .returned (.bool true) ∧ YA S W w' D (loY y i) R N := by
 obtain ⟨V, ns, bf, hn, h1, h2, h3⟩ := h
 refine (yd_lose h3 i (by show i < ns.length; rw [snd_len h2]; exact hi)).mono ?_
 rintro x w' ⟨rfl, V', hZ⟩
 exact ⟨rfl, V', _, bf, hn, h1, snd_erase i h2, hZ⟩
theorem ya_verN (h : YA S W w D y R N) (i : Int) (hi : hasB i y.h.un = false) : Calls Tryz.prog 8 #[.pointer (some ⟨D.Y, 0, none⟩), .int .i64 i] w fun x w' => x = .returned (.tuple #[.int .i64 0, .bool false]) ∧ w = w' := by
 obtain ⟨V, ns, bf, hn, h1, h2, h3⟩ := h
 exact yd_verN h3 i hi
theorem ya_ver (h : YA S W w D y R N) (i : Nat) (hi : i < y.h.un) : Calls Tryz.prog 8 #[.pointer (some ⟨D.Y, 0, none⟩), .int .i64 (i : Int)] w fun x w' => x = .returned (.tuple #[.int .i64 (if (y.uf i).up = true then (y.uf i).p.v else 0), .bool (y.uf i).up]) ∧ Below w.heap.size w w' := by
 obtain ⟨V, ns, bf, hn, h1, h2, h3⟩ := h
 exact yd_ver h3 i hi
theorem ya_pool (h : YA S W w D y R N) : Calls Tryz.prog 15 #[.pointer (some ⟨D.Y, 0, none⟩)] w fun x w' => x = .returned (.agg (FA 330 (pc y.h.pl))) ∧ YA S W w' D y R N := by
 obtain ⟨V, ns, bf, hn, h1, h2, h3⟩ := h
 refine (yd_pool h3).mono ?_
 rintro x w' ⟨rfl, hZ⟩
 exact ⟨rfl, V, ns, bf, hn, h1, h2, hZ⟩
theorem ya_delN (h : YA S W w D y R N) (i : Int) (hi : hasB i y.ns.length = false) (keep : Bool) : Calls Tryz.prog 10 #[.pointer (some ⟨D.Y, 0, none⟩), .int .i64 i, .bool keep] w fun x w' => x = .returned (.bool false) ∧ YA S W w' D y R N := by
 obtain ⟨V, ns, bf, hn, h1, h2, h3⟩ := h
 refine (del_none h3 i (by show hasB i ns.length = false; rw [snd_len h2]; exact hi) keep).mono ?_
 rintro x w' ⟨rfl, hZ⟩
 exact ⟨rfl, V, ns, bf, hn, h1, h2, hZ⟩
theorem ya_del (h : YA S W w D y R N) (hF : Fit y K) (hK : K ≤ 100000) (hN : N ≤ 1000000) (hns : y.ns.length ≤ 900000) (i : Nat) (hi : i < y.ns.length) (keep : Bool) : Calls Tryz.prog 10 #[.pointer (some ⟨D.Y, 0, none⟩), .int .i64 (i : Int), .bool keep] w fun x w' => x = .returned (.bool true) ∧ YA S W w' D (delY y i keep) R (N + 1) := by
 obtain ⟨V, ns, bf, hn, h1, h2, h3⟩ := h
 obtain ⟨n, hn0⟩ : ∃ n, y.ns[i]? = some n := ⟨_, List.getElem?_eq_getElem hi⟩
 obtain ⟨x, hx, rfl⟩ := snd_at h2 hn0
 have hl : ns.length ≤ 1000000 := by rw [snd_len h2]; omega
 have hD : delY y i keep = getY y x.2 (dropL y.ns i keep) := by unfold delY; rw [hn0]
 rw [hD]
 cases hak : x.2.ak with
 | true =>
   have hG : getY y x.2 (dropL y.ns i keep) = ⟨heardH y.h x.2, y.uf, dropL y.ns i keep⟩ := by unfold getY; rw [if_pos hak]
   rw [hG]
   cases keep with
   | true =>
     refine (del_ackK h3 hx hak hF.2.1.2 (by show hn ≤ 1000000; omega)).mono ?_
     rintro e w' ⟨rfl, hZ⟩
     exact ⟨rfl, V, ns, bf, hn + 1, by omega, h2, hZ⟩
   | false =>
     refine (del_ackD h3 hx hak hF.2.1.2 (by show hn ≤ 1000000; omega)).mono ?_
     rintro e w' ⟨rfl, V', hZ⟩
     exact ⟨rfl, V', _, bf, hn + 1, by omega, snd_erase i h2, hZ⟩
 | false =>
   have hG : getY y x.2 (dropL y.ns i keep) = ⟨y.h, setU y.uf x.2.u.toNat (readU x.2 (y.uf x.2.u.toNat)), dropL y.ns i keep ++ [ackU x.2.u.toNat (readU x.2 (y.uf x.2.u.toNat))]⟩ := by unfold getY; rw [if_neg (by rw [hak]; decide)]
   rw [hG]
   have hNO := hF.1.2.2 x.2 (List.mem_of_getElem? hn0)
   obtain ⟨⟨u1, u2⟩, _, _⟩ := hNO
   have hku : x.2.u = ((x.2.u.toNat : Nat) : Int) := by omega
   have hkl : x.2.u.toNat < y.h.un := by omega
   have hw : (readU x.2 (y.uf x.2.u.toNat)).up = true → Pw (readU x.2 (y.uf x.2.u.toNat)).p := fun hup => by
    have h5 := (hF.1.read (hF.1.2.2 x.2 (List.mem_of_getElem? hn0)) hak).2.1 x.2.u.toNat hkl
    have e1 : setU y.uf x.2.u.toNat (readU x.2 (y.uf x.2.u.toNat)) x.2.u.toNat = readU x.2 (y.uf x.2.u.toNat) := by unfold setU; rw [if_pos rfl]
    have h6 := h5.2.2.2
    simp only [e1] at h6
    exact (h6 hup).1.2
   generalize x.2.u.toNat = k at *
   cases keep with
   | true =>
     refine (del_mailK h3 hx hak hku hkl (hF.unit hK hkl) hw hl).mono ?_
     rintro e w' ⟨rfl, nb, V', s, hZ⟩
     exact ⟨rfl, V', _, _, hn, by omega, by rw [List.map_append]; show ns.map Prod.snd ++ _ = y.ns ++ _; rw [h2]; rfl, hZ⟩
   | false =>
     refine (del_mailD h3 hx hak hku hkl (hF.unit hK hkl) hw hl).mono ?_
     rintro e w' ⟨rfl, nb, V', s, hZ⟩
     exact ⟨rfl, V', _, _, hn, by omega, by rw [List.map_append]; show (ns.eraseIdx i).map Prod.snd ++ _ = y.ns.eraseIdx i ++ _; rw [snd_erase i h2]; rfl, hZ⟩
end
end Go.Proofs.YtlfionfnpieoiaaGreat
