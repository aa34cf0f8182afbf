/- A yard in a world, all its ways. First steps of a yard, by themselves. The chapter's example. A yard's ways, counted. Ticks, and all that is on its way. -/
import Derived.Test.YteefhiniamajkaaGreatYdNew
import Derived.Test.YteefhiniamajkaaGreatYdE
import Derived.Test.YteefhiniamajkaaGreatYdTick
import Derived.BigQuiet
import Derived.Deep.RegionHeld3
import Derived.Deep.Cut
import Derived.IntWalk
namespace Go.Proofs.YteefhiniamajkaaGreat
set_option linter.unusedVariables false
set_option linter.unusedSimpArgs false
open Go.RowKit Go.ChangeShapes Go.WideShapes Go.ChangeAt
set_option maxRecDepth 100000
attribute [local irreducible] FA FL
theorem fol_down {n : Nt} {u : Uy} (h : (folU n u).up = false) : folU n u = u := by
  unfold folU at h ⊢
  by_cases c1 : n.wh = true ∧ ver u < n.p.v
  · rw [if_pos c1] at h; cases h
  · rw [if_neg c1] at h ⊢
    by_cases c2 : n.wh = false ∧ ver u ≠ -1 ∧ n.v = ver u + 1
    · rw [if_pos c2] at h ⊢
      by_cases c3 : (apR u.p n.e).2 = 0
      · rw [if_pos c3] at h; cases h
      · rw [if_neg c3]
    · rw [if_neg c2]
theorem read_down {n : Nt} {u : Uy} (h : (readU n u).up = false) : readU n u = u := by
  unfold readU at h ⊢
  by_cases c : n.b = u.b
  · rw [if_pos c] at h ⊢; exact fol_down h
  · rw [if_neg c]
theorem pb_zero : PB zPl := ⟨⟨by show (-1152921504606846976 : Int) ≤ 0; omega, by show (0 : Int) ≤ 1152921504606846976; omega⟩, by unfold Ep zPl; constructor <;> decide, fun i hi => ⟨by show (-1152921504606846976 : Int) ≤ 0; omega, by show (0 : Int) ≤ 1152921504606846976; omega⟩⟩
/-- What holds of a yard, and how far it went. -/
def Fit (y : Yd) (K : Int) : Prop := YdOk y ∧ (1 ≤ y.h.un ∧ y.h.un ≤ 16) ∧ y.h.pl.v ≤ K ∧ ∀ i, i < y.h.un → (0 ≤ (y.uf i).b ∧ (y.uf i).b ≤ K) ∧ ((y.uf i).up = false → (y.uf i).p = zPl)
theorem good.pb {p : Pl} (h : good p) (hv : p.v ≤ 100000) : PB p := h.1.pb (by omega)
section
variable {y : Yd} {K : Int}
theorem Fit.mono {L : Int} (h : Fit y K) (hl : K ≤ L) : Fit y L := ⟨h.1, h.2.1, by have := h.2.2.1; omega, fun i hi => ⟨⟨(h.2.2.2 i hi).1.1, by have := (h.2.2.2 i hi).1.2; omega⟩, (h.2.2.2 i hi).2⟩⟩
theorem Fit.pb (h : Fit y K) (hK : K ≤ 100000) : PB y.h.pl := h.1.1.pb (by have := h.2.2.1; omega)
theorem Fit.unit (h : Fit y K) (hK : K ≤ 100000) {i : Nat} (hi : i < y.h.un) : PB (y.uf i).p := by
  cases hup : (y.uf i).up with
  | true =>
    obtain ⟨g1, g2, _⟩ := (h.1.2.1 i hi).2.2.2 hup
    exact g1.pb (by have := h.2.2.1; omega)
  | false => rw [(h.2.2.2 i hi).2 hup]; exact pb_zero
theorem Fit.new {p : Pl} {u : Nat} (hp : good p) (hu : 1 ≤ u ∧ u ≤ 16) (hv : p.v ≤ K) : Fit (newY p u) K := ⟨newY_ok hp, hu, hv, fun i hi => ⟨⟨Int.le_refl _, by have := hp.v; show (0 : Int) ≤ K; omega⟩, fun _ => rfl⟩⟩
theorem Fit.tick (h : Fit y K) : Fit (tickY y) (K + 1) := by
  obtain ⟨_, _, _, h4⟩ := h.1.send
  have hun : (tickY y).h.un = y.h.un := sendH_un y.h
  refine ⟨h.1.tick, by rw [hun]; exact h.2.1, by have := h.2.2.1; show (sendH y.h).pl.v ≤ K + 1; omega, fun i hi => ?_⟩
  rw [hun] at hi
  exact ⟨⟨(h.2.2.2 i hi).1.1, by have := (h.2.2.2 i hi).1.2; show (y.uf i).b ≤ K + 1; omega⟩, (h.2.2.2 i hi).2⟩
theorem Fit.lose (h : Fit y K) (i : Nat) : Fit (loY y i) K := ⟨h.1.lose i, h.2⟩
theorem Fit.wish (h : Fit y K) (a : Pl) (q : List En) : Fit ⟨{ y.h with ah := a, q := q }, y.uf, y.ns⟩ K := ⟨h.1.wish a q, h.2⟩
theorem Fit.crash (h : Fit y K) {i : Nat} (hi : i < y.h.un) : Fit (crY y i) (K + 1) := by
  refine ⟨h.1.crash hi, h.2.1, by have := h.2.2.1; show y.h.pl.v ≤ K + 1; omega, fun j hj => ?_⟩
  obtain ⟨⟨b1, b2⟩, b3⟩ := h.2.2.2 j hj
  show (0 ≤ (setU y.uf i (crU (y.uf i)) j).b ∧ (setU y.uf i (crU (y.uf i)) j).b ≤ K + 1) ∧ ((setU y.uf i (crU (y.uf i)) j).up = false → (setU y.uf i (crU (y.uf i)) j).p = zPl)
  unfold setU
  by_cases e : j = i
  · subst e
    rw [if_pos rfl]
    exact ⟨⟨by show 0 ≤ (y.uf j).b + 1; omega, by show (y.uf j).b + 1 ≤ K + 1; omega⟩, fun _ => rfl⟩
  · rw [if_neg e]
    exact ⟨⟨b1, by omega⟩, b3⟩
theorem delY_some {i : Nat} {k : Bool} {n : Nt} (hn : y.ns[i]? = some n) : delY y i k = getY y n (dropL y.ns i k) := by unfold delY; rw [hn]
theorem delY_none {i : Nat} {k : Bool} (hn : y.ns[i]? = none) : delY y i k = y := by unfold delY; rw [hn]
theorem Fit.del (h : Fit y K) (i : Nat) (k : Bool) : Fit (delY y i k) K := by
  refine ⟨h.1.deliver i k, ?_⟩
  cases hn : y.ns[i]? with
  | none => rw [delY_none hn]; exact h.2
  | some n =>
    rw [delY_some hn]
    unfold getY
    by_cases ha : n.ak = true
    · rw [if_pos ha]
      have hun : (heardH y.h n).un = y.h.un := heardH_un _ _
      have hpl : (heardH y.h n).pl = y.h.pl := by
        unfold heardH
        split
        · split <;> rfl
        · rfl
      refine ⟨by show 1 ≤ (heardH y.h n).un ∧ (heardH y.h n).un ≤ 16; rw [hun]; exact h.2.1, by show (heardH y.h n).pl.v ≤ K; rw [hpl]; exact h.2.2.1, fun j hj => ?_⟩
      have hj' : j < y.h.un := by have : j < (heardH y.h n).un := hj; rwa [hun] at this
      exact h.2.2.2 j hj'
    · rw [if_neg ha]
      refine ⟨h.2.1, h.2.2.1, fun j hj => ?_⟩
      show (0 ≤ (setU y.uf n.u.toNat (readU n (y.uf n.u.toNat)) j).b ∧ (setU y.uf n.u.toNat (readU n (y.uf n.u.toNat)) j).b ≤ K) ∧ ((setU y.uf n.u.toNat (readU n (y.uf n.u.toNat)) j).up = false → (setU y.uf n.u.toNat (readU n (y.uf n.u.toNat)) j).p = zPl)
      unfold setU
      by_cases e : j = n.u.toNat
      · rw [if_pos e, ← e]
        refine ⟨by rw [read_b]; exact (h.2.2.2 j hj).1, fun hup => ?_⟩
        have e3 := read_down hup
        rw [e3] at hup ⊢
        exact (h.2.2.2 j hj).2 hup
      · rw [if_neg e]
        exact h.2.2.2 j hj
end
/-- A yard that lies there. -/
def YA (S : List Nat) (W w : World) (D : Yl) (y : Yd) (R : List Th) (N : Nat) : Prop := ∃ V ns bf hn, hn ≤ N ∧ ns.map Prod.snd = y.ns ∧ HS S W w (YL { D with V := V, ns := ns, bf := bf, hn := hn } y.h y.uf R)
theorem snd_at {ns : List (Nat × Nt)} {l : List Nt} {i : Nat} {n : Nt} (h : ns.map Prod.snd = l) (hx : l[i]? = some n) : ∃ x, ns[i]? = some x ∧ x.2 = n := by
  rw [← h, List.getElem?_map] at hx
  cases e : ns[i]? with
  | none => rw [e] at hx; cases hx
  | some x => rw [e] at hx; injection hx with hx; exact ⟨x, rfl, hx⟩
theorem snd_erase {ns : List (Nat × Nt)} {l : List Nt} (i : Nat) (h : ns.map Prod.snd = l) : (ns.eraseIdx i).map Prod.snd = l.eraseIdx i := by
  subst h
  induction ns generalizing i with
  | nil => rfl
  | cons x xs ih => cases i with
    | zero => rfl
    | succ k => simp only [List.eraseIdx_cons_succ, List.map_cons, ih]
theorem snd_len {ns : List (Nat × Nt)} {l : List Nt} (h : ns.map Prod.snd = l) : ns.length = l.length := by rw [← h, List.length_map]
section
variable {S : List Nat} {W w : World} {D : Yl} {y : Yd} {R : List Th} {N : Nat} {K : Int}
theorem YA.below {w' : World} (h : YA S W w D y R N) (hb : Below w.heap.size w w') : YA S W w' D y R N := by
  obtain ⟨V, ns, bf, hn, h1, h2, h3⟩ := h
  exact ⟨V, ns, bf, hn, h1, h2, h3.below hb⟩
theorem YA.mono {N' : Nat} (h : YA S W w D y R N) (hN : N ≤ N') : YA S W w D y R N' := by
  obtain ⟨V, ns, bf, hn, h1, h2, h3⟩ := h
  exact ⟨V, ns, bf, hn, Nat.le_trans h1 hN, h2, h3⟩
theorem YA.memR {t : Th} (h : YA S W w D y R N) (ht : t ∈ R) : t.at_ w := by
  obtain ⟨V, ns, bf, hn, h1, h2, h3⟩ := h
  exact YL.memR h3 ht
theorem YA.ch (h : YA S W w D y R N) : Ch S W w := by
  obtain ⟨V, ns, bf, hn, h1, h2, h3⟩ := h
  exact h3.ch
theorem YA.part {T : List Th} (h : YA S W w D y (T ++ R) N) : YA S W w D y R N := by
  obtain ⟨V, ns, bf, hn, h1, h2, h3⟩ := h
  exact ⟨V, ns, bf, hn, h1, h2, h3.sub (YL.lessR _ _ _ T R)⟩
theorem HS.intoR {h : Hd} {uf : Nat → Uy} {t : Th} (hS : HS S W w (t :: YL D h uf R)) : HS S W w (YL D h uf ([t] ++ R)) := hS.perm (put_mid t (thB D.Y 5 (yc D.hb D.U D.V D.ca D.cm) :: thL D.V D.ns :: thH D.hb D.hc D.hm D.hn h :: thC1 D.ca [] :: thC1 D.cm [] :: thW 0 72 1 D.U h.un (ubV D) :: (List.range h.un).map (unT D uf)) (nths D.ns) R)
theorem ya_new (hS : HS S W w R) (p : Pl) (u : Nat) (hu : 1 ≤ u ∧ u ≤ 16) : Calls Tryz.prog 7 #[.agg (FA 330 (pc p)), .int .i64 (u : Int)] w fun x w' => ∃ D : Yl, x = .returned (.tuple #[.pointer (some ⟨D.Y, 0, none⟩), .int .i64 0]) ∧ YA S W w' D (newY p u) R 16 := by
  refine (yd_new hS p u hu).mono ?_
  rintro x w' ⟨D, rfl, h1, h2, h3⟩
  exact ⟨D, rfl, D.V, D.ns, D.bf, D.hn, h2, by rw [h1]; rfl, h3⟩
theorem ya_notes (h : YA S W w D y R N) : Calls Tryz.prog 19 #[.pointer (some ⟨D.Y, 0, none⟩)] w fun x w' => x = .returned (.int .i64 (y.ns.length : Int)) ∧ w = w' := by
  obtain ⟨V, ns, bf, hn, h1, h2, h3⟩ := h
  rw [← snd_len h2]
  exact yd_notes h3
theorem ya_tick (h : YA S W w D y R N) (hF : Fit y K) (hK : K ≤ 100000) (hns : y.ns.length ≤ 900000) : Calls Tryz.prog 20 #[.pointer (some ⟨D.Y, 0, none⟩)] w fun x w' => x = .returned (.int .i64 ((tickY y).ns.length : Int)) ∧ YA S W w' D (tickY y) R N := by
  obtain ⟨V, ns, bf, hn, h1, h2, h3⟩ := h
  obtain ⟨_, s2, s3, s4⟩ := hF.1.send
  have hv := hF.1.1.v
  have := hF.2.2.1
  refine (yd_tick h3 hF.2.1.2 (hF.pb hK) ⟨by omega, by omega⟩ (by show ns.length ≤ 900000; rw [snd_len h2]; exact hns)).mono ?_
  rintro x w' ⟨V', ns', rfl, hZ, hm⟩
  have e : ns'.map Prod.snd = (tickY y).ns := by rw [hm]; show ns.map Prod.snd ++ _ = _; rw [h2]; rfl
  exact ⟨by rw [snd_len e], V', ns', bf, hn, h1, e, hZ⟩
theorem ya_loseN (h : YA S W w D y R N) (i : Int) (hi : hasB i y.ns.length = false) : Calls Tryz.prog 23 #[.pointer (some ⟨D.Y, 0, none⟩), .int .i64 i] w fun x w' => x = .returned (.bool false) ∧ w = w' := by
  obtain ⟨V, ns, bf, hn, h1, h2, h3⟩ := h
  exact yd_loseN h3 i (by show hasB i ns.length = false; rw [snd_len h2]; exact hi)
theorem ya_lose (h : YA S W w D y R N) (i : Nat) (hi : i < y.ns.length) : Calls Tryz.prog 23 #[.pointer (some ⟨D.Y, 0, none⟩), .int .i64 (i : Int)] w fun x w' => x = .returned (.bool true) ∧ YA S W w' D (loY y i) R N := by
  obtain ⟨V, ns, bf, hn, h1, h2, h3⟩ := h
  refine (yd_lose h3 i (by show i < ns.length; rw [snd_len h2]; exact hi)).mono ?_
  rintro x w' ⟨rfl, V', hZ⟩
  exact ⟨rfl, V', _, bf, hn, h1, snd_erase i h2, hZ⟩
theorem ya_verN (h : YA S W w D y R N) (i : Int) (hi : hasB i y.h.un = false) : Calls Tryz.prog 22 #[.pointer (some ⟨D.Y, 0, none⟩), .int .i64 i] w fun x w' => x = .returned (.tuple #[.int .i64 0, .bool false]) ∧ w = w' := by
  obtain ⟨V, ns, bf, hn, h1, h2, h3⟩ := h
  exact yd_verN h3 i hi
theorem ya_ver (h : YA S W w D y R N) (i : Nat) (hi : i < y.h.un) : Calls Tryz.prog 22 #[.pointer (some ⟨D.Y, 0, none⟩), .int .i64 (i : Int)] w fun x w' => x = .returned (.tuple #[.int .i64 (if (y.uf i).up = true then (y.uf i).p.v else 0), .bool (y.uf i).up]) ∧ Below w.heap.size w w' := by
  obtain ⟨V, ns, bf, hn, h1, h2, h3⟩ := h
  exact yd_ver h3 i hi
theorem ya_pool (h : YA S W w D y R N) : Calls Tryz.prog 15 #[.pointer (some ⟨D.Y, 0, none⟩)] w fun x w' => x = .returned (.agg (FA 330 (pc y.h.pl))) ∧ YA S W w' D y R N := by
  obtain ⟨V, ns, bf, hn, h1, h2, h3⟩ := h
  refine (yd_pool h3).mono ?_
  rintro x w' ⟨rfl, hZ⟩
  exact ⟨rfl, V, ns, bf, hn, h1, h2, hZ⟩
theorem ya_delN (h : YA S W w D y R N) (i : Int) (hi : hasB i y.ns.length = false) (keep : Bool) : Calls Tryz.prog 21 #[.pointer (some ⟨D.Y, 0, none⟩), .int .i64 i, .bool keep] w fun x w' => x = .returned (.bool false) ∧ YA S W w' D y R N := by
  obtain ⟨V, ns, bf, hn, h1, h2, h3⟩ := h
  refine (del_none h3 i (by show hasB i ns.length = false; rw [snd_len h2]; exact hi) keep).mono ?_
  rintro x w' ⟨rfl, hZ⟩
  exact ⟨rfl, V, ns, bf, hn, h1, h2, hZ⟩
theorem ya_del (h : YA S W w D y R N) (hF : Fit y K) (hK : K ≤ 100000) (hN : N ≤ 1000000) (hns : y.ns.length ≤ 900000) (i : Nat) (hi : i < y.ns.length) (keep : Bool) : Calls Tryz.prog 21 #[.pointer (some ⟨D.Y, 0, none⟩), .int .i64 (i : Int), .bool keep] w fun x w' => x = .returned (.bool true) ∧ YA S W w' D (delY y i keep) R (N + 1) := by
  obtain ⟨V, ns, bf, hn, h1, h2, h3⟩ := h
  obtain ⟨n, hn0⟩ : ∃ n, y.ns[i]? = some n := ⟨_, List.getElem?_eq_getElem hi⟩
  obtain ⟨x, hx, rfl⟩ := snd_at h2 hn0
  have hl : ns.length ≤ 1000000 := by rw [snd_len h2]; omega
  have hD : delY y i keep = getY y x.2 (dropL y.ns i keep) := by unfold delY; rw [hn0]
  rw [hD]
  cases hak : x.2.ak with
  | true =>
    have hG : getY y x.2 (dropL y.ns i keep) = ⟨heardH y.h x.2, y.uf, dropL y.ns i keep⟩ := by unfold getY; rw [if_pos hak]
    rw [hG]
    cases keep with
    | true =>
      refine (del_ackK h3 hx hak hF.2.1.2 (by show hn ≤ 1000000; omega)).mono ?_
      rintro e w' ⟨rfl, hZ⟩
      exact ⟨rfl, V, ns, bf, hn + 1, by omega, h2, hZ⟩
    | false =>
      refine (del_ackD h3 hx hak hF.2.1.2 (by show hn ≤ 1000000; omega)).mono ?_
      rintro e w' ⟨rfl, V', hZ⟩
      exact ⟨rfl, V', _, bf, hn + 1, by omega, snd_erase i h2, hZ⟩
  | false =>
    have hG : getY y x.2 (dropL y.ns i keep) = ⟨y.h, setU y.uf x.2.u.toNat (readU x.2 (y.uf x.2.u.toNat)), dropL y.ns i keep ++ [ackU x.2.u.toNat (readU x.2 (y.uf x.2.u.toNat))]⟩ := by unfold getY; rw [if_neg (by rw [hak]; decide)]
    rw [hG]
    have hNO := hF.1.2.2 x.2 (List.mem_of_getElem? hn0)
    obtain ⟨⟨u1, u2⟩, _, _⟩ := hNO
    have hku : x.2.u = ((x.2.u.toNat : Nat) : Int) := by omega
    have hkl : x.2.u.toNat < y.h.un := by omega
    have hw : (readU x.2 (y.uf x.2.u.toNat)).up = true → Pw (readU x.2 (y.uf x.2.u.toNat)).p := fun hup => by
      have h5 := (hF.1.read (hF.1.2.2 x.2 (List.mem_of_getElem? hn0)) hak).2.1 x.2.u.toNat hkl
      have e1 : setU y.uf x.2.u.toNat (readU x.2 (y.uf x.2.u.toNat)) x.2.u.toNat = readU x.2 (y.uf x.2.u.toNat) := by unfold setU; rw [if_pos rfl]
      have h6 := h5.2.2.2
      simp only [e1] at h6
      exact (h6 hup).1.2
    generalize x.2.u.toNat = k at *
    cases keep with
    | true =>
      refine (del_mailK h3 hx hak hku hkl (hF.unit hK hkl) hw hl).mono ?_
      rintro e w' ⟨rfl, nb, V', s, hZ⟩
      exact ⟨rfl, V', _, _, hn, by omega, by rw [List.map_append]; show ns.map Prod.snd ++ _ = y.ns ++ _; rw [h2]; rfl, hZ⟩
    | false =>
      refine (del_mailD h3 hx hak hku hkl (hF.unit hK hkl) hw hl).mono ?_
      rintro e w' ⟨rfl, nb, V', s, hZ⟩
      exact ⟨rfl, V', _, _, hn, by omega, by rw [List.map_append]; show (ns.eraseIdx i).map Prod.snd ++ _ = y.ns.eraseIdx i ++ _; rw [snd_erase i h2]; rfl, hZ⟩
end
end Go.Proofs.YteefhiniamajkaaGreat
namespace Go.Proofs.YteefhiniamajkaaGreat
set_option linter.unusedVariables false
set_option linter.unusedSimpArgs false
open Go.RowKit Go.ChangeShapes Go.WideShapes Go.ChangeAt
def z0 : Uy := ⟨0, zPl, false⟩
def wN (p : Pl) (i : Nat) : Nt := ⟨i, 0, p.v, true, false, zEn, p⟩
def aN (p : Pl) (i : Nat) : Nt := ⟨i, 0, p.v, false, true, zEn, zPl⟩
theorem good_mk (g : Nat → Int) (k : Nat) (hk : k ≤ 30) : good (mkP g k) ∧ (mkP g k).v ≤ 30 := by
  have h := mkP_inv g k
  have hv : 0 ≤ (mkP g k).v ∧ (mkP g k).v ≤ k := h.1
  exact ⟨⟨h.mono (by omega), mk_pw g k⟩, by omega⟩
theorem good_k0 : good kp0 := ⟨kpi.mono (by decide), fun i _ => ⟨by show (0 : Int) ≤ 0 ∧ (0 : Int) ≤ 4294967295; decide, by show (0 : Int) ≤ 0 ∧ (0 : Int) ≤ 65535; decide, fun h => absurd rfl h⟩⟩
section
variable {p : Pl} {u : Nat}
theorem send_newH : sendH (newH p u) = newH p u := by
  unfold sendH
  split <;> rfl
theorem notes_newH (hv : 0 ≤ p.v) : ∀ k : Nat, notesK (newH p u) k = (List.range k).map (wN p)
  | 0 => rfl
  | k + 1 => by
    have h1 : ((newH p u).wd k).v < (newH p u).pl.v := by show (-1 : Int) < p.v; omega
    rw [notesK_succ, if_pos h1, notes_newH hv k, List.range_succ, List.map_append]
    rfl
theorem tick_new (hv : 0 ≤ p.v) : tickY (newY p u) = ⟨newH p u, fun _ => z0, (List.range u).map (wN p)⟩ := by
  show (⟨sendH (newH p u), _, [] ++ notesK (sendH (newH p u)) u⟩ : Yd) = _
  rw [send_newH, notes_newH hv]
  rfl
theorem wN_at {i : Nat} (hi : i < u) : ((List.range u).map (wN p))[i]? = some (wN p i) := by simp [hi]
theorem read_w (hv : 0 ≤ p.v) (i : Nat) {x : Uy} (hx : x = z0 ∨ x = ⟨0, p, true⟩) : readU (wN p i) x = ⟨0, p, true⟩ := by
  unfold readU folU
  rcases hx with rfl | rfl
  · rw [if_pos (show (wN p i).b = z0.b from rfl), if_pos ⟨rfl, by show (-1 : Int) < p.v; omega⟩]
    rfl
  · rw [if_pos (show (wN p i).b = (⟨0, p, true⟩ : Uy).b from rfl), if_neg (fun h => by have : p.v < p.v := h.2; omega), if_neg (fun h => by cases h.1)]
theorem del_w {y : Yd} {j i : Nat} (hv : 0 ≤ p.v) (hj : y.ns[j]? = some (wN p i)) (hx : y.uf i = z0 ∨ y.uf i = ⟨0, p, true⟩) (k : Bool) : delY y j k = ⟨y.h, setU y.uf i ⟨0, p, true⟩, dropL y.ns j k ++ [aN p i]⟩ := by
  rw [delY_some hj]
  unfold getY
  rw [if_neg (show ¬ (wN p i).ak = true from fun h => by cases h)]
  have e : (wN p i).u.toNat = i := by show ((i : Nat) : Int).toNat = i; omega
  rw [e, read_w hv i hx]
  have : ackU i ⟨0, p, true⟩ = aN p i := rfl
  rw [this]
theorem setU_same (f : Nat → Uy) (i : Nat) (x : Uy) : setU f i x i = x := by unfold setU; rw [if_pos rfl]
theorem setU_ne (f : Nat → Uy) {i j : Nat} (x : Uy) (h : j ≠ i) : setU f i x j = f j := by unfold setU; rw [if_neg h]
end
end Go.Proofs.YteefhiniamajkaaGreat
namespace Go.Proofs.YteefhiniamajkaaGreat
set_option linter.unusedVariables false
set_option linter.unusedSimpArgs false
open Go.RowKit Go.ChangeShapes Go.WideShapes Go.ChangeAt
set_option maxRecDepth 100000
theorem ex_eqFP {o : Oper} {f : Operand → Value} (x y : Operand) (ho : o.op = .binOp .eql 33 x y 33) (p : Pl) (hx : f x = .agg (FA 330 (pc p))) (hy : f y = .agg (FA 330 (pc p))) (w : World) : (execOp f o).run Tryz.prog w = .ok (.value (.bool true)) w := ex_eql x y ho p hx hy w
attribute [local irreducible] FA FL
theorem ya_example {p0 : Pl} (GP : good p0) (hv0 : p0.v = 0) (f1 : Fit (tickY (newY p0 2)) (0 + 1)) : ∃ y1 y2 y3 y4 y5 : Yd, tickY (newY p0 2) = y1 ∧ delY y1 0 false = y2 ∧ delY y2 0 false = y3 ∧ delY y3 0 false = y4 ∧ loY y4 0 = y5 ∧ y1.ns.length = 2 ∧ y2.ns.length = 2 ∧ y3.ns.length = 2 ∧ y4.ns.length = 1 ∧ y5.ns.length = 0 ∧ (Fit y1 1 ∧ Fit y2 1 ∧ Fit y3 1 ∧ Fit y4 1) ∧ y3.uf 1 = ⟨0, p0, true⟩ ∧ y3.h.un = 2 ∧ y5.h.pl = p0 := by
  have hv : 0 ≤ p0.v := by omega
  have e1 := tick_new (p := p0) (u := 2) hv
  have e2 := del_w (y := tickY (newY p0 2)) (j := 0) (i := 0) hv (by rw [e1]; rfl) (by rw [e1]; exact .inl rfl) false
  have e3 := del_w (y := delY (tickY (newY p0 2)) 0 false) (j := 0) (i := 1) hv (by rw [e2, e1]; rfl) (by rw [e2, e1]; exact .inl rfl) false
  have n3 : (delY (delY (tickY (newY p0 2)) 0 false) 0 false).ns = [aN p0 0, aN p0 1] := by rw [e3, e2, e1]; rfl
  have h3 : (delY (delY (tickY (newY p0 2)) 0 false) 0 false).h = newH p0 2 := by rw [e3, e2, e1]
  have e4 : delY (delY (delY (tickY (newY p0 2)) 0 false) 0 false) 0 false = ⟨heardH (newH p0 2) (aN p0 0), (delY (delY (tickY (newY p0 2)) 0 false) 0 false).uf, [aN p0 1]⟩ := by
    rw [delY_some (n := aN p0 0) (by rw [n3]; rfl)]
    unfold getY
    rw [if_pos (show (aN p0 0).ak = true from rfl), n3, h3]
    rfl
  refine ⟨_, _, _, _, _, rfl, rfl, rfl, rfl, rfl, by rw [e1]; rfl, by rw [e2, e1]; rfl, by rw [n3]; rfl, by rw [e4]; rfl, by unfold loY; rw [e4]; rfl, ⟨f1, f1.del 0 false, (f1.del 0 false).del 0 false, ((f1.del 0 false).del 0 false).del 0 false⟩, ?_, by rw [h3]; rfl, ?_⟩
  · rw [e3]; simp [setU]
  · unfold loY
    rw [e4]
    show (heardH (newH p0 2) (aN p0 0)).pl = p0
    unfold heardH
    split
    · split <;> rfl
    · rfl
set_option maxHeartbeats 16000000 in
theorem yknown_any (w : World) : Calls Tryz.prog 4 #[] w fun x w' => x = .returned (.bool true) ∧ Below w.heap.size w w' := by
  obtain ⟨p0, hp0⟩ : ∃ p, p = kp0 := ⟨_, rfl⟩
  have RN := hid (show ∀ w, Calls Tryz.prog 18 #[.int .i64 10, .int .i64 80, .agg #[.int .u64 0, .int .u64 0], .agg #[.int .u64 0, .int .u64 0]] w fun x w' => x = .returned (.tuple #[.agg (FA 330 (pc p0)), .int .i64 0]) ∧ Below w.heap.size w w' from by rw [hp0]; exact rnew_fa)
  have hv0 : p0.v = 0 := by rw [hp0]; rfl
  have GP : good p0 := by rw [hp0]; exact good_k0
  clear hp0
  have f0 : Fit (newY p0 2) 0 := Fit.new GP ⟨by decide, by decide⟩ (by omega)
  have e1 := tick_new (p := p0) (u := 2) (by omega)
  have f1 := f0.tick
  have hF : ∃ y1 y2 y3 y4 y5 : Yd, tickY (newY p0 2) = y1 ∧ delY y1 0 false = y2 ∧ delY y2 0 false = y3 ∧ delY y3 0 false = y4 ∧ loY y4 0 = y5 ∧ y1.ns.length = 2 ∧ y2.ns.length = 2 ∧ y3.ns.length = 2 ∧ y4.ns.length = 1 ∧ y5.ns.length = 0 ∧ (Fit y1 1 ∧ Fit y2 1 ∧ Fit y3 1 ∧ Fit y4 1) ∧ y3.uf 1 = ⟨0, p0, true⟩ ∧ y3.h.un = 2 ∧ y5.h.pl = p0 := ya_example GP hv0 f1
  obtain ⟨y1, y2, y3, y4, y5, h1, h2, h3, h4, h5, l1, l2, l3, l4, l5, ⟨F1, F2, F3, F4⟩, hu1, hun, hpl⟩ := hF
  clear e1 f1 GP
  have H1 := hid h1
  have H2 := hid h2
  have H3 := hid h3
  have H4 := hid h4
  have H5 := hid h5
  have G0 := hid f0
  have G1 := hid F1
  have G2 := hid F2
  have G3 := hid F3
  have G4 := hid F4
  have L1 := hid l1
  have L2 := hid l2
  have L3 := hid l3
  have L4 := hid l4
  have L5 := hid l5
  have U1 := hid hu1
  have UN := hid hun
  have PL := hid hpl
  have HV := hid hv0
  clear h1 h2 h3 h4 h5 f0 F1 F2 F3 F4 l1 l2 l3 l4 l5 hu1 hun hpl hv0
  have S0 := hid (HS.start (S := []) (W := w))
  go_enter Tryz.func4, Tryz.ntmps4
  go_wp2_with fail
  refine (RN.out _).mono ?_
  rintro x w1 ⟨rfl, hb⟩
  have S1 := hid (S0.out.below hb)
  clear hb S0
  go_simp
  go_upto_region 2 with (first | ((with_reducible refine wl_id ?_); refine wl_ow rfl (ow_alloc rfl (zpl_fa _) (by omega) S1.out ?_); intro P w_ hZ _; have SA := hid hZ; clear hZ) | ((with_reducible refine wl_id ?_); refine wl_ow rfl (ow_store (A := []) 0 330 (pc p0) (pc p0) rfl rfl rfl SA.out (by omega) (fun j hj => patch_all _ _ _ j hj) info_pl (pc_one _) ?_); intro w_ hZ; have S2 := hid hZ; clear hZ))
  go_wp2_with ((with_reducible refine wl_id ?_); refine wl_ow rfl (ow_load 0 rfl 0 330 (pc p0) rfl rfl S2.out (by omega) (fun j hj => by rw [Nat.zero_add]) Tryz.underlying33 rfl info_pl ?_))
  refine (ya_new S2.out p0 2 ⟨by omega, by omega⟩).mono ?_
  rintro x w3 ⟨D, rfl, hY⟩
  have Y0 := hid hY
  clear hY S2
  go_simp
  go_wp2_with fail
  refine (ya_notes Y0.out).mono ?_
  rintro x w' ⟨rfl, rfl⟩
  rw [show (newY p0 2).ns.length = 0 from rfl]
  go_simp
  go_wp2_with fail
  refine (ya_tick Y0.out G0.out (by omega) (by show (0 : Nat) ≤ 900000; omega)).mono ?_
  rintro x w4 ⟨rfl, hY⟩
  rw [H1.out] at hY ⊢
  rw [L1.out]
  have Y1 := hid hY
  clear hY Y0
  go_simp
  go_wp2_with fail
  refine (ya_del Y1.out G1.out (by omega) (by omega) (by rw [L1.out]; omega) 0 (by rw [L1.out]; omega) false).mono ?_
  rintro x w5 ⟨rfl, hY⟩
  rw [H2.out] at hY
  have Y2 := hid hY
  clear hY Y1
  go_simp
  go_wp2_with fail
  refine (ya_del Y2.out G2.out (by omega) (by omega) (by rw [L2.out]; omega) 0 (by rw [L2.out]; omega) false).mono ?_
  rintro x w6 ⟨rfl, hY⟩
  rw [H3.out] at hY
  have Y3 := hid hY
  clear hY Y2
  go_simp
  go_wp2_with fail
  refine (ya_ver Y3.out 1 (by rw [UN.out]; omega)).mono ?_
  rintro x w7 ⟨rfl, hb⟩
  rw [U1.out]
  have Y4 := hid (Y3.out.below hb)
  clear hb Y3
  simp only [if_true, HV.out]
  go_simp
  go_wp2_with fail
  go_upto_region 9 with (fail)
  have BP : Hid (Fb w7 P 330 (pc p0)) := hid (Y4.out.memR (t := thB P 330 (pc p0)) (by simp))
  refine wp_region_held_drew (S := fun (w' : World) => Fb w' P 330 (pc p0)) (by kernel_rfl) ?_ (fun hHeld => ?_)
  · exact BP.out.below (below_drew _)
  have Y4' := Y4.out.below (below_drew _)
  clear Y4 BP
  refine tkq 0 hHeld ?_
  refine tkq 1 hHeld ?_
  refine tkq 2 hHeld ?_
  refine tkq 3 hHeld ?_
  refine tkq 4 hHeld ?_
  refine tkq 5 hHeld ?_
  refine tkq 6 hHeld ?_
  refine tkq 7 hHeld ?_
  refine tkq 8 hHeld ?_
  refine tkq 9 hHeld ?_
  refine tkq 10 hHeld ?_
  refine tkq 11 hHeld ?_
  refine tkq 12 hHeld ?_
  refine tkq 13 hHeld ?_
  refine only 14 rfl (by kernel_rfl) rfl (fun K hK => ?_)
  go_simp
  refine (ya_notes Y4').mono ?_
  rintro x w' ⟨rfl, rfl⟩
  rw [L3.out]
  try go_wp2_with fail
  refine hK.out _ _ (hHeld) (fun h2 => ?_)
  clear hK
  try simp only [Act.put, List.setIfInBounds_toArray, List.set_cons_zero, List.set_cons_succ]
  refine tkq 15 h2 ?_
  refine tkq 16 h2 ?_
  refine tkq 17 h2 ?_
  refine tkq 18 h2 ?_
  refine tkq 19 h2 ?_
  refine tkq 20 h2 ?_
  refine tkq 21 h2 ?_
  refine tkq 22 h2 ?_
  refine tkq 23 h2 ?_
  refine tkq 24 h2 ?_
  refine tkq 25 h2 ?_
  refine only 26 rfl (by kernel_rfl) rfl (fun K hK => ?_)
  go_simp
  refine (ya_del Y4' G3.out (by omega) (by omega) (by rw [L3.out]; omega) 0 (by rw [L3.out]; omega) false).mono ?_
  rintro x w8 ⟨rfl, hY⟩
  rw [H4.out] at hY
  have Y5 := hid hY
  try go_wp2_with fail
  refine hK.out _ _ (hY.memR (t := thB P 330 (pc p0)) (by simp)) (fun h3 => ?_)
  clear hK
  try simp only [Act.put, List.setIfInBounds_toArray, List.set_cons_zero, List.set_cons_succ]
  clear hY
  refine tkq 27 h3 ?_
  refine tkq 28 h3 ?_
  refine tkq 29 h3 ?_
  refine only 30 rfl (by kernel_rfl) rfl (fun K hK => ?_)
  go_simp
  refine (ya_lose Y5.out 0 (by rw [L4.out]; omega)).mono ?_
  rintro x w9 ⟨rfl, hY⟩
  rw [H5.out] at hY
  have Y6 := hid hY
  try go_wp2_with fail
  refine hK.out _ _ (hY.memR (t := thB P 330 (pc p0)) (by simp)) (fun h4 => ?_)
  clear hK
  try simp only [Act.put, List.setIfInBounds_toArray, List.set_cons_zero, List.set_cons_succ]
  clear hY
  refine tkq 31 h4 ?_
  refine tkq 32 h4 ?_
  refine tkq 33 h4 ?_
  refine only 34 rfl (by kernel_rfl) rfl (fun K hK => ?_)
  go_simp
  refine (ya_loseN Y6.out 0 (by rw [L5.out]; rfl)).mono ?_
  rintro x w' ⟨rfl, rfl⟩
  try go_wp2_with fail
  refine hK.out _ _ (h4) (fun h5 => ?_)
  clear hK
  try simp only [Act.put, List.setIfInBounds_toArray, List.set_cons_zero, List.set_cons_succ]
  refine tkq 35 h5 ?_
  refine tkq 36 h5 ?_
  refine tkq 37 h5 ?_
  refine tkq 38 h5 ?_
  refine tk 40 (v := .agg (FA 330 (pc p0))) rfl (by kernel_rfl) (by kernel_rfl) (by kernel_rfl) (fun _ _ _ h => h) rfl (fun w hSw => ex_load rfl rfl (hSw.load 0 330 (pc p0) (by omega) (fun j hj => by rw [Nat.zero_add]) Tryz.underlying33 rfl info_pl)) h5 ?_; (try simp only [Act.put, List.setIfInBounds_toArray, List.set_cons_zero, List.set_cons_succ])
  refine only 39 rfl (by kernel_rfl) rfl (fun K hK => ?_)
  go_simp
  refine (ya_pool Y6.out).mono ?_
  rintro x w10 ⟨rfl, hY⟩
  rw [PL.out]
  have Y7 := hid hY
  try go_wp2_with fail
  refine hK.out _ _ (hY.memR (t := thB P 330 (pc p0)) (by simp)) (fun h6 => ?_)
  clear hK
  try simp only [Act.put, List.setIfInBounds_toArray, List.set_cons_zero, List.set_cons_succ]
  clear hY
  refine tk 41 (v := .bool true) rfl (by kernel_rfl) (by kernel_rfl) (by kernel_rfl) (fun _ _ _ h => h) rfl (fun w hSw => ex_eqFP _ _ rfl p0 rfl rfl _) h6 ?_; (try simp only [Act.put, List.setIfInBounds_toArray, List.set_cons_zero, List.set_cons_succ])
  refine tkq 42 h6 ?_
  refine tkq 43 h6 ?_
  refine wpAnyH_done (by kernel_rfl) ?_ _
  go_wp2_with fail
  go_ret
  exact ⟨rfl, Y7.out.ch.below (by simp) (Nat.le_refl _)⟩
end Go.Proofs.YteefhiniamajkaaGreat
namespace Go.Proofs.YteefhiniamajkaaGreat
set_option linter.unusedVariables false
set_option linter.unusedSimpArgs false
open Go.RowKit Go.ChangeShapes Go.WideShapes Go.ChangeAt
set_option maxRecDepth 100000
attribute [local irreducible] FA FL
section
variable {y : Yd} {K : Int}
theorem sendH_q (h : Hd) : (sendH h).q.length ≤ h.q.length ∧ (sendH h).ah = h.ah := by
  unfold sendH
  split
  · unfold pubH
    cases hq : h.q with
    | nil => exact ⟨by show h.q.length ≤ ([] : List En).length; rw [hq]; exact Nat.le_refl _, rfl⟩
    | cons e t =>
      simp only
      split
      · exact ⟨by show t.length ≤ (e :: t).length; simp, rfl⟩
      · exact ⟨by show t.length ≤ (e :: t).length; simp, rfl⟩
  · exact ⟨Nat.le_refl _, rfl⟩
theorem heardH_q (h : Hd) (n : Nt) : (heardH h n).q = h.q ∧ (heardH h n).ah = h.ah ∧ (heardH h n).pl = h.pl := by
  unfold heardH
  split
  · split <;> exact ⟨rfl, rfl, rfl⟩
  · exact ⟨rfl, rfl, rfl⟩
theorem delY_h (y : Yd) (i : Nat) (k : Bool) : (delY y i k).h.un = y.h.un ∧ (delY y i k).h.q = y.h.q ∧ (delY y i k).h.ah = y.h.ah ∧ (delY y i k).h.pl = y.h.pl ∧ (delY y i k).ns.length ≤ y.ns.length + 1 := by
  have hd : ∀ l : List Nt, (dropL l i k).length ≤ l.length := fun l => by
    unfold dropL
    split
    · exact Nat.le_refl _
    · rw [List.length_eraseIdx]; split <;> omega
  cases hn : y.ns[i]? with
  | none => rw [delY_none hn]; exact ⟨rfl, rfl, rfl, rfl, by omega⟩
  | some n =>
    rw [delY_some hn]
    have := hd y.ns
    unfold getY
    by_cases ha : n.ak = true
    · rw [if_pos ha]
      obtain ⟨a, b, c⟩ := heardH_q y.h n
      exact ⟨heardH_un _ _, a, b, c, by show (dropL y.ns i k).length ≤ _; omega⟩
    · rw [if_neg ha]
      exact ⟨rfl, rfl, rfl, rfl, by show (dropL y.ns i k ++ [_]).length ≤ _; rw [List.length_append, List.length_singleton]; omega⟩
theorem tickY_len (y : Yd) : (tickY y).ns.length ≤ y.ns.length + y.h.un := by
  show (y.ns ++ notesK (sendH y.h) y.h.un).length ≤ _
  rw [List.length_append]
  have := notesK_len (sendH y.h) y.h.un
  omega
end
theorem run_invY {p : Pl} {g : Nat → En} {K : Int} (hp : Pinv p K) : ∀ {k : Nat} {q : Pl}, runP p g k = some q → Pinv q (K + k)
  | 0, q, h => by
    unfold runP at h
    injection h with h
    subst h
    exact hp.mono (by omega)
  | k + 1, q, h => by
    unfold runP at h
    cases h1 : runP p g k with
    | none => rw [h1] at h; cases h
    | some q1 =>
      rw [h1] at h
      simp only at h
      have ih := run_invY hp h1
      by_cases h0 : (apR q1 (g k)).2 = 0
      · rw [if_pos h0] at h
        injection h with h
        rw [← h]
        exact (apR_inv ih h0).mono (by omega)
      · rw [if_neg h0] at h; cases h
/-- Where a yard is, counted. -/
def AP (W : World) (D : Yl) (R : List Th) (u k : Nat) (w : World) : Prop := ∃ y : Yd, YA [] W w D y R (16 + k) ∧ Fit y (30 + 2 * k) ∧ y.h.un = u ∧ y.ns.length ≤ 20 * k ∧ y.h.q.length ≤ k ∧ Pinv y.h.ah (30 + k)
section
variable {W w : World} {D : Yl} {R : List Th} {u k : Nat} {y : Yd}
theorem ap_same (hY : YA [] W w D y R (16 + k)) (hF : Fit y (30 + 2 * k)) (hu : y.h.un = u) (hn : y.ns.length ≤ 20 * k) (hq : y.h.q.length ≤ k) (hp : Pinv y.h.ah (30 + k)) : AP W D R u (k + 1) w :=
  ⟨y, hY.mono (by omega), hF.mono (by omega), hu, by omega, by omega, hp.mono (by omega)⟩
theorem ap_tick (hY : YA [] W w D (tickY y) R (16 + k)) (hF : Fit y (30 + 2 * k)) (hu : y.h.un = u) (hn : y.ns.length ≤ 20 * k) (hq : y.h.q.length ≤ k) (hp : Pinv y.h.ah (30 + k)) : AP W D R u (k + 1) w := by
  obtain ⟨a, b⟩ := sendH_q y.h
  have := tickY_len y
  have h16 := hF.2.1.2
  exact ⟨tickY y, hY.mono (by omega), hF.tick.mono (by omega), (sendH_un _).trans hu, by omega, by show (sendH y.h).q.length ≤ k + 1; omega, by show Pinv (sendH y.h).ah _; rw [b]; exact hp.mono (by omega)⟩
theorem ap_del {i : Nat} {c : Bool} (hY : YA [] W w D (delY y i c) R (16 + k + 1)) (hF : Fit y (30 + 2 * k)) (hu : y.h.un = u) (hn : y.ns.length ≤ 20 * k) (hq : y.h.q.length ≤ k) (hp : Pinv y.h.ah (30 + k)) : AP W D R u (k + 1) w := by
  obtain ⟨a, b, e, _, f⟩ := delY_h y i c
  exact ⟨delY y i c, hY.mono (by omega), (hF.del i c).mono (by omega), a.trans hu, by omega, by rw [b]; omega, by rw [e]; exact hp.mono (by omega)⟩
theorem ap_lose {i : Nat} (hY : YA [] W w D (loY y i) R (16 + k)) (hF : Fit y (30 + 2 * k)) (hu : y.h.un = u) (hn : y.ns.length ≤ 20 * k) (hq : y.h.q.length ≤ k) (hp : Pinv y.h.ah (30 + k)) : AP W D R u (k + 1) w :=
  ⟨loY y i, hY.mono (by omega), (hF.lose i).mono (by omega), hu, by show (y.ns.eraseIdx i).length ≤ _; rw [List.length_eraseIdx]; split <;> omega, by show y.h.q.length ≤ k + 1; omega, by show Pinv y.h.ah _; exact hp.mono (by omega)⟩
theorem ap_crash {i : Nat} (hi : i < y.h.un) (hY : YA [] W w D (crY y i) R (16 + k)) (hF : Fit y (30 + 2 * k)) (hu : y.h.un = u) (hn : y.ns.length ≤ 20 * k) (hq : y.h.q.length ≤ k) (hp : Pinv y.h.ah (30 + k)) : AP W D R u (k + 1) w :=
  ⟨crY y i, hY.mono (by omega), (hF.crash hi).mono (by omega), hu, by show y.ns.length ≤ _; omega, by show y.h.q.length ≤ k + 1; omega, by show Pinv y.h.ah _; exact hp.mono (by omega)⟩
theorem ya_wish1 {S : List Nat} {N : Nat} {w' : World} (h : YA S W w D y R N) (hb : Below w.heap.size w w') (e : En) (E : Nat) (hE : w.heap.size ≤ E) (hA : Se w' (some ⟨E, 0, none⟩) 1 (fun _ => e)) (hq : y.h.q.length + 1 ≤ 200) (K : Int) (hp : Pinv y.h.ah K) (hK : K ≤ 99999) : Calls Tryz.prog 10 #[.pointer (some ⟨D.Y, 0, none⟩), .slice (some ⟨E, 0, none⟩) 1 1] w' fun x w'' => ∃ (er : Int) (a : Pl) (q : List En), x = .returned (.int .i64 er) ∧ YA S W w'' D ⟨{ y.h with ah := a, q := q }, y.uf, y.ns⟩ R N ∧ q.length ≤ y.h.q.length + 1 ∧ Pinv a (K + 1) := by
  obtain ⟨V, ns, bf, hn, h1, h2, h3⟩ := h
  have hl := (h3.nth 2 rfl : HeadAt w D.hb D.hc D.hm hn y.h)
  refine (yd_wish (h3.below hb) (fun _ => e) (some ⟨E, 0, none⟩) 1 1 hA (fun ad ea _ hm => ?_) hq K hp (by omega)).mono ?_
  · injection ea with ea
    subst ea
    have h4 : ∀ b, b ∈ [D.hb, D.hc, D.hm] → b < w.heap.size := (thH D.hb D.hc D.hm hn y.h).lt w hl
    have := h4 E hm
    omega
  · rintro x w2 ⟨q, j, er, ho, rfl, hZ⟩
    by_cases h0 : er = 0
    · rw [if_pos h0] at hZ
      have hj : j = 1 := by
        rcases ho.2 with ⟨e1, _⟩ | ⟨_, _, e3⟩
        · exact e1
        · exact absurd h0 e3
      have hr := ho.1
      rw [hj] at hr
      exact ⟨er, q, y.h.q ++ [e], rfl, ⟨V, ns, bf, hn, h1, h2, hZ⟩, by simp, run_invY (k := 1) hp hr⟩
    · rw [if_neg h0] at hZ
      exact ⟨er, y.h.ah, y.h.q, rfl, ⟨V, ns, bf, hn, h1, h2, hZ⟩, by omega, hp.mono (by omega)⟩
theorem ap_wish {a : Pl} {q : List En} (hY : YA [] W w D ⟨{ y.h with ah := a, q := q }, y.uf, y.ns⟩ R (16 + k)) (hF : Fit y (30 + 2 * k)) (hu : y.h.un = u) (hn : y.ns.length ≤ 20 * k) (hq : y.h.q.length ≤ k) (hq2 : q.length ≤ y.h.q.length + 1) (hp : Pinv a (30 + k + 1)) : AP W D R u (k + 1) w :=
  ⟨⟨{ y.h with ah := a, q := q }, y.uf, y.ns⟩, hY.mono (by omega), (hF.wish a q).mono (by omega), hu, by show y.ns.length ≤ _; omega, by show q.length ≤ k + 1; omega, hp.mono (by omega)⟩
end
end Go.Proofs.YteefhiniamajkaaGreat
namespace Go.Proofs.YteefhiniamajkaaGreat
set_option linter.unusedVariables false
set_option linter.unusedSimpArgs false
open Go.RowKit Go.ChangeShapes Go.WideShapes Go.ChangeAt
set_option maxRecDepth 100000
attribute [local irreducible] FA FL
/-- What comes first arrives, till nothing is on its way. -/
def runD : Nat → Yd → Yd
  | 0, y => y
  | k + 1, y => if y.ns = [] then y else runD k (delY y 0 false)
def setl : Nat → Yd → Yd
  | 0, y => y
  | k + 1, y => runD 100 (tickY (setl k y))
theorem runD_nil {y : Yd} (k : Nat) (h : y.ns = []) : runD k y = y := by
  cases k with
  | zero => rfl
  | succ k => unfold runD; rw [if_pos h]
theorem runD_cons {y : Yd} (k : Nat) (h : 0 < y.ns.length) : runD (k + 1) y = runD k (delY y 0 false) := by
  rw [runD, if_neg (fun e => by rw [e] at h; exact absurd h (by simp))]
theorem del0_len (y : Yd) (h : 0 < y.ns.length) : (delY y 0 false).ns.length ≤ y.ns.length := by
  have hd : (dropL y.ns 0 false).length = y.ns.length - 1 := by
    show (y.ns.eraseIdx 0).length = _
    rw [List.length_eraseIdx, if_pos h]
  obtain ⟨n, hn⟩ : ∃ n, y.ns[0]? = some n := ⟨_, List.getElem?_eq_getElem h⟩
  rw [delY_some hn]
  unfold getY
  split
  · show (dropL y.ns 0 false).length ≤ _
    omega
  · show (dropL y.ns 0 false ++ [_]).length ≤ _
    rw [List.length_append, hd, List.length_singleton]
    omega
section
variable {S : List Nat} {W w : World} {D : Yl} {y : Yd} {R : List Th} {N B n : Nat} {K : Int}
set_option maxHeartbeats 16000000 in
theorem settle_any (hY : YA S W w D y R N) (hF : Fit y K) (hK : K ≤ 10000) (hN : N ≤ 100000) (hns : y.ns.length ≤ B) (hB : B ≤ 10000) (hn : n ≤ 100) : Calls Tryz.prog 12 #[.pointer (some ⟨D.Y, 0, none⟩), .int .i64 (n : Int)] w fun x w' => x = .returned (.tuple #[]) ∧ YA S W w' D (setl n y) R (N + 101 * n) := by
  have Y0 := hid hY
  have F0 := hid hF
  have NS0 := hid hns
  clear hY hF hns
  go_enter Tryz.func12, Tryz.ntmps12
  go_wp2_with fail
  go_loopw [4] (fun i wr => ∃ k : Nat, k ≤ n ∧ i = .int .i64 (k : Int) ∧ YA S W wr D (setl k y) R (N + 101 * k) ∧ Fit (setl k y) (K + k) ∧ (setl k y).ns.length ≤ B + 16 * k) (fun i _ => n - (intOf i).toNat)
  case atStart => exact ⟨0, Nat.zero_le _, rfl, Y0.out, F0.out.mono (by omega), NS0.out⟩
  case round =>
    clear Y0 F0 NS0
    obtain ⟨k, hk, rfl, hY, hF, hns⟩ := hrel
    have Y1 := hid hY
    have F1 := hid hF
    have N1 := hid hns
    clear hY hF hns
    by_cases hlt : (k : Int) < n
    · have hkn : k < n := by omega
      go_wp2_with fail
      refine (ya_tick Y1.out F1.out (by omega) (by have := N1.out; omega)).mono ?_
      rintro x w2 ⟨rfl, hY⟩
      obtain ⟨y1, hy1⟩ : ∃ y1, y1 = setl k y := ⟨_, rfl⟩
      have HS_ := hid (show setl (k + 1) y = runD 100 (tickY y1) from by rw [hy1]; rfl)
      rw [← hy1] at hY F1 N1 ⊢
      have Y2 := hid hY
      have F2 := hid F1.out.tick
      have N2 := hid (show (tickY y1).ns.length ≤ B + 16 * (k + 1) from by have h1 := tickY_len y1; have h2 := F1.out.2.1.2; have h3 := N1.out; omega)
      clear hY Y1 F1 N1 hy1
      go_simp
      go_wp2_with fail
      go_loopw [5] (fun i wx => ∃ (j : Nat) (y' : Yd), j ≤ 100 ∧ i = .int .i64 (j : Int) ∧ runD 100 (tickY y1) = runD (100 - j) y' ∧ YA S W wx D y' R (N + 101 * k + j) ∧ Fit y' (K + k + 1) ∧ y'.ns.length ≤ B + 16 * (k + 1)) (fun i _ => 100 - (intOf i).toNat)
      case atStart => exact ⟨0, tickY y1, by omega, rfl, rfl, Y2.out, F2.out, N2.out⟩
      case round =>
        clear Y2 F2 N2
        obtain ⟨j, y', hj, rfl, hr, hY, hF, hns⟩ := hrel
        have Y3 := hid hY
        have F3 := hid hF
        have N3 := hid hns
        have RR := hid hr
        clear hY hF hns hr
        by_cases hjl : (j : Int) < 100
        · by_cases h0 : y'.ns.length = 0
          · have DL := hid (ya_delN Y3.out 0 (by rw [h0]; rfl) false)
            have E9 := hid (show runD (100 - j) y' = y' from runD_nil _ (List.length_eq_zero_iff.1 h0))
            clear h0 Y3
            go_wp2_with fail
            refine DL.out.mono ?_
            rintro x w3 ⟨rfl, hY⟩
            have Y4 := hid hY
            clear hY DL
            go_simp
            go_wp2_with fail
            go_roundw
            case rel => exact ⟨k + 1, by omega, by go_num, by rw [HS_.out, RR.out, E9.out]; exact Y4.out.mono (by omega), by rw [HS_.out, RR.out, E9.out]; exact F3.out.mono (by omega), by rw [HS_.out, RR.out, E9.out]; exact N3.out⟩
            case measure => simp [intOf]; omega
          · have h1 : 0 < y'.ns.length := by omega
            have DL := hid (ya_del Y3.out F3.out (by omega) (by omega) (by have := N3.out; omega) 0 h1 false)
            have FD := hid (F3.out.del 0 false)
            have E9 := hid (show runD (100 - j) y' = runD (100 - (j + 1)) (delY y' 0 false) from by rw [show 100 - j = (100 - (j + 1)) + 1 by omega]; exact runD_cons _ h1)
            have ND := hid (show (delY y' 0 false).ns.length ≤ B + 16 * (k + 1) from by have h2 := del0_len y' h1; have h3 := N3.out; omega)
            clear h0 h1 Y3 N3 F3
            go_wp2_with fail
            refine DL.out.mono ?_
            rintro x w3 ⟨rfl, hY⟩
            have Y4 := hid hY
            clear hY DL
            go_simp
            go_wp2_with fail
            go_roundw
            case rel => exact ⟨j + 1, _, by omega, by go_num, by rw [RR.out, E9.out], Y4.out.mono (by omega), FD.out, ND.out⟩
            case measure => simp [intOf]; omega
        · have hje : j = 100 := by omega
          subst hje
          have E9 := hid (show runD (100 - 100) y' = y' from rfl)
          go_wp2_with fail
          go_roundw
          case rel => exact ⟨k + 1, by omega, by go_num, by rw [HS_.out, RR.out, E9.out]; exact Y3.out.mono (by omega), by rw [HS_.out, RR.out, E9.out]; exact F3.out.mono (by omega), by rw [HS_.out, RR.out, E9.out]; exact N3.out⟩
          case measure => simp [intOf]; omega
    · have hkn : k = n := by omega
      subst hkn
      go_wp2_with fail
      go_end0
      exact ⟨rfl, Y1.out⟩
end
end Go.Proofs.YteefhiniamajkaaGreat
