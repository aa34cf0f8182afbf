/- Of what may be wrong with a packet the first thing is told, pure. -/
import Derived.Test.YtjfopkbpaekejaaGreatGa
import Derived.Test.YtjfopkbpaekejaaGreatTopAll
import Derived.Test.YtjfopkbpaekejaaGreatTopChM
import Derived.Test.YtjfopkbpaekejaaGreatTopRtS
import Derived.Test.YtjfopkbpaekejaaGreatTopOut
import Derived.BigQuiet
import Derived.Deep.RegionHeld3
import Derived.Deep.Cut
import Derived.IntWalk
namespace Go.Proofs.YtjfopkbpaekejaaGreat
set_option linter.unusedVariables false
set_option linter.unusedSimpArgs false
open Go.RowKit Go.ChangeShapes Go.WideShapes Go.ChangeAt
set_option maxRecDepth 100000
theorem en_a (n : Int) : 0 ≤ (enN n).a ∧ (enN n).a ≤ 4 := by
  unfold enN enK
  split
  · exact ⟨by show 0 ≤ wi n 1125899906842624 / 400 % 5; omega, by show wi n 1125899906842624 / 400 % 5 ≤ 4; omega⟩
  · exact ⟨by show 0 ≤ wi n 1125899906842624 / 400 % 5; omega, by show wi n 1125899906842624 / 400 % 5 ≤ 4; omega⟩
  all_goals exact ⟨by show (0 : Int) ≤ 0; decide, by show (0 : Int) ≤ 4; decide⟩
theorem chS_a {p : Pl} {e : En} {i : Nat} (h : 0 ≤ (p.s i).ad ∧ (p.s i).ad ≤ 4) (he : 0 ≤ e.a ∧ e.a ≤ 4) : 0 ≤ (chS p e i).ad ∧ (chS p e i).ad ≤ 4 := by
  unfold chS
  cases (e.k == 1)
  · cases (e.k == 2)
    · cases (e.k == 3)
      · cases (e.k == 4)
        · cases (e.k == 5)
          · exact h
          · exact ⟨by show (0 : Int) ≤ 0; decide, by show (0 : Int) ≤ 4; decide⟩
        · exact h
      · exact h
    · exact h
  · exact he
theorem mk_ad (g : Nat → Int) : ∀ (k i : Nat), 0 ≤ ((mkP g k).s i).ad ∧ ((mkP g k).s i).ad ≤ 4
  | 0, i => ⟨by show (0 : Int) ≤ 0; decide, by show (0 : Int) ≤ 4; decide⟩
  | k + 1, i => by
    have ih := mk_ad g k
    unfold mkP
    split
    · rename_i h
      rw [(apR_ok h).2.2]
      unfold nxP
      cases (enN (g k)).k == 6
      · show 0 ≤ (setS (mkP g k).s _ _ i).ad ∧ (setS (mkP g k).s _ _ i).ad ≤ 4
        unfold setS
        split
        · exact chS_a (ih _) (en_a _)
        · exact ih i
      · exact ih i
    · exact ih i
theorem find_far {p : Pl} (h : ∀ i, (p.s i).ad ≤ 4) {a q : Int} (ha : 4 < a) : findO p a q = none := by
  unfold findO
  refine List.find?_eq_none.2 fun j hj => ?_
  unfold tkS
  have := h j
  simp
  intro _ e
  omega
theorem kd_E3 {x : Pk} (h : Mkd x) (hl : 0 ≤ x.life ∧ x.life ≤ 255) (hp : 0 ≤ x.piece ∧ x.piece ≤ 255) (hs : 0 ≤ x.src ∧ x.src ≤ 4294967295) (hd : 0 ≤ x.dst ∧ x.dst ≤ 4294967295) (hf : 0 ≤ x.fp ∧ x.fp ≤ 65535) : buildE x = 0 ∧ Clean x ∧ 24 ≤ lenP x ∧ lenP x ≤ 1500 := by
  have hn := h.no
  have hm := h.nd
  have ht := h.tp
  have hfl := h.fl
  have hlb := h.lb
  have hL : lenP x = 24 + (if x.kind = 2 then 0 else x.no) + x.nd := by
    unfold lenP
    rcases h.kd with k | k
    · rw [k, if_neg (by decide), if_neg (by decide), if_neg (by decide)]
    · rw [k, if_neg (by decide), if_pos rfl, if_pos rfl]
  have hL2 : lenP x ≤ 1500 := by rw [hL]; split <;> omega
  have hr : rangeB x = true := by
    unfold rangeB inR
    rcases h.kd with k | k
    · rw [k, if_neg (by decide), if_neg (by decide)]; simp; omega
    · rw [k, if_neg (by decide), if_pos rfl]; simp; omega
  refine ⟨?_, ⟨fun k => ?_, h.cl.1, h.cl.2.1, fun _ => h.cl.2.2⟩, by omega, hL2⟩
  · unfold buildE
    rw [hr, if_neg (by rcases h.kd with k | k <;> (rw [k]; decide)), if_neg (by simp), if_neg (by omega), if_neg (by rcases h.kd with k | k <;> omega)]
  · rcases h.kd with j | j <;> (rw [j] at k; exact absurd k (by decide))
/-- A head whose last byte is one more. -/
def spo (g : Nat → Int) : Nat → Int := set1 g 15 ((g 15 + 1) % 256)
theorem spo_B {g : Nat → Int} (hg : IsB g) : IsB (spo g) := by
  intro j
  unfold spo set1
  split
  · omega
  · exact hg j
theorem spo_put {g : Nat → Int} (hg : IsB g) : spo g = putF g 14 2 (g 14 * 256 + (g 15 + 1) % 256) := by
  funext j
  have h14 := hg 14
  unfold spo set1 putF
  by_cases h : j = 15
  · subst h; rw [if_pos rfl, if_pos (by omega)]; show _ = by8 _ 0; rw [by8_0]; omega
  · rw [if_neg h]
    by_cases h2 : j = 14
    · subst h2; rw [if_pos (by omega)]; show _ = by8 _ 1; rw [by8_1]; omega
    · rw [if_neg (by omega)]
theorem spo_E {g : Nat → Int} {n : Nat} (hg : IsB g) (hq : parseE g n = 0) : parseE (spo g) n = 4 := by
  obtain ⟨h1, _⟩ := parseE_0 hq
  have hh := headE_0 h1
  have o : ∀ j, j ≠ 15 → spo g j = g j := fun j h => by unfold spo set1; rw [if_neg h]
  have hp : pairF (spo g) n 2 = pairF g n 2 := by
    have e2 := o 2 (by omega)
    have e3 := o 3 (by omega)
    unfold pairF
    rw [num_2, num_2, e2, show 2 + 1 = 3 from rfl, e3]
  have ht : tot (spo g) 16 = tot g 16 + (g 15 + 1) % 256 - g 15 := by
    rw [spo_put hg]
    have h14 := hg 14
    have := tot_put2 g 7 (g 14 * 256 + (g 15 + 1) % 256) (by omega) (by omega) 16 (by omega)
    rw [show 2 * 7 = 14 from rfl] at this
    have n14 : num g 14 2 = g 14 * 256 + g 15 := num_2 g 14
    rw [this, n14]
    omega
  have h15 := hg 15
  have htg := (norm_right (t := tot g 16) (tot_nonneg g hg 16)).1 hh.2.2.2.2.2
  have hbad : ¬ norm (tot (spo g) 16) = 65535 := fun h => by
    have := (norm_right (t := tot (spo g) 16) (tot_nonneg (spo g) (spo_B hg) 16)).1 h
    omega
  have hE : headE (spo g) n = 4 := by
    unfold headE
    rw [if_neg (by omega), o 0 (by omega), if_neg (by rw [hh.2.1]; decide), hp, hh.2.2.1, o 13 (by omega), hh.2.2.2.2.1, if_neg (by simp; omega), if_pos (by simpa using hbad)]
  unfold parseE
  rw [hE, if_neg (by decide)]
/-- What becomes of it. -/
def ordW (p : Pl) (y : Pk) : Int := if y.piece ≠ 0 then 6 else if y.life ≤ 1 then 7 else if (findO p y.src y.fp).isSome = true then 0 else 8
theorem ord_take {p : Pl} (hp : Pt p) (ha : p.a = 10) {y : Pk} {n : Nat} {G : Nat → Int} (hg : IsB G) (hq : parseE G n = 0) (pe : Pe (parseR G n) y) (hk : y.kind = 1 ∨ y.kind = 2) (hd : y.dst ≠ 10) (hgo : IsB y.go) (hlb : 0 ≤ y.label ∧ y.label ≤ 65535) {nr : Nat → Option Int} (hnr : Nt32 nr) :
    ∃ t, takeT p true nr G n = t ∧ t.d = ordW p y ∧ (t.n : Int) = if ordW p y = 0 then (n : Int) else 0 := by
  have hk3 : y.kind ≠ 3 := by omega
  unfold ordW
  by_cases h1 : y.piece ≠ 0
  · rw [if_pos h1]
    refine ⟨dropT 6 nr, ?_, rfl, rfl⟩
    unfold takeT
    dsimp only
    rw [if_neg (by simp), hq, if_neg (by simp), pe.piece, if_pos h1]
  · rw [if_neg h1]
    by_cases h2 : y.life ≤ 1
    · rw [if_pos h2]
      refine ⟨dropT 7 nr, ?_, rfl, rfl⟩
      unfold takeT
      dsimp only
      rw [if_neg (by simp), hq, if_neg (by simp), pe.piece, if_neg h1, pe.life, if_pos h2]
    · rw [if_neg h2]
      have h0 : y.piece = 0 := by omega
      cases hf : findO p y.src y.fp with
      | none =>
        refine ⟨dropT 8 nr, ?_, rfl, rfl⟩
        unfold takeT
        dsimp only
        rw [if_neg (by simp), hq, if_neg (by simp), pe.piece, if_neg h1, pe.life, if_neg h2, pe.dst, pe.kind, if_neg (fun h => hk3 h.2), ha, if_neg (fun h => hd h.1), if_neg hk3, pe.src, pe.fp, hf]
      | some s =>
        obtain ⟨F, nr', go', lb, a1, _⟩ := out_all (s := s) hp hnr hg hq pe hk (by omega) hgo hlb (find_lt hf)
        refine ⟨⟨0, -1, false, n, F, nr'⟩, ?_, rfl, rfl⟩
        rw [take_out hq pe h0 (by omega) hk3 (by rw [ha]; exact fun h => hd h.1) hf, a1]
end Go.Proofs.YtjfopkbpaekejaaGreat
