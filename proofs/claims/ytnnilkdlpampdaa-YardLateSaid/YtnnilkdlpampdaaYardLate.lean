/- roundhouselaw12.YardLate answers true for every row, any three numbers; no condition. -/
import Derived.Test.YtnnilkdlpampdaaYdSet
import Derived.BigQuiet
import Derived.Deep.RegionHeld3
import Derived.Deep.Cut
import Derived.Deep.CutRange
import Derived.IntWalk
namespace Go.Proofs.Ytnnilkdlpampdaa.yardLate
set_option linter.unusedVariables false
set_option linter.unusedSimpArgs false
open Go.RowKit Go.ChangeShapes Go.WideShapes Go.ChangeAt
theorem win {A B : List Nt} {n t : Nat} {a b : Nt} (hA : A.length = n) (hB : B.length = n) (ha : A[t]? = some a) (hb : B[t]? = some b) : ∃ r, ((A ++ B).drop t).take n = a :: r ∧ r ++ [b] = ((A ++ B).drop (t + 1)).take n := by
  have ht : t < A.length := (List.getElem?_eq_some_iff.1 ha).1
  obtain ⟨m, hm⟩ : ∃ m, n = m + 1 := ⟨n - 1, by omega⟩
  have hlt : t < (A ++ B).length := by rw [List.length_append]; omega
  have h9 : (A ++ B)[t] = a := by
    have h8 : (A ++ B)[t]? = some a := by rw [List.getElem?_append_left ht]; exact ha
    rw [List.getElem?_eq_getElem hlt] at h8
    exact Option.some.inj h8
  refine ⟨((A ++ B).drop (t + 1)).take m, ?_, ?_⟩
  · rw [List.drop_eq_getElem_cons hlt, h9, hm, List.take_succ_cons]
  · have e3 : (A ++ B)[t + 1 + m]? = some b := by
      rw [List.getElem?_append_right (by omega), show t + 1 + m - A.length = t by omega]
      exact hb
    rw [hm, List.take_add_one, List.getElem?_drop, e3]
    rfl
def T (p : Pl) (w : Nat) (c : Int) (i : Nat) : Uy := if i = w then ⟨c, zPl, false⟩ else ⟨0, p, true⟩
def kN (p : Pl) (w : Nat) (c : Int) (i : Nat) : Nt := ackU i (T p w c i)
def tr (p : Pl) (w : Nat) (c : Int) (i : Nat) : Wd := ⟨(T p w c i).b, ver (T p w c i)⟩
/-- What holds while words of the first notes come in. -/
def J (p : Pl) (u w : Nat) (c : Int) (y : Yd) : Prop := (y.h.un = u ∧ y.h.pl = p ∧ y.h.q = [] ∧ y.h.la = zEn) ∧ (∀ i, i < u → y.uf i = T p w c i) ∧ (∀ n, n ∈ y.ns → ∃ i, i < u ∧ (n = wN p i ∨ n = kN p w c i)) ∧
  (∀ i, i < u → y.h.wd i = ⟨0, -1⟩ ∨ y.h.wd i = tr p w c i) ∧ (∀ i, i < u → y.h.wd i = tr p w c i ∨ wN p i ∈ y.ns ∨ kN p w c i ∈ y.ns)
def wt (n : Nt) : Nat := if n.ak = true then 1 else 2
def mu (y : Yd) : Nat := (y.ns.map wt).sum
section
variable {p : Pl} {u w : Nat} {c : Int}
theorem read_T (hv : 0 ≤ p.v) (hc : 1 ≤ c) (i : Nat) : readU (wN p i) (T p w c i) = T p w c i := by
  unfold T
  by_cases h : i = w
  · rw [if_pos h]
    unfold readU
    rw [if_neg (by show ¬ (0 : Int) = c; omega)]
  · rw [if_neg h]
    exact read_w hv i (.inr rfl)
theorem ver_T (hv : 0 ≤ p.v) (i : Nat) : -1 ≤ ver (T p w c i) := by
  unfold T
  split
  · exact Int.le_refl _
  · show -1 ≤ p.v; omega
theorem heard_T (hv : 0 ≤ p.v) (hc : 1 ≤ c) {h : Hd} {i : Nat} (hi : i < h.un) (hw : h.wd i = ⟨0, -1⟩ ∨ h.wd i = tr p w c i) : (heardH h (kN p w c i)).un = h.un ∧ (heardH h (kN p w c i)).pl = h.pl ∧ (heardH h (kN p w c i)).q = h.q ∧ (heardH h (kN p w c i)).la = h.la ∧ (heardH h (kN p w c i)).wd i = tr p w c i ∧ ∀ j, j ≠ i → (heardH h (kN p w c i)).wd j = h.wd j := by
  have he : earB h (kN p w c i) = true := by
    unfold earB kN ackU
    simp
    omega
  have hk : (kN p w c i).u.toNat = i := by show ((i : Nat) : Int).toNat = i; omega
  have hm : (⟨(kN p w c i).b, mx (kN p w c i).v⟩ : Wd) = tr p w c i := by
    have := ver_T (p := p) (w := w) (c := c) hv i
    show (⟨(T p w c i).b, mx (ver (T p w c i))⟩ : Wd) = _
    unfold mx tr
    rw [if_neg (by omega)]
  unfold heardH
  rw [if_pos he, hk, hm]
  by_cases hcn : cntB (h.wd i) (tr p w c i) = true
  · rw [if_pos hcn]
    exact ⟨rfl, rfl, rfl, rfl, by show setW h.wd i _ i = _; unfold setW; rw [if_pos rfl], fun j hj => by show setW h.wd i _ j = _; unfold setW; rw [if_neg hj]⟩
  · rw [if_neg hcn]
    refine ⟨rfl, rfl, rfl, rfl, ?_, fun j _ => rfl⟩
    rcases hw with hw | hw
    · exfalso
      apply hcn
      rw [hw]
      unfold cntB tr T
      by_cases e : i = w
      · simp only [if_pos e]; simp; omega
      · simp only [if_neg e]; unfold ver; simp; omega
    · exact hw
theorem J_step (hv : 0 ≤ p.v) (hc : 1 ≤ c) {y : Yd} (h : J p u w c y) {n : Nt} {r : List Nt} (hns : y.ns = n :: r) : J p u w c (delY y 0 false) ∧ mu (delY y 0 false) + 1 = mu y := by
  obtain ⟨⟨a1, a2, a3, a4⟩, b, d, e, f⟩ := h
  have hd : dropL y.ns 0 false = r := by rw [hns]; rfl
  obtain ⟨i, hi, hn⟩ := d n (by rw [hns]; simp)
  rw [delY_some (n := n) (by rw [hns]; rfl), hd]
  rcases hn with rfl | rfl
  · have hG : getY y (wN p i) r = ⟨y.h, setU y.uf i (T p w c i), r ++ [kN p w c i]⟩ := by
      unfold getY
      have e1 : (wN p i).u.toNat = i := by show ((i : Nat) : Int).toNat = i; omega
      rw [if_neg (show ¬ (wN p i).ak = true from fun h => by cases h), e1, b i hi, read_T hv hc]
      rfl
    rw [hG]
    refine ⟨⟨⟨a1, a2, a3, a4⟩, fun j hj => ?_, fun m hm => ?_, e, fun j hj => ?_⟩, ?_⟩
    · show setU y.uf i (T p w c i) j = _
      unfold setU
      by_cases hji : j = i
      · rw [if_pos hji, hji]
      · rw [if_neg hji]; exact b j hj
    · rcases List.mem_append.1 hm with hm | hm
      · exact d m (by rw [hns]; exact List.mem_cons_of_mem _ hm)
      · rw [List.mem_singleton] at hm
        exact ⟨i, hi, .inr hm⟩
    · rcases f j hj with g | g | g
      · exact .inl g
      · rw [hns] at g
        rcases List.mem_cons.1 g with g | g
        · right; right
          have hji : j = i := by
            have h5 : ((j : Nat) : Int) = ((i : Nat) : Int) := congrArg Nt.u g
            omega
          rw [hji]
          exact List.mem_append.2 (.inr (by simp))
        · exact .inr (.inl (List.mem_append.2 (.inl g)))
      · rw [hns] at g
        rcases List.mem_cons.1 g with g | g
        · cases congrArg Nt.ak g
        · exact .inr (.inr (List.mem_append.2 (.inl g)))
    · unfold mu
      rw [hns]
      show ((r ++ [kN p w c i]).map wt).sum + 1 = _
      have w1 : wt (wN p i) = 2 := rfl
      have w3 : wt (kN p w c i) = 1 := rfl
      simp only [List.map_append, List.sum_append, List.map_cons, List.sum_cons, List.map_nil, List.sum_nil, w1, w3]
      omega
  · obtain ⟨g1, g2, g3, g4, g5, g6⟩ := heard_T (h := y.h) hv hc (by rw [a1]; exact hi) (e i hi)
    have hG : getY y (kN p w c i) r = ⟨heardH y.h (kN p w c i), y.uf, r⟩ := by
      unfold getY
      rw [if_pos (show (kN p w c i).ak = true from rfl)]
    rw [hG]
    refine ⟨⟨⟨g1.trans a1, g2.trans a2, g3.trans a3, g4.trans a4⟩, b, fun m hm => d m (by rw [hns]; exact List.mem_cons_of_mem _ hm), fun j hj => ?_, fun j hj => ?_⟩, ?_⟩
    · by_cases hji : j = i
      · rw [hji]; exact .inr g5
      · rw [show (⟨heardH y.h (kN p w c i), y.uf, r⟩ : Yd).h.wd j = y.h.wd j from g6 j hji]; exact e j hj
    · by_cases hji : j = i
      · rw [hji]; exact .inl g5
      · rw [show (⟨heardH y.h (kN p w c i), y.uf, r⟩ : Yd).h.wd j = y.h.wd j from g6 j hji]
        rcases f j hj with g | g | g
        · exact .inl g
        · rw [hns] at g
          rcases List.mem_cons.1 g with g | g
          · cases congrArg Nt.ak g
          · exact .inr (.inl g)
        · rw [hns] at g
          rcases List.mem_cons.1 g with g | g
          · exfalso
            have h5 : ((j : Nat) : Int) = ((i : Nat) : Int) := congrArg Nt.u g
            omega
          · exact .inr (.inr g)
    · unfold mu
      rw [hns, List.map_cons, List.sum_cons]
      have w1 : wt (kN p w c i) = 1 := rfl
      rw [w1]
      show (r.map wt).sum + 1 = _
      omega
theorem J_run (hv : 0 ≤ p.v) (hc : 1 ≤ c) : ∀ (k : Nat) (y : Yd), J p u w c y → mu y ≤ k → J p u w c (runD k y) ∧ (runD k y).ns = []
  | 0, y, h, hk => by
    refine ⟨h, ?_⟩
    show y.ns = []
    cases hns : y.ns with
    | nil => rfl
    | cons n r =>
      have := (J_step hv hc h hns).2
      omega
  | k + 1, y, h, hk => by
    cases hns : y.ns with
    | nil => rw [runD_nil _ hns]; exact ⟨h, hns⟩
    | cons n r =>
      rw [runD_cons k (by rw [hns]; simp)]
      obtain ⟨h1, h2⟩ := J_step hv hc h hns
      exact J_run hv hc k _ h1 (by omega)
theorem send_nil {h : Hd} (hq : h.q = []) : sendH h = h := by
  unfold sendH
  split
  · unfold pubH; rw [hq]
  · rfl
theorem second (hv : 0 ≤ p.v) (hc : 1 ≤ c) (hw : w < u) {y : Yd} (h : J p u w c y) (hns : y.ns = []) : (runD 100 (tickY y)).uf w = ⟨c, p, true⟩ ∧ (runD 100 (tickY y)).h.un = u := by
  obtain ⟨⟨a1, a2, a3, a4⟩, b, _, _, f⟩ := h
  have hwd : ∀ i, i < u → y.h.wd i = tr p w c i := fun i hi => by
    rcases f i hi with g | g | g
    · exact g
    · rw [hns] at g; cases g
    · rw [hns] at g; cases g
  have hT : T p w c w = ⟨c, zPl, false⟩ := by unfold T; rw [if_pos rfl]
  have hnote : noteH y.h w = ⟨w, c, p.v, true, false, zEn, p⟩ := by
    unfold noteH
    have h1 : oneB y.h w = false := by unfold oneB; rw [a4]; rfl
    rw [h1, if_neg (by decide), hwd w hw, a2]
    show (⟨_, (T p w c w).b, _, _, _, _, _⟩ : Nt) = _
    rw [hT]
  have hnk : ∀ k, k ≤ u → notesK y.h k = if w < k then [noteH y.h w] else [] := by
    intro k
    induction k with
    | zero => intro _; rfl
    | succ k ih =>
      intro hk
      rw [notesK_succ, ih (by omega), hwd k (by omega), a2]
      by_cases e : k = w
      · subst e
        rw [if_pos (by show ver (T p k c k) < p.v; rw [hT]; show (-1 : Int) < p.v; omega), if_neg (by omega), if_pos (by omega)]
        rfl
      · have : ¬ (tr p w c k).v < p.v := by
          show ¬ ver (T p w c k) < p.v
          unfold T
          rw [if_neg e]
          show ¬ p.v < p.v
          omega
        rw [if_neg this]
        by_cases e2 : w < k
        · rw [if_pos e2, if_pos (by omega)]
        · rw [if_neg e2, if_neg (by omega)]
  have ht : tickY y = ⟨y.h, y.uf, [⟨w, c, p.v, true, false, zEn, p⟩]⟩ := by
    show (⟨sendH y.h, y.uf, y.ns ++ notesK (sendH y.h) y.h.un⟩ : Yd) = _
    rw [send_nil a3, hns, a1, hnk u (Nat.le_refl _), if_pos hw, hnote]
    rfl
  have hu : y.uf w = ⟨c, zPl, false⟩ := by rw [b w hw, hT]
  have h1 : delY (tickY y) 0 false = ⟨y.h, setU y.uf w ⟨c, p, true⟩, [⟨w, c, p.v, false, true, zEn, zPl⟩]⟩ := by
    rw [ht]
    rw [delY_some (y := ⟨y.h, y.uf, [⟨w, c, p.v, true, false, zEn, p⟩]⟩) (n := ⟨w, c, p.v, true, false, zEn, p⟩) rfl]
    unfold getY
    have e1 : (⟨(w : Int), c, p.v, true, false, zEn, p⟩ : Nt).u.toNat = w := by show ((w : Nat) : Int).toNat = w; omega
    have e2 : readU ⟨(w : Int), c, p.v, true, false, zEn, p⟩ ⟨c, zPl, false⟩ = ⟨c, p, true⟩ := by
      unfold readU folU
      rw [if_pos rfl, if_pos ⟨rfl, by show (-1 : Int) < p.v; omega⟩]
    rw [if_neg (by simp), e1, hu, e2]
    rfl
  have h2 : (delY (delY (tickY y) 0 false) 0 false).uf = setU y.uf w ⟨c, p, true⟩ ∧ (delY (delY (tickY y) 0 false) 0 false).ns = [] ∧ (delY (delY (tickY y) 0 false) 0 false).h.un = u := by
    rw [h1]
    rw [delY_some (y := ⟨y.h, setU y.uf w ⟨c, p, true⟩, [⟨w, c, p.v, false, true, zEn, zPl⟩]⟩) (n := ⟨w, c, p.v, false, true, zEn, zPl⟩) rfl]
    unfold getY
    rw [if_pos rfl]
    exact ⟨rfl, rfl, (heardH_un _ _).trans a1⟩
  rw [runD_cons 99 (by rw [ht]; simp), runD_cons 98 (by rw [h1]; simp), runD_nil 98 h2.2.1, h2.1]
  exact ⟨by unfold setU; rw [if_pos rfl], h2.2.2⟩
/-- The unit that crashed. -/
def PC (p : Pl) (u w : Nat) (c : Int) (y : Yd) : Prop := y.h = newH p u ∧ y.ns = (List.range u).map (wN p) ∧ ∀ i, y.uf i = if i = w then ⟨c, zPl, false⟩ else z0
def DQ (p : Pl) (u w : Nat) (c : Int) (t : Nat) (y : Yd) : Prop := y.h = newH p u ∧ y.ns = (((List.range u).map (wN p) ++ (List.range u).map (kN p w c)).drop t).take u ∧ ∀ i, y.uf i = if i = w then ⟨c, zPl, false⟩ else if i < t then ⟨0, p, true⟩ else z0
theorem pc_step {y : Yd} (h : PC p u w c y) : PC p u w (c + 1) (crY y w) := by
  refine ⟨h.1, h.2.1, fun i => ?_⟩
  show setU y.uf w (crU (y.uf w)) i = _
  unfold setU
  by_cases e : i = w
  · rw [if_pos e, if_pos e, h.2.2 w, if_pos rfl]; rfl
  · rw [if_neg e, if_neg e, h.2.2 i, if_neg e]
theorem dq_start {y : Yd} (h : PC p u w c y) : DQ p u w c 0 y := by
  refine ⟨h.1, ?_, fun i => by rw [h.2.2 i]; simp⟩
  rw [h.2.1, List.drop_zero, List.take_append_of_le_length (by simp), List.take_of_length_le (by simp)]
theorem dq_step (hv : 0 ≤ p.v) (hc : 1 ≤ c) {t : Nat} {y : Yd} (h : DQ p u w c t y) (ht : t < u) : DQ p u w c (t + 1) (delY y 0 false) := by
  obtain ⟨h1, h2, h3⟩ := h
  obtain ⟨r, hr, hr2⟩ := win (A := (List.range u).map (wN p)) (B := (List.range u).map (kN p w c)) (n := u) (t := t) (a := wN p t) (b := kN p w c t) (by simp) (by simp) (wN_at ht) (by simp [ht])
  rw [hr] at h2
  have hd : dropL y.ns 0 false = r := by rw [h2]; rfl
  have e1 : (wN p t).u.toNat = t := by show ((t : Nat) : Int).toNat = t; omega
  have hrd : readU (wN p t) (y.uf t) = T p w c t := by
    rw [h3 t]
    unfold T
    by_cases e : t = w
    · rw [if_pos e, if_pos e]
      unfold readU
      rw [if_neg (by show ¬ (0 : Int) = c; omega)]
    · rw [if_neg e, if_neg (by omega), if_neg e]
      exact read_w hv t (.inl rfl)
  rw [delY_some (n := wN p t) (by rw [h2]; rfl), hd]
  unfold getY
  rw [if_neg (show ¬ (wN p t).ak = true from fun h => by cases h), e1, hrd]
  refine ⟨h1, hr2, fun i => ?_⟩
  show setU y.uf t (T p w c t) i = _
  unfold setU T
  by_cases e : i = t
  · subst e
    rw [if_pos rfl]
    by_cases e2 : i = w
    · rw [if_pos e2, if_pos e2]
    · rw [if_neg e2, if_neg e2, if_pos (by omega)]
  · rw [if_neg e, h3 i]
    by_cases e2 : i = w
    · rw [if_pos e2, if_pos e2]
    · rw [if_neg e2, if_neg e2]
      by_cases e3 : i < t
      · rw [if_pos e3, if_pos (by omega)]
      · rw [if_neg e3, if_neg (by omega)]
theorem dq_end {y : Yd} (h : DQ p u w c u y) : y.ns = (List.range u).map (kN p w c) ∧ ∀ i, i < u → y.uf i = T p w c i := by
  refine ⟨?_, fun i hi => ?_⟩
  · rw [h.2.1, List.drop_append_of_le_length (by simp), List.drop_of_length_le (by simp), List.nil_append, List.take_of_length_le (by simp)]
  · rw [h.2.2 i]
    unfold T
    by_cases e : i = w
    · rw [if_pos e, if_pos e]
    · rw [if_neg e, if_neg e, if_pos hi]
theorem dq_len {t : Nat} {y : Yd} (h : DQ p u w c t y) (ht : t ≤ u) : y.ns.length = u := by
  rw [h.2.1, List.length_take, List.length_drop, List.length_append, List.length_map, List.length_map, List.length_range]
  omega
theorem j_first (hv : 0 ≤ p.v) {y : Yd} (h : DQ p u w c u y) : J p u w c (tickY y) ∧ mu (tickY y) = 3 * u := by
  obtain ⟨e1, e2⟩ := dq_end h
  have ht : tickY y = ⟨newH p u, y.uf, (List.range u).map (kN p w c) ++ (List.range u).map (wN p)⟩ := by
    show (⟨sendH y.h, y.uf, y.ns ++ notesK (sendH y.h) y.h.un⟩ : Yd) = _
    rw [h.1, send_newH, e1]
    show (⟨_, _, _ ++ notesK (newH p u) u⟩ : Yd) = _
    rw [notes_newH hv]
  rw [ht]
  refine ⟨⟨⟨rfl, rfl, rfl, rfl⟩, e2, fun n hn => ?_, fun i _ => .inl rfl, fun i hi => .inr (.inl (List.mem_append.2 (.inr (List.mem_map.2 ⟨i, by simpa using hi, rfl⟩))))⟩, ?_⟩
  · rcases List.mem_append.1 hn with hn | hn
    · obtain ⟨i, hi, rfl⟩ := List.mem_map.1 hn
      exact ⟨i, by simpa using hi, .inr rfl⟩
    · obtain ⟨i, hi, rfl⟩ := List.mem_map.1 hn
      exact ⟨i, by simpa using hi, .inl rfl⟩
  · unfold mu
    show (((List.range u).map (kN p w c) ++ (List.range u).map (wN p)).map wt).sum = _
    have s1 : ∀ l : List Nat, ((l.map (kN p w c)).map wt).sum = l.length := fun l => by
      induction l with
      | nil => rfl
      | cons x xs ih =>
        rw [List.map_cons, List.map_cons, List.sum_cons, ih, List.length_cons]
        have : wt (kN p w c x) = 1 := rfl
        omega
    have s2 : ∀ l : List Nat, ((l.map (wN p)).map wt).sum = 2 * l.length := fun l => by
      induction l with
      | nil => rfl
      | cons x xs ih =>
        rw [List.map_cons, List.map_cons, List.sum_cons, ih, List.length_cons]
        have : wt (wN p x) = 2 := rfl
        omega
    rw [List.map_append, List.sum_append, s1, s2, List.length_range]
    omega
theorem late (hv : 0 ≤ p.v) (hc : 1 ≤ c) (hw : w < u) (hu : u ≤ 30) {y : Yd} (h : DQ p u w c u y) : (setl 2 y).uf w = ⟨c, p, true⟩ ∧ (setl 2 y).h.un = u := by
  obtain ⟨h1, h2⟩ := j_first hv h
  obtain ⟨h3, h4⟩ := J_run hv hc 100 (tickY y) h1 (by omega)
  exact second hv hc hw h3 h4
end
attribute [local irreducible] FA FL
set_option maxRecDepth 100000 in
set_option maxHeartbeats 32000000 in
theorem walk (W : World) (A1 : Option Addr) (n1 c1 : Nat) (g1 : Nat → Int) (hn1 : n1 ≤ c1) (hc1 : c1 ≤ maxLen) (hr1 : Is W A1 n1 g1) (hg1 : IsI g1) (hl1 : ∀ ad, A1 = some ad → 0 < n1 → ad.block < W.heap.size) (re1 : c1 * 8 ≤ 140737488351232) (a0 : Int) (r_a0 : -9223372036854775808 ≤ a0 ∧ a0 ≤ 9223372036854775807) (a1 : Int) (r_a1 : -9223372036854775808 ≤ a1 ∧ a1 ≤ 9223372036854775807) (a2 : Int) (r_a2 : -9223372036854775808 ≤ a2 ∧ a2 ≤ 9223372036854775807) :
    Calls Try.prog 5 #[.slice A1 n1 c1, .int .i64 a0, .int .i64 a1, .int .i64 a2] W fun e w' => e = .returned (.bool true) ∧ Below W.heap.size W w' := by
  unfold maxLen at hc1
  have hnm : (n1 : Int) ≤ 9223372036854775807 := by have := hn1; omega
  have HL := hid hl1
  clear hl1 re1
  obtain ⟨p, hp⟩ : ∃ p, p = mkP g1 (min n1 30) := ⟨_, rfl⟩
  have GP : good p ∧ p.v ≤ 30 := by rw [hp]; exact good_mk g1 _ (by omega)
  have MK := hid (fun (w : World) (h : Is w A1 n1 g1) (hl : ∀ ad, A1 = some ad → 0 < n1 → ad.block < w.heap.size) => (show Calls Try.prog 9 #[.slice A1 n1 c1, .int .i64 30] w fun x w' => x = .returned (.agg (FA 330 (pc p))) ∧ Below w.heap.size w w' from by rw [hp]; exact make_fa w A1 n1 c1 g1 h hl hnm 30 (by omega)))
  clear hp
  have hv0 := GP.1.v
  have hv30 := GP.2
  obtain ⟨x0, hx0⟩ : ∃ x : Nat, (x : Int) = wi a0 4 := ⟨(wi a0 4).toNat, by have := wi_bd a0 4 (by omega); omega⟩
  have bx0 := wi_bd a0 4 (by omega)
  rw [← hx0] at bx0
  have Wx0 := hid (fun w => re_i64 (within_any a0 4 w (by omega) (by omega)) hx0.symm)
  clear hx0
  obtain ⟨bx01, bx02⟩ := bx0
  obtain ⟨u, hu⟩ : ∃ u : Nat, u = 1 + x0 := ⟨_, rfl⟩
  have hu1 : 1 ≤ u := by omega
  have hu2 : u ≤ 4 := by omega
  have HUX := hid (show (1 : Int) + x0 = u from by omega)
  clear hu
  have hxa := wi_bd a1 u (by omega)
  obtain ⟨w0, hi⟩ : ∃ x : Nat, (x : Int) = wi a1 u := ⟨(wi a1 u).toNat, by omega⟩
  rw [← hi] at hxa
  have WI := hid (fun w => re_i64 (within_any a1 u w (by omega) (by omega)) hi.symm)
  clear hi
  have hwu : w0 < u := by omega
  clear hxa
  obtain ⟨tn, htn⟩ : ∃ x : Nat, (x : Int) = wi a2 4 := ⟨(wi a2 4).toNat, by have := wi_bd a2 4 (by omega); omega⟩
  have btn := wi_bd a2 4 (by omega)
  rw [← htn] at btn
  have Wtn := hid (fun w => re_i64 (within_any a2 4 w (by omega) (by omega)) htn.symm)
  clear htn
  obtain ⟨btn1, btn2⟩ := btn
  obtain ⟨mm, hmm⟩ : ∃ m : Nat, m = 1 + tn := ⟨_, rfl⟩
  have hm1 : 1 ≤ mm := by omega
  have hm4 : mm ≤ 4 := by omega
  have HMX := hid (show (1 : Int) + tn = mm from by omega)
  clear hmm
  have f0 : Fit (newY p u) 30 := Fit.new GP.1 ⟨hu1, by omega⟩ hv30
  have F0 := hid f0
  have FT := hid f0.tick
  clear f0 GP
  have TK := hid (tick_new (p := p) (u := u) hv0)
  have S0 : Hid (HS [] W W []) := hid HS.start
  go_enter Try.func5, Try.ntmps5
  go_wp2_with fail
  refine (yknown_any _).mono ?_
  rintro x w1 ⟨rfl, hB⟩
  have R1 := hid (hr1.below hB (Nat.le_refl _))
  have B1 := hid hB
  have S1 := hid (S0.out.below hB)
  clear hr1 hB S0
  go_wp2_with fail
  refine (MK.out _ R1.out (fun ad e h => Nat.lt_of_lt_of_le (HL.out ad e h) B1.out.size)).mono ?_
  rintro x w2 ⟨rfl, hb⟩
  have S2 := hid (S1.out.below hb)
  clear hb S1 MK
  go_simp
  go_upto_region 4 with (first | ((with_reducible refine wl_id ?_); refine wl_ow rfl (ow_alloc rfl (zpl_fa _) (by omega) S2.out ?_); intro P w_ hZ _; have SA := hid hZ; clear hZ) | ((with_reducible refine wl_id ?_); refine wl_ow rfl (ow_store (A := []) 0 330 (pc p) (pc p) rfl rfl rfl SA.out (by omega) (fun j hj => patch_all _ _ _ j hj) info_pl (pc_one _) ?_); intro w_ hZ; have S3 := hid hZ; clear hZ))
  clear S2 R1 B1
  go_wp2_with fail
  refine (Wx0.out _).mono ?_
  rintro x w_ ⟨rfl, rfl⟩
  go_simp
  go_upto_region 5 with (fail)
  rw [HUX.out]
  go_wp2_with ((with_reducible refine wl_id ?_); refine wl_ow rfl (ow_load 0 rfl 0 330 (pc p) rfl rfl S3.out (by omega) (fun j hj => by rw [Nat.zero_add]) Try.underlying33 rfl info_pl ?_))
  refine (ya_new S3.out p u ⟨hu1, by omega⟩).mono ?_
  rintro x w4 ⟨D, rfl, hY⟩
  have Y0 := hid hY
  clear hY S3
  go_simp
  go_wp2_with fail
  refine (ya_tick Y0.out F0.out (by omega) (by show (0 : Nat) ≤ 900000; omega)).mono ?_
  rintro x w5 ⟨rfl, hY⟩
  obtain ⟨y1, hy1⟩ : ∃ y1, y1 = tickY (newY p u) := ⟨_, rfl⟩
  have PC0 := hid (show PC p u w0 ((0 : Nat) : Int) y1 from by rw [hy1, TK.out]; exact ⟨rfl, rfl, fun i => by show z0 = _; split <;> rfl⟩)
  rw [← hy1] at hY FT ⊢
  have Y1 := hid hY
  clear hY Y0 F0 TK hy1
  go_simp
  go_wp2_with fail
  refine (WI.out _).mono ?_
  rintro x w_ ⟨rfl, rfl⟩
  go_simp
  go_wp2_with fail
  go_loopw [14] (fun iv wr => ∃ (k : Nat) (y : Yd), k ≤ mm ∧ iv = .int .i64 (k : Int) ∧ PC p u w0 (k : Int) y ∧ Fit y (31 + k) ∧ YA [] W wr D y [thB P 330 (pc p)] 16) (fun i _ => mm - (intOf i).toNat)
  case atStart => exact ⟨0, y1, Nat.zero_le _, rfl, PC0.out, FT.out.mono (by omega), Y1.out⟩
  case round =>
    clear Y1 FT PC0
    obtain ⟨k, y, hk, rfl, hpc, hF, hY⟩ := hrel
    have Y2 := hid hY
    have F2 := hid hF
    have PC2 := hid hpc
    clear hY hF hpc
    have htx := HMX.out
    by_cases hlt : (k : Int) < mm
    · have hun : w0 < y.h.un := by rw [PC2.out.1]; exact hwu
      have CR := hid (ya_crash Y2.out F2.out (by omega) w0 hun)
      have FC := hid (F2.out.crash hun)
      have PS := hid (pc_step PC2.out)
      clear Y2 F2 PC2 hun
      go_wp2_with fail
      refine (Wtn.out _).mono ?_
      rintro x w_ ⟨rfl, rfl⟩
      go_simp
      go_wp2_with fail
      refine CR.out.mono ?_
      rintro x w6 ⟨rfl, hY⟩
      have Y3 := hid hY
      clear hY CR
      go_simp
      go_wp2_with fail
      go_roundw
      case rel => exact ⟨k + 1, _, by omega, by go_num, by have := PS.out; rwa [show (((k + 1 : Nat)) : Int) = (k : Int) + 1 from rfl], FC.out.mono (by omega), Y3.out⟩
      case measure => simp [intOf]; omega
    · have hkm : k = mm := by omega
      subst hkm
      have DQ0 := hid (dq_start PC2.out)
      have F3 := hid (show Fit y 35 from F2.out.mono (by omega))
      have HC := hid (show (1 : Int) ≤ (k : Int) from by omega)
      clear PC2 F2
      go_wp2_with fail
      refine (Wtn.out _).mono ?_
      rintro x w_ ⟨rfl, rfl⟩
      go_simp
      go_wp2_with fail
      clear htx
      go_loopw [15] (fun iv wx => ∃ (t : Nat) (y : Yd), t ≤ u ∧ iv = .int .i64 (t : Int) ∧ DQ p u w0 (k : Int) t y ∧ Fit y 35 ∧ YA [] W wx D y [thB P 330 (pc p)] (16 + t)) (fun i _ => u - (intOf i).toNat)
      case atStart => exact ⟨0, y, Nat.zero_le _, rfl, DQ0.out, F3.out, Y2.out⟩
      case round =>
        clear Y2 F3 DQ0
        obtain ⟨tt, y2, htt, rfl, hdq, hF, hY⟩ := hrel
        have Y3 := hid hY
        have F4 := hid hF
        have D2 := hid hdq
        have hl := dq_len hdq htt
        clear hY hF hdq
        by_cases hlt2 : (tt : Int) < u
        · have DL := hid (ya_del Y3.out F4.out (by omega) (by omega) (by omega) 0 (by omega) false)
          have DS := hid (dq_step hv0 HC.out D2.out (by omega))
          have FS := hid (F4.out.del 0 false)
          clear Y3 F4 D2 hl
          go_wp2_with fail
          refine DL.out.mono ?_
          rintro x w6 ⟨rfl, hY⟩
          have Y4 := hid hY
          clear hY DL
          go_simp
          go_wp2_with fail
          go_roundw
          case rel => exact ⟨tt + 1, _, by omega, by go_num, DS.out, FS.out, Y4.out⟩
          case measure => simp [intOf]; omega
        · have htu : tt = u := by omega
          subst htu
          have hh := D2.out.1
          have UN := hid (show y2.h.un = tt from by rw [hh]; rfl)
          have UU := hid (dq_end D2.out).2
          have LT := hid (late hv0 HC.out hwu (by omega) D2.out)
          have ST := hid (fun (w' : World) (h' : YA [] W w' D y2 [thB P 330 (pc p)] (16 + tt)) => (show Calls Try.prog 20 #[.pointer (some ⟨D.Y, 0, none⟩), .int .i64 2] w' fun x w2 => x = .returned (.tuple #[]) ∧ YA [] W w2 D (setl 2 y2) [thB P 330 (pc p)] (16 + tt + 101 * 2) from settle_any (n := 2) h' F4.out (by omega) (by omega) (Nat.le_of_eq hl) (by omega) (by omega)))
          clear hh D2 F4 hl
          have VE := hid (ya_ver Y3.out w0 (by rw [UN.out]; exact hwu))
          rw [UU.out w0 hwu, show T p w0 (k : Int) w0 = ⟨k, zPl, false⟩ from by unfold T; rw [if_pos rfl]] at VE
          simp only [Bool.false_eq_true, if_false] at VE
          have YB := hid (fun (w' : World) (hb : Below wr.heap.size wr w') => Y3.out.below hb)
          clear Y3
          go_wp2_with fail
          refine VE.out.mono ?_
          rintro x w6 ⟨rfl, hb⟩
          have Y4 := hid (YB.out _ hb)
          clear hb VE YB
          go_simp
          go_wp2_with fail
          go_loopw [18] (fun jv wx => ∃ j : Nat, j ≤ tt ∧ jv = .int .i64 (j : Int) ∧ YA [] W wx D y2 [thB P 330 (pc p)] (16 + tt)) (fun j _ => tt - (intOf j).toNat)
          case atStart => exact ⟨0, Nat.zero_le _, rfl, Y4.out⟩
          case round =>
            clear Y4
            obtain ⟨j, hj, rfl, hY⟩ := hrel
            have Y5 := hid hY
            clear hY
            by_cases hltj : (j : Int) < tt
            · have VE := hid (ya_ver Y5.out j (by rw [UN.out]; omega))
              rw [UU.out j (by omega)] at VE
              have YB := hid (fun (w' : World) (hb : Below wr.heap.size wr w') => Y5.out.below hb)
              clear Y5
              by_cases hjw : j = w0
              · subst hjw
                rw [show T p j (k : Int) j = ⟨k, zPl, false⟩ from by unfold T; rw [if_pos rfl]] at VE
                simp only [Bool.false_eq_true, if_false] at VE
                have nj : ((j : Int) != (j : Int)) = false := by simp
                go_wp2_with fail
                refine VE.out.mono ?_
                rintro x w7 ⟨rfl, hb⟩
                have Y6 := hid (YB.out _ hb)
                clear hb VE YB
                go_simp
                go_wp2_with fail
                go_roundw
                case rel => exact ⟨j + 1, by omega, by go_num, Y6.out⟩
                case measure => simp [intOf]; omega
              · rw [show T p w0 (k : Int) j = ⟨0, p, true⟩ from by unfold T; rw [if_neg hjw]] at VE
                simp only [if_true] at VE
                have nj : ((j : Int) != (w0 : Int)) = true := by simp; omega
                go_wp2_with fail
                refine VE.out.mono ?_
                rintro x w7 ⟨rfl, hb⟩
                have Y6 := hid (YB.out _ hb)
                clear hb VE YB
                go_simp
                go_wp2_with fail
                go_roundw
                case rel => exact ⟨j + 1, by omega, by go_num, Y6.out⟩
                case measure => simp [intOf]; omega
            · obtain ⟨l1, l2⟩ := LT.out
              have VE := hid (fun (w' : World) (h' : YA [] W w' D (setl 2 y2) [thB P 330 (pc p)] (16 + tt + 101 * 2)) => (show Calls Try.prog 18 #[.pointer (some ⟨D.Y, 0, none⟩), .int .i64 (w0 : Int)] w' fun x w2 => x = .returned (.tuple #[.int .i64 p.v, .bool true]) ∧ Below w'.heap.size w' w2 from by have := ya_ver h' w0 (by rw [l2]; exact hwu); rw [l1] at this; simpa using this))
              clear l1 l2 LT UU UN
              go_wp2_with fail
              refine (ST.out _ Y5.out).mono ?_
              rintro x w8 ⟨rfl, hY⟩
              have Y7 := hid hY
              clear hY Y5
              go_simp
              go_wp2_with fail
              refine (VE.out _ Y7.out).mono ?_
              rintro x w9 ⟨rfl, hb⟩
              have Y8 := hid (Y7.out.below hb)
              clear hb Y7 VE ST
              go_simp
              have BP : Hid (Fb w9 P 330 (pc p)) := hid (Y8.out.memR (t := thB P 330 (pc p)) (by simp))
              have cp : w9.cell? ⟨P, 0, none⟩ = some (.int .i64 p.v) := BP.out.2.1 0 (by omega)
              go_wp2_with fail
              go_ret
              exact ⟨rfl, Y8.out.ch.below (by simp) (Nat.le_refl _)⟩

set_option maxRecDepth 100000 in
theorem lifted (os : Os) (started : os.Started) (H : Type) (enc : TypeId × Value → H) :
    ReturnsInHanded {} Try.checked os 5 .any (Rows.yardLateSpec.pre6 enc Try.prog Try.f5 [] false) (Rows.yardLateSpec.post enc Try.prog Try.f5 false true false false) :=
  law_step (s := Rows.yardLateSpec) started (by kernel_rfl) Try.func5
    (ChangeSpec.witness6 (s := Rows.yardLateSpec) (enc := enc) (C := Try.checked) false ⟨#[], #[.slice none 0 0, .int .i64 0, .int .i64 0, .int .i64 0], []⟩ 8 (by kernel_rfl) (by kernel_rfl) (by kernel_rfl) (by kernel_rfl))
    rfl (by rw [Try.params5]; decide +kernel) rfl Try.underlying4
    (fun ds h => by
      rw [Try.params5] at h
      match ds, h with
      | [_, _, _, _], _ => rfl)
    (fun W base args ds ps hval hA hsz => by
      rw [Try.params5] at hA hval hsz
      obtain ⟨v0, vs0, d0, ds0, p0, q0, hargs, rfl, rfl, h0, r0⟩ := trodAll_cons hA
      obtain ⟨v1, vs1, d1, ds1, p1, q1, rfl, rfl, rfl, h1, r1⟩ := trodAll_cons r0
      obtain ⟨v2, vs2, d2, ds2, p2, q2, rfl, rfl, rfl, h2, r2⟩ := trodAll_cons r1
      obtain ⟨v3, vs3, d3, ds3, p3, q3, rfl, rfl, rfl, h3, r3⟩ := trodAll_cons r2
      obtain ⟨rfl, rfl, rfl⟩ := trodAll_nil r3
      obtain rfl : args = #[v0, v1, v2, v3] := by cases args; simp_all
      obtain ⟨A0, n0, c0, g0, rfl, hn0, hc0, hs0, hw0, hl0, hd0⟩ := open_row Try.underlying22 Try.underlying3 (by kernel_rfl) (hval 0 22 v0 rfl rfl) h0
      have re0 : c0 * 8 ≤ 140737488351232 := by
        rcases hd0 with ⟨_, h0⟩ | ⟨xs, ys, h1, h2⟩
        · omega
        · have := sized_slice hsz (j := 0) (t := 22) (e := 3) rfl (by rw [h1]; rfl) Try.underlying22
          rw [h2, show Try.prog.bytesOf 3 = 8 from by kernel_rfl] at this
          simpa [reachBytes] using this
      obtain ⟨a1, rfl, rfl, rfl, w1⟩ := open_int Try.underlying3 (hval 1 3 v1 rfl rfl) h1
      obtain ⟨a2, rfl, rfl, rfl, w2⟩ := open_int Try.underlying3 (hval 2 3 v2 rfl rfl) h2
      obtain ⟨a3, rfl, rfl, rfl, w3⟩ := open_int Try.underlying3 (hval 3 3 v3 rfl rfl) h3
      exact walk W A0 n0 c0 g0 hn0 hc0 hs0 (fun j => bounds_i64 (hw0 j)) hl0 re0 a1 (bounds_i64 w1) a2 (bounds_i64 w2) a3 (bounds_i64 w3))

theorem proved : Rows.YardLateSaid :=
  OpenClaim.holds_of_wide 5 Try.f5 rfl rfl rfl rfl rfl rfl rfl ⟨rfl, rfl, rfl, rfl, rfl⟩ rfl rfl rfl rfl rfl (by kernel_rfl) Try.func5 (by kernel_rfl)
    (of_decide_eq_true (by kernel_rfl)) (by unfold Func.isWrapper; first | (rw [if_pos (by decide +kernel)]; kernel_rfl) | (rw [if_neg (by decide +kernel)]; exact ⟨rfl, rfl⟩))
    (fun os started H enc _ => lifted os started H enc)
end Go.Proofs.Ytnnilkdlpampdaa.yardLate
