/- A round where nothing is lost. -/
import Derived.Test.YtnnilkdlpampdaaYdSet
import Derived.BigQuiet
import Derived.Deep.RegionHeld3
import Derived.Deep.Cut
import Derived.IntWalk
namespace Go.Proofs.Ytnnilkdlpampdaa
set_option linter.unusedVariables false
set_option linter.unusedSimpArgs false
open Go.RowKit Go.ChangeShapes Go.WideShapes Go.ChangeAt
/-- What is aimed at in a round: unit i becomes T i, m i is its note; A: those that are told. -/
def trU (T : Nat → Uy) (i : Nat) : Wd := ⟨(T i).b, ver (T i)⟩
def kU (T : Nat → Uy) (i : Nat) : Nt := ackU i (T i)
structure Aim (u : Nat) (A : Nat → Prop) (s T : Nat → Uy) (d : Nat → Wd) (m : Nat → Nt) : Prop where
  ak : ∀ i, i < u → A i → (m i).ak = false
  un : ∀ i, i < u → A i → (m i).u = (i : Int)
  rs : ∀ i, i < u → A i → readU (m i) (s i) = T i
  rt : ∀ i, i < u → A i → readU (m i) (T i) = T i
  vr : ∀ i, i < u → -1 ≤ ver (T i)
  cn : ∀ i, i < u → A i → cntB (d i) (trU T i) = true ∨ d i = trU T i
structure JR (u : Nat) (A : Nat → Prop) (s T : Nat → Uy) (d : Nat → Wd) (m : Nat → Nt) (Q : Pl) (q : List En) (y : Yd) : Prop where
  hu : y.h.un = u
  hp : y.h.pl = Q
  hq : y.h.q = q
  uf : ∀ i, i < u → y.uf i = s i ∨ y.uf i = T i
  ns : ∀ n, n ∈ y.ns → ∃ i, i < u ∧ A i ∧ (n = m i ∨ n = kU T i ∧ y.uf i = T i)
  wd : ∀ i, i < u → A i → y.h.wd i = d i ∨ y.h.wd i = trU T i
  cv : ∀ i, i < u → (y.uf i = T i ∧ y.h.wd i = trU T i) ∨ (A i ∧ (m i ∈ y.ns ∨ (y.uf i = T i ∧ kU T i ∈ y.ns)))
def wt2 (n : Nt) : Nat := if n.ak = true then 1 else 2
def mu2 (y : Yd) : Nat := (y.ns.map wt2).sum
section
variable {u : Nat} {A : Nat → Prop} {s T : Nat → Uy} {d : Nat → Wd} {m : Nat → Nt} {Q : Pl} {q : List En}
theorem heard_U {h : Hd} {i : Nat} (hi : i < h.un) (hv : -1 ≤ ver (T i)) (hw : cntB (h.wd i) (trU T i) = true ∨ h.wd i = trU T i) : (heardH h (kU T i)).un = h.un ∧ (heardH h (kU T i)).pl = h.pl ∧ (heardH h (kU T i)).q = h.q ∧ (heardH h (kU T i)).wd i = trU T i ∧ ∀ j, j ≠ i → (heardH h (kU T i)).wd j = h.wd j := by
  have he : earB h (kU T i) = true := by
    unfold earB kU ackU
    simp
    omega
  have hk : (kU T i).u.toNat = i := by show ((i : Nat) : Int).toNat = i; omega
  have hm : (⟨(kU T i).b, mx (kU T i).v⟩ : Wd) = trU T i := by
    show (⟨(T i).b, mx (ver (T i))⟩ : Wd) = _
    unfold mx trU
    rw [if_neg (by omega)]
  unfold heardH
  rw [if_pos he, hk, hm]
  by_cases hcn : cntB (h.wd i) (trU T i) = true
  · rw [if_pos hcn]
    exact ⟨rfl, rfl, rfl, by show setW h.wd i _ i = _; unfold setW; rw [if_pos rfl], fun j hj => by show setW h.wd i _ j = _; unfold setW; rw [if_neg hj]⟩
  · rw [if_neg hcn]
    refine ⟨rfl, rfl, rfl, ?_, fun j _ => rfl⟩
    rcases hw with hw | hw
    · exact absurd hw hcn
    · exact hw
theorem JR.step (a : Aim u A s T d m) {y : Yd} (h : JR u A s T d m Q q y) {n : Nt} {r : List Nt} (hns : y.ns = n :: r) : JR u A s T d m Q q (delY y 0 false) ∧ mu2 (delY y 0 false) + 1 = mu2 y := by
  have hd : dropL y.ns 0 false = r := by rw [hns]; rfl
  obtain ⟨i, hi, hA, hn⟩ := h.ns n (by rw [hns]; simp)
  rw [delY_some (n := n) (by rw [hns]; rfl), hd]
  have hr : ∀ x, x ∈ r → x ∈ y.ns := fun x hx => by rw [hns]; exact List.mem_cons_of_mem _ hx
  rcases hn with rfl | ⟨rfl, hT⟩
  · have hG : getY y (m i) r = ⟨y.h, setU y.uf i (T i), r ++ [kU T i]⟩ := by
      unfold getY
      have e1 : (m i).u.toNat = i := by rw [a.un i hi hA]; omega
      have e2 : readU (m i) (y.uf i) = T i := by
        rcases h.uf i hi with g | g
        · rw [g]; exact a.rs i hi hA
        · rw [g]; exact a.rt i hi hA
      rw [if_neg (by rw [a.ak i hi hA]; decide), e1, e2]
      rfl
    have hs : ∀ j, setU y.uf i (T i) j = if j = i then T i else y.uf j := fun j => rfl
    have hk : ∀ j, y.uf j = T j → setU y.uf i (T i) j = T j := fun j g => by
      rw [hs]
      by_cases e : j = i
      · rw [if_pos e, e]
      · rw [if_neg e]; exact g
    rw [hG]
    refine ⟨⟨h.hu, h.hp, h.hq, fun j hj => ?_, fun x hx => ?_, h.wd, fun j hj => ?_⟩, ?_⟩
    · show setU y.uf i (T i) j = s j ∨ setU y.uf i (T i) j = T j
      rw [hs]
      by_cases e : j = i
      · rw [if_pos e, e]; exact .inr rfl
      · rw [if_neg e]; exact h.uf j hj
    · rcases List.mem_append.1 hx with hx | hx
      · obtain ⟨j, hj, hA', g⟩ := h.ns x (hr x hx)
        rcases g with g | ⟨g, g2⟩
        · exact ⟨j, hj, hA', .inl g⟩
        · exact ⟨j, hj, hA', .inr ⟨g, hk j g2⟩⟩
      · rw [List.mem_singleton] at hx
        exact ⟨i, hi, hA, .inr ⟨hx, by show setU y.uf i (T i) i = _; rw [hs, if_pos rfl]⟩⟩
    · by_cases e : j = i
      · subst e
        exact .inr ⟨hA, .inr ⟨by show setU y.uf j (T j) j = _; rw [hs, if_pos rfl], List.mem_append.2 (.inr (by simp))⟩⟩
      · rcases h.cv j hj with ⟨g1, g2⟩ | ⟨gA, g | ⟨g1, g2⟩⟩
        · exact .inl ⟨hk j g1, g2⟩
        · rw [hns] at g
          rcases List.mem_cons.1 g with g | g
          · exfalso
            have h5 := congrArg Nt.u g
            rw [a.un j hj gA, a.un i hi hA] at h5
            omega
          · exact .inr ⟨gA, .inl (List.mem_append.2 (.inl g))⟩
        · rw [hns] at g2
          rcases List.mem_cons.1 g2 with g2 | g2
          · exfalso
            have h5 := congrArg Nt.ak g2
            rw [a.ak i hi hA] at h5
            cases h5
          · exact .inr ⟨gA, .inr ⟨hk j g1, List.mem_append.2 (.inl g2)⟩⟩
    · unfold mu2
      rw [hns]
      have w1 : wt2 (m i) = 2 := by unfold wt2; rw [if_neg (by rw [a.ak i hi hA]; decide)]
      have w3 : wt2 (kU T i) = 1 := rfl
      simp only [List.map_append, List.sum_append, List.map_cons, List.sum_cons, List.map_nil, List.sum_nil, w1, w3]
      omega
  · have hw : cntB (y.h.wd i) (trU T i) = true ∨ y.h.wd i = trU T i := by
      rcases h.wd i hi hA with g | g
      · rw [g]; exact a.cn i hi hA
      · exact .inr g
    obtain ⟨g1, g2, g3, g5, g6⟩ := heard_U (h := y.h) (T := T) (by rw [h.hu]; exact hi) (a.vr i hi) hw
    have hG : getY y (kU T i) r = ⟨heardH y.h (kU T i), y.uf, r⟩ := by
      unfold getY
      rw [if_pos (show (kU T i).ak = true from rfl)]
    rw [hG]
    refine ⟨⟨g1.trans h.hu, g2.trans h.hp, g3.trans h.hq, h.uf, fun x hx => h.ns x (hr x hx), fun j hj hA' => ?_, fun j hj => ?_⟩, ?_⟩
    · by_cases e : j = i
      · rw [e]; exact .inr g5
      · show (heardH y.h (kU T i)).wd j = d j ∨ (heardH y.h (kU T i)).wd j = trU T j
        rw [g6 j e]
        exact h.wd j hj hA'
    · by_cases e : j = i
      · rw [e]; exact .inl ⟨hT, g5⟩
      · rcases h.cv j hj with ⟨g1', g2'⟩ | ⟨gA, g | ⟨g1', g2'⟩⟩
        · exact .inl ⟨g1', (g6 j e).trans g2'⟩
        · rw [hns] at g
          rcases List.mem_cons.1 g with g | g
          · exfalso
            have h5 := congrArg Nt.ak g
            rw [a.ak j hj gA] at h5
            cases h5
          · exact .inr ⟨gA, .inl g⟩
        · rw [hns] at g2'
          rcases List.mem_cons.1 g2' with g | g
          · exfalso
            have h5 : ((j : Nat) : Int) = ((i : Nat) : Int) := congrArg Nt.u g
            omega
          · exact .inr ⟨gA, .inr ⟨g1', g⟩⟩
    · unfold mu2
      rw [hns, List.map_cons, List.sum_cons]
      have w1 : wt2 (kU T i) = 1 := rfl
      rw [w1]
      show (r.map wt2).sum + 1 = _
      omega
theorem JR.run (a : Aim u A s T d m) : ∀ (k : Nat) (y : Yd), JR u A s T d m Q q y → mu2 y ≤ k → JR u A s T d m Q q (runD k y) ∧ (runD k y).ns = []
  | 0, y, h, hk => by
    refine ⟨h, ?_⟩
    show y.ns = []
    cases hns : y.ns with
    | nil => rfl
    | cons n r =>
      have := (JR.step a h hns).2
      omega
  | k + 1, y, h, hk => by
    cases hns : y.ns with
    | nil => rw [runD_nil _ hns]; exact ⟨h, hns⟩
    | cons n r =>
      rw [runD_cons k (by rw [hns]; simp)]
      obtain ⟨h1, h2⟩ := JR.step a h hns
      exact JR.run a k _ h1 (by omega)
theorem mem_told {h : Hd} {n : Nt} {k : Nat} (hn : n ∈ notesK h k) : ∃ i, i < k ∧ (h.wd i).v < h.pl.v ∧ n = noteH h i := by
  unfold notesK at hn
  obtain ⟨i, hi, rfl⟩ := List.mem_map.1 hn
  rw [List.mem_filter] at hi
  exact ⟨i, by simpa using hi.1, by simpa using hi.2, rfl⟩
theorem told_mem {h : Hd} {i k : Nat} (hi : i < k) (hv : (h.wd i).v < h.pl.v) : noteH h i ∈ notesK h k := by
  unfold notesK
  exact List.mem_map.2 ⟨i, List.mem_filter.2 ⟨by simpa using hi, by simpa using hv⟩, rfl⟩
theorem wt2_le (l : List Nt) : (l.map wt2).sum ≤ 2 * l.length := by
  induction l with
  | nil => exact Nat.le_refl _
  | cons x xs ih =>
    rw [List.map_cons, List.sum_cons, List.length_cons]
    have : wt2 x ≤ 2 := by unfold wt2; split <;> omega
    omega
theorem note_u (h : Hd) (i : Nat) : (noteH h i).u = (i : Int) ∧ (noteH h i).ak = false := by
  unfold noteH
  split <;> exact ⟨rfl, rfl⟩
/-- A round: what the head sends is done by all that are told. -/
theorem whole_round {y : Yd} {h : Hd} (hs : sendH y.h = h) (hns : y.ns = []) (T : Nat → Uy) (hu : h.un ≤ 100) (hT : ∀ i, i < h.un → -1 ≤ ver (T i))
    (hA : ∀ i, i < h.un → (h.wd i).v < h.pl.v → readU (noteH h i) (y.uf i) = T i ∧ readU (noteH h i) (T i) = T i ∧ (cntB (h.wd i) (trU T i) = true ∨ h.wd i = trU T i))
    (hB : ∀ i, i < h.un → ¬ (h.wd i).v < h.pl.v → y.uf i = T i ∧ h.wd i = trU T i) :
    (runD 200 (tickY y)).ns = [] ∧ (runD 200 (tickY y)).h.un = h.un ∧ (runD 200 (tickY y)).h.pl = h.pl ∧ (runD 200 (tickY y)).h.q = h.q ∧ ∀ i, i < h.un → (runD 200 (tickY y)).uf i = T i ∧ (runD 200 (tickY y)).h.wd i = trU T i := by
  have hun : y.h.un = h.un := by rw [← hs, sendH_un]
  have ht : tickY y = ⟨h, y.uf, notesK h h.un⟩ := by
    show (⟨sendH y.h, y.uf, y.ns ++ notesK (sendH y.h) y.h.un⟩ : Yd) = _
    rw [hs, hns, hun]
    rfl
  have aim : Aim h.un (fun i => (h.wd i).v < h.pl.v) y.uf T h.wd (noteH h) := ⟨fun i _ _ => (note_u h i).2, fun i _ _ => (note_u h i).1, fun i hi g => (hA i hi g).1, fun i hi g => (hA i hi g).2.1, hT, fun i hi g => (hA i hi g).2.2⟩
  have j0 : JR h.un (fun i => (h.wd i).v < h.pl.v) y.uf T h.wd (noteH h) h.pl h.q (tickY y) := by
    rw [ht]
    refine ⟨rfl, rfl, rfl, fun i _ => .inl rfl, fun n hn => ?_, fun i _ _ => .inl rfl, fun i hi => ?_⟩
    · obtain ⟨i, h1, h2, h3⟩ := mem_told hn
      exact ⟨i, h1, h2, .inl h3⟩
    · by_cases g : (h.wd i).v < h.pl.v
      · exact .inr ⟨g, .inl (told_mem hi g)⟩
      · exact .inl (hB i hi g)
  have hmu : mu2 (tickY y) ≤ 200 := by
    have h1 := wt2_le (tickY y).ns
    have h2 : (tickY y).ns.length ≤ h.un := by rw [ht]; exact notesK_len h h.un
    unfold mu2
    omega
  obtain ⟨j1, j2⟩ := JR.run aim 200 _ j0 hmu
  refine ⟨j2, j1.hu, j1.hp, j1.hq, fun i hi => ?_⟩
  rcases j1.cv i hi with g | ⟨_, g | ⟨_, g⟩⟩
  · exact g
  · rw [j2] at g; cases g
  · rw [j2] at g; cases g
end
/-- Entries that wait, one by one. -/
def eB (j : Int) : En := ⟨6, 0, 0, 0, 0, ⟨0, j⟩⟩
def PJ (p : Pl) (f : Nat → Int) : Nat → Pl
  | 0 => p
  | k + 1 => nxP (PJ p f k) (eB (f k))
theorem pj_v (p : Pl) (f : Nat → Int) : ∀ k : Nat, (PJ p f k).v = p.v + k
  | 0 => by show p.v = p.v + ((0 : Nat) : Int); omega
  | k + 1 => by
    have ih := pj_v p f k
    show (nxP (PJ p f k) (eB (f k))).v = _
    have : (nxP (PJ p f k) (eB (f k))).v = (PJ p f k).v + 1 := rfl
    rw [this, ih]
    omega
theorem pj_ap (p : Pl) (f : Nat → Int) (k : Nat) : apR (PJ p f k) (eB (f k)) = (PJ p f (k + 1), 0) := q_rot _ _
/-- All have what was published. -/
structure GR (p : Pl) (f : Nat → Int) (n u j : Nat) (b : Nat → Int) (y : Yd) : Prop where
  ns : y.ns = []
  un : y.h.un = u
  pl : y.h.pl = PJ p f j
  q : y.h.q = (List.range' j (n - j)).map fun i => eB (f i)
  all : ∀ i, i < u → y.uf i = ⟨b i, PJ p f j, true⟩ ∧ y.h.wd i = ⟨b i, (PJ p f j).v⟩
section
variable {p : Pl} {f : Nat → Int} {n u j : Nat} {b : Nat → Int} {y : Yd}
theorem gr_none (hv0 : 0 ≤ p.v) (hu : u ≤ 16) (g : GR p f n u j b y) (hj : n ≤ j) : GR p f n u j b (runD 200 (tickY y)) := by
  have hq : y.h.q = [] := by rw [g.q, Nat.sub_eq_zero_of_le hj]; rfl
  have hs : sendH y.h = y.h := by
    unfold sendH
    split
    · unfold pubH; rw [hq]
    · rfl
  have hn : ∀ i, i < y.h.un → ¬ (y.h.wd i).v < y.h.pl.v := fun i hi => by
    rw [(g.all i (by rw [← g.un]; exact hi)).2, g.pl]
    exact Int.lt_irrefl _
  obtain ⟨r1, r2, r3, r4, r5⟩ := whole_round hs g.ns y.uf (by rw [g.un]; omega) (fun i hi => by
      rw [(g.all i (by rw [← g.un]; exact hi)).1]
      show -1 ≤ ver _
      show -1 ≤ (PJ p f j).v
      rw [pj_v]
      omega) (fun i hi h => absurd h (hn i hi)) (fun i hi _ => ⟨rfl, by rw [(g.all i (by rw [← g.un]; exact hi)).2]; unfold trU; rw [(g.all i (by rw [← g.un]; exact hi)).1]; rfl⟩)
  exact ⟨r1, r2.trans g.un, r3.trans g.pl, r4.trans g.q, fun i hi => by rw [(r5 i (by rw [g.un]; exact hi)).1, (r5 i (by rw [g.un]; exact hi)).2]; exact ⟨(g.all i hi).1, by unfold trU; rw [(g.all i hi).1]; rfl⟩⟩
theorem gr_q (g : GR p f n u j b y) (hj : j < n) : y.h.q = eB (f j) :: (List.range' (j + 1) (n - (j + 1))).map fun i => eB (f i) := by
  rw [g.q, show n - j = (n - (j + 1)) + 1 by omega, List.range'_succ]
  rfl
theorem all_b {h : Hd} {v : Int} (hp : h.pl.v = v) (hw : ∀ i, i < h.un → (h.wd i).v = v) : allB h = true := by
  unfold allB
  rw [List.all_eq_true]
  intro i hi
  have : i < h.un := by simpa using hi
  rw [hw i this, hp]
  simp
theorem read_e {e : En} {v bb : Int} {P P' : Pl} (i : Nat) (hv : P.v = v) (hv0 : 0 ≤ v) (ha : apR P e = (P', 0)) (hv' : P'.v = v + 1) : readU ⟨(i : Int), bb, v + 1, false, false, e, zPl⟩ ⟨bb, P, true⟩ = ⟨bb, P', true⟩ ∧ readU ⟨(i : Int), bb, v + 1, false, false, e, zPl⟩ ⟨bb, P', true⟩ = ⟨bb, P', true⟩ := by
  have e1 : ver ⟨bb, P, true⟩ = v := hv
  have e2 : ver ⟨bb, P', true⟩ = v + 1 := hv'
  constructor
  · unfold readU
    rw [if_pos rfl]
    unfold folU
    rw [if_neg (fun h => by cases h.1), e1, if_pos ⟨rfl, by omega, rfl⟩]
    show (if (apR P e).2 = 0 then (⟨bb, (apR P e).1, true⟩ : Uy) else _) = _
    rw [ha, if_pos rfl]
  · unfold readU
    rw [if_pos rfl]
    unfold folU
    rw [if_neg (fun h => by cases h.1), e2, if_neg (fun h => by have : v + 1 = v + 1 + 1 := h.2.2; omega)]
/-- The next entry goes out to all; whoever crashed just now (w) does not take it. -/
theorem gr_send (hv0 : 0 ≤ p.v) (hu : 1 ≤ u ∧ u ≤ 16) (g : GR p f n u j b y) (hj : j < n) (c : Bool) (w : Nat) :
    ∃ y2, runD 200 (tickY (if c = true then crY y w else y)) = y2 ∧ y2.ns = [] ∧ y2.h.un = u ∧ y2.h.pl = PJ p f (j + 1) ∧ (y2.h.q = (List.range' (j + 1) (n - (j + 1))).map fun i => eB (f i)) ∧
      ∀ i, i < u → (if c = true ∧ i = w then y2.uf i = ⟨b i + 1, zPl, false⟩ ∧ y2.h.wd i = ⟨b i + 1, -1⟩ else y2.uf i = ⟨b i, PJ p f (j + 1), true⟩ ∧ y2.h.wd i = ⟨b i, (PJ p f (j + 1)).v⟩) := by
  have hyh : (if c = true then crY y w else y).h = y.h := by split <;> rfl
  have hyn : (if c = true then crY y w else y).ns = [] := by
    split
    · exact g.ns
    · exact g.ns
  have hyu : ∀ i, i < u → (if c = true then crY y w else y).uf i = if c = true ∧ i = w then ⟨b i + 1, zPl, false⟩ else ⟨b i, PJ p f j, true⟩ := fun i hi => by
    cases c with
    | false => rw [if_neg (by decide), if_neg (fun h => by cases h.1)]; exact (g.all i hi).1
    | true =>
      rw [if_pos rfl]
      show setU y.uf w (crU (y.uf w)) i = _
      unfold setU
      by_cases e : i = w
      · rw [if_pos e, if_pos ⟨rfl, e⟩, ← e, (g.all i hi).1]; rfl
      · rw [if_neg e, if_neg (fun h => e h.2)]; exact (g.all i hi).1
  obtain ⟨y0, hy0⟩ : ∃ y0, y0 = (if c = true then crY y w else y) := ⟨_, rfl⟩
  rw [← hy0] at hyh hyn hyu ⊢
  clear hy0
  have hvj : (PJ p f j).v = p.v + j := pj_v p f j
  have hvj1 : (PJ p f (j + 1)).v = p.v + j + 1 := by rw [pj_v]; omega
  have hab : allB y0.h = true := by
    rw [hyh]
    exact all_b (v := (PJ p f j).v) (by rw [g.pl]) (fun i hi => by rw [(g.all i (by rw [← g.un]; exact hi)).2])
  have hs : sendH y0.h = { y.h with pl := PJ p f (j + 1), la := eB (f j), q := (List.range' (j + 1) (n - (j + 1))).map fun i => eB (f i) } := by
    unfold sendH
    rw [if_pos hab, hyh]
    unfold pubH
    rw [gr_q g hj]
    simp only [g.pl, pj_ap, if_true]
  obtain ⟨h, hh⟩ : ∃ h, h = ({ y.h with pl := PJ p f (j + 1), la := eB (f j), q := (List.range' (j + 1) (n - (j + 1))).map fun i => eB (f i) } : Hd) := ⟨_, rfl⟩
  rw [← hh] at hs
  have k1 : h.un = u := by rw [hh]; exact g.un
  have k2 : h.pl = PJ p f (j + 1) := by rw [hh]
  have k3 : h.q = (List.range' (j + 1) (n - (j + 1))).map fun i => eB (f i) := by rw [hh]
  have k4 : h.la = eB (f j) := by rw [hh]
  have k5 : ∀ i, i < u → h.wd i = ⟨b i, p.v + j⟩ := fun i hi => by rw [hh, ← hvj]; exact (g.all i hi).2
  clear hh
  have hnote : ∀ i, i < u → noteH h i = ⟨i, b i, p.v + j + 1, false, false, eB (f j), zPl⟩ := fun i hi => by
    unfold noteH
    have : oneB h i = true := by
      unfold oneB
      rw [k4, k5 i hi, k2, hvj1]
      show ((6 : Int) != 0 && (p.v + j == p.v + j + 1 - 1)) = true
      simp
    rw [if_pos this, k5 i hi, k2, hvj1, k4]
  obtain ⟨r1, r2, r3, r4, r5⟩ := whole_round hs hyn (fun i => if c = true ∧ i = w then ⟨b i + 1, zPl, false⟩ else ⟨b i, PJ p f (j + 1), true⟩) (by rw [k1]; omega) (fun i hi => by
      show -1 ≤ ver (if c = true ∧ i = w then (⟨b i + 1, zPl, false⟩ : Uy) else ⟨b i, PJ p f (j + 1), true⟩)
      split
      · exact Int.le_refl _
      · show -1 ≤ (PJ p f (j + 1)).v
        omega) (fun i hi _ => by
      rw [k1] at hi
      rw [hnote i hi, hyu i hi, k5 i hi]
      by_cases e : c = true ∧ i = w
      · have hr : readU ⟨(i : Int), b i, p.v + j + 1, false, false, eB (f j), zPl⟩ ⟨b i + 1, zPl, false⟩ = ⟨b i + 1, zPl, false⟩ := by
          unfold readU
          rw [if_neg (by show ¬ b i = b i + 1; omega)]
        unfold trU
        simp only [if_pos e]
        exact ⟨hr, hr, .inl (by unfold cntB; simp; left; omega)⟩
      · obtain ⟨q1, q2⟩ := read_e (bb := b i) i hvj (by omega) (pj_ap p f j) hvj1
        unfold trU
        simp only [if_neg e]
        refine ⟨q1, q2, .inl ?_⟩
        show cntB ⟨b i, p.v + j⟩ ⟨b i, (PJ p f (j + 1)).v⟩ = true
        rw [hvj1]
        unfold cntB
        simp
        omega) (fun i hi hn => by
      exfalso
      apply hn
      rw [k5 i (by rw [← k1]; exact hi), k2, hvj1]
      show p.v + (j : Int) < p.v + j + 1
      omega)
  refine ⟨_, rfl, r1, r2.trans k1, r3.trans k2, r4.trans k3, fun i hi => ?_⟩
  obtain ⟨t1, t2⟩ := r5 i (by rw [k1]; exact hi)
  unfold trU at t2
  by_cases e : c = true ∧ i = w
  · rw [if_pos e]
    simp only [if_pos e] at t1 t2
    exact ⟨t1, t2⟩
  · rw [if_neg e]
    simp only [if_neg e] at t1 t2
    exact ⟨t1, t2⟩
theorem read_all {v bb : Int} {P : Pl} {x : Uy} (i : Nat) (hv : P.v = v) (hv0 : 0 ≤ v) (hx : x = ⟨bb, zPl, false⟩ ∨ x = ⟨bb, P, true⟩) : readU ⟨(i : Int), bb, v, true, false, zEn, P⟩ x = ⟨bb, P, true⟩ := by
  unfold readU folU
  rcases hx with rfl | rfl
  · rw [if_pos rfl, if_pos ⟨rfl, by show (-1 : Int) < P.v; omega⟩]
  · rw [if_pos rfl, if_neg (fun h => by have : P.v < P.v := h.2; omega), if_neg (fun h => by cases h.1)]
/-- Whoever came late is told the whole pool. -/
theorem gr_late (hv0 : 0 ≤ p.v) (hu : 1 ≤ u ∧ u ≤ 16) (hj : 1 ≤ j) {w : Nat} (hw : w < u) (h1 : y.ns = []) (h2 : y.h.un = u) (h3 : y.h.pl = PJ p f j) (h4 : y.h.q = (List.range' j (n - j)).map fun i => eB (f i))
    (h5 : ∀ i, i < u → if i = w then y.uf i = ⟨b i, zPl, false⟩ ∧ y.h.wd i = ⟨b i, -1⟩ else y.uf i = ⟨b i, PJ p f j, true⟩ ∧ y.h.wd i = ⟨b i, (PJ p f j).v⟩) : GR p f n u j b (runD 200 (tickY y)) := by
  have hvj : (PJ p f j).v = p.v + j := pj_v p f j
  have hww := h5 w hw
  rw [if_pos rfl] at hww
  have hs : sendH y.h = y.h := by
    unfold sendH
    have : ¬ allB y.h = true := fun ha => by
      have := allB_at ha (i := w) (by rw [h2]; exact hw)
      rw [hww.2, h3, hvj] at this
      have : (-1 : Int) = p.v + j := this
      omega
    rw [if_neg this]
  have hnote : noteH y.h w = ⟨w, b w, p.v + j, true, false, zEn, PJ p f j⟩ := by
    unfold noteH
    have : oneB y.h w = false := by
      unfold oneB
      rw [hww.2, h3, hvj]
      have : ((-1 : Int) == p.v + j - 1) = false := by simp; omega
      show (_ && ((-1 : Int) == p.v + j - 1)) = false
      rw [this, Bool.and_false]
    rw [this, if_neg (by decide), hww.2, h3, hvj]
  have hvT : ∀ i, ver ⟨b i, PJ p f j, true⟩ = p.v + j := fun i => hvj
  obtain ⟨r1, r2, r3, r4, r5⟩ := whole_round hs h1 (fun i => ⟨b i, PJ p f j, true⟩) (by rw [h2]; omega) (fun i hi => by show -1 ≤ ver _; rw [hvT]; omega) (fun i hi hlt => by
      rw [h2] at hi
      have hx := h5 i hi
      by_cases e : i = w
      · rw [if_pos e] at hx
        subst e
        rw [hnote, hx.1, hx.2]
        refine ⟨read_all i hvj (by omega) (.inl rfl), read_all i hvj (by omega) (.inr rfl), .inl ?_⟩
        show cntB ⟨b i, -1⟩ ⟨b i, ver ⟨b i, PJ p f j, true⟩⟩ = true
        rw [hvT]
        unfold cntB
        simp
        omega
      · rw [if_neg e] at hx
        rw [hx.2, h3] at hlt
        exact absurd hlt (Int.lt_irrefl _)) (fun i hi hn => by
      rw [h2] at hi
      have hx := h5 i hi
      by_cases e : i = w
      · rw [if_pos e] at hx
        exfalso
        apply hn
        rw [hx.2, h3, hvj]
        show (-1 : Int) < p.v + j
        omega
      · rw [if_neg e] at hx
        exact hx)
  exact ⟨r1, r2.trans h2, r3.trans h3, r4.trans h4, fun i hi => r5 i (by rw [h2]; exact hi)⟩
/-- The first round: all are told the whole pool. -/
theorem gr_first (hv0 : 0 ≤ p.v) (hu : 1 ≤ u ∧ u ≤ 16) (a : Pl) : GR p f n u 0 (fun _ => 0) (runD 200 (tickY ⟨{ newH p u with ah := a, q := (List.range' 0 n).map fun i => eB (f i) }, fun _ => z0, []⟩)) := by
  have hs : sendH ({ newH p u with ah := a, q := (List.range' 0 n).map fun i => eB (f i) } : Hd) = { newH p u with ah := a, q := (List.range' 0 n).map fun i => eB (f i) } := by
    unfold sendH
    rw [if_neg (fun ha => by
      have := allB_at ha (i := 0) (show 0 < u by omega)
      have : (-1 : Int) = p.v := this
      omega)]
  have hnote : ∀ i, noteH ({ newH p u with ah := a, q := (List.range' 0 n).map fun i => eB (f i) } : Hd) i = ⟨i, 0, p.v, true, false, zEn, p⟩ := fun i => rfl
  obtain ⟨r1, r2, r3, r4, r5⟩ := whole_round (y := ⟨{ newH p u with ah := a, q := (List.range' 0 n).map fun i => eB (f i) }, fun _ => z0, []⟩) hs rfl (fun _ => ⟨0, p, true⟩) (by show u ≤ 100; omega) (fun i _ => by show -1 ≤ p.v; omega) (fun i _ _ => by
      rw [hnote]
      refine ⟨read_all i rfl hv0 (.inl rfl), read_all i rfl hv0 (.inr rfl), .inl ?_⟩
      show cntB ⟨0, -1⟩ ⟨0, p.v⟩ = true
      unfold cntB
      simp
      omega) (fun i _ hn => absurd (show (-1 : Int) < p.v by omega) hn)
  exact ⟨r1, r2, r3, r4, fun i hi => r5 i hi⟩
end
end Go.Proofs.Ytnnilkdlpampdaa
