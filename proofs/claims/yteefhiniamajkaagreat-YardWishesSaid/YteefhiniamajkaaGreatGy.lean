/- A row of the call's own as a thing; append as an operation on things. Lists of things. What a yard holds, and does; of units that are up each is of the pool's version, or one less. Planes, units, lanes in memory. -/
import Derived.Test.YteefhiniamajkaaGreatGh
import Derived.Test.YteefhiniamajkaaGreatGt
import Derived.BigQuiet
import Derived.Deep.RegionHeld3
import Derived.Deep.Cut
import Derived.IntWalk
import Derived.Test.YteefhiniamajkaaGreatGx
import Derived.Test.YteefhiniamajkaaGreatGn
namespace Go.Proofs.YteefhiniamajkaaGreat
set_option linter.unusedVariables false
set_option linter.unusedSimpArgs false
open Go.RowKit Go.ChangeShapes Go.WideShapes Go.ChangeAt
/-- A row of the call's own, as a thing. -/
def thW (B : Nat) (e : TypeId) (size : Nat) (v : Value) (n : Nat) (f : Nat → Value) : Th := ⟨fun w => Ow w B e size v n f, v.ownBlock.toList, fun w w' h hb => by
    refine ⟨h.1, ?_⟩
    rcases h.2 with hn | ⟨g, cap, cur, rfl, hg, hgg, rest⟩
    · exact .inl hn
    · exact .inr ⟨g, cap, cur, rfl, hg, (hb g (by simp [Value.ownBlock])).trans hgg, rest⟩, fun w h b hb => (World.ownsRow.lt h b (by simpa using hb)).2⟩
section
variable {S : List Nat} {W w w' : World} {L A : List Th} {B : Nat} {e : TypeId} {size n n' : Nat} {v v' : Value} {f f' : Nat → Value}
theorem HS.nilW (h : HS S W w L) : HS S W w (thW B e size (.slice none 0 0) 0 f :: L) :=
  h.new (thW B e size (.slice none 0 0) 0 f) (Below.refl _ _) Ow.none_ (by simp [thW, Value.ownBlock]) (fun b hb => by simp [thW, Value.ownBlock] at hb)
theorem HS.grownW (h : HS S W w (A ++ thW B e size v n f :: L)) (hg : w.grownBy w' v.ownBlock) (ho : Ow w' B e size v' n' f') (hv : ∀ g, v'.ownBlock = some g → v.ownBlock = some g ∨ g = w.heap.size) : HS S W w' (A ++ thW B e size v' n' f' :: L) := by
  obtain ⟨h1, h2, h3, h4⟩ := h
  have hp : ((A ++ thW B e size v n f :: L).flatMap Th.bs).Perm (v.ownBlock.toList ++ (A ++ L).flatMap Th.bs) := by
    have := (List.perm_middle (a := thW B e size v n f) (l₁ := A) (l₂ := L)).flatMap_right Th.bs
    rw [List.flatMap_cons] at this
    exact this
  have hp' : ((A ++ thW B e size v' n' f' :: L).flatMap Th.bs).Perm (v'.ownBlock.toList ++ (A ++ L).flatMap Th.bs) := by
    have := (List.perm_middle (a := thW B e size v' n' f') (l₁ := A) (l₂ := L)).flatMap_right Th.bs
    rw [List.flatMap_cons] at this
    exact this
  have hn := hp.nodup_iff.1 h3
  rw [List.nodup_append] at hn
  obtain ⟨_, hn2, hn3⟩ := hn
  have hne : ∀ x, x ∈ A ++ L → ∀ b, b ∈ x.bs → v.ownBlock ≠ some b := fun x hx b hb e => hn3 b (by rw [e]; simp) b (List.mem_flatMap.2 ⟨x, hx, hb⟩) rfl
  have hk : ∀ x, x ∈ A ++ L → x.at_ w → x.at_ w' := fun x hx hat => x.keep w w' hat fun b hb => hg.block b (x.lt w hat b hb) (fun e => hne x hx b hb e.symm)
  have hmem : ∀ x, x ∈ A ++ L → x ∈ A ++ thW B e size v n f :: L := fun x hx => by
    rcases List.mem_append.1 hx with hx | hx
    · exact List.mem_append.2 (.inl hx)
    · exact List.mem_append.2 (.inr (List.mem_cons_of_mem _ hx))
  refine ⟨fun x hx => ?_, h2.grown hg (fun c hc => h4 c (hp.mem_iff.2 (by rw [hc]; simp))), ?_, fun b hb => ?_⟩
  · rcases List.mem_append.1 hx with hx | hx
    · exact hk x (List.mem_append.2 (.inl hx)) (h1 x (List.mem_append.2 (.inl hx)))
    · rcases List.mem_cons.1 hx with rfl | hx
      · exact ho
      · exact hk x (List.mem_append.2 (.inr hx)) (h1 x (List.mem_append.2 (.inr (List.mem_cons_of_mem _ hx))))
  · refine hp'.nodup_iff.2 (List.nodup_append.2 ⟨by cases v'.ownBlock <;> simp, hn2, fun a ha b hb e => ?_⟩)
    subst e
    have ha' : v'.ownBlock = some a := by simpa using ha
    rcases hv a ha' with h5 | h5
    · exact hn3 a (by rw [h5]; simp) a hb rfl
    · obtain ⟨x, hx, hxa⟩ := List.mem_flatMap.1 hb
      have := x.lt w (h1 x (hmem x hx)) a hxa
      omega
  · have := hp'.mem_iff.1 hb
    rcases List.mem_append.1 this with h5 | h5
    · have ha' : v'.ownBlock = some b := by simpa using h5
      rcases hv b ha' with h6 | h6
      · exact h4 b (hp.mem_iff.2 (by rw [h6]; simp))
      · right; rw [h6]; exact h2.2.1
    · exact h4 b (hp.mem_iff.2 (List.mem_append.2 (.inr h5)))
theorem HS.row (h : HS S W w (A ++ thW B e size v n f :: L)) : Ow w B e size v n f := h.1 (thW B e size v n f) (by simp)
variable {Q : Exit → Act → World → Prop} {o : Oper} {a : Act} {K : Act → World → Prop}
/-- append as an operation on things. -/
theorem ow_appW {t : TypeId} (s x : Operand) (ho : o.op = .call { callee := .builtin .append, args := #[s, x], argTypes := #[t, t] }) {i : TypeInfo} {z : Value} {bytes : Nat} (ht : Tryz.prog.underlying t = some (.slice e)) (hi : Tryz.prog.info? e = some i) (hz : i.zero = some z) (hsize : i.size = size) (hby : i.bytes = bytes) (hzs : z.cells.size = size) (hsz : 0 < size)
    (hs : a.eval s = v) {X : Option Addr} {m c : Nat} {f2 : Nat → Value} (hx : a.eval x = .slice X m c) (hS : HS S W w (A ++ thW B e size v n f :: L)) (hr : Sl w X (m * size) f2) (h1 : ∀ j, j < m * size → (f2 j).oneCell' = true) (h63 : n + m ≤ maxLen) (hbytes : (n + m) * bytes ≤ 140737488355328) (hbase : B ≤ w.heap.size)
    (f' : Nat → Value) (hf : ∀ j, j < (n + m) * size → two (n * size) f f2 j = f' j) (h : ∀ A' c' w', HS S W w' (A ++ thW B e size (.slice A' (n + m) c') (n + m) f' :: L) → n + m ≤ c' → B ≤ w'.heap.size → K (a.put o.dst (.slice A' (n + m) c')) w') : o.wp Tryz.prog a w K Q := by
  have hown : Ow w B e size v n f := hS.row
  refine wpo_app w s x t ho B e i z size bytes ht hi hz hsize hby hzs hsz v n f hs hown X m c f2 hx hr h1 h63 hbytes hbase (fun A' c' w' g1 g2 g3 g4 g5 g6 => ?_)
  exact h A' c' w' (hS.grownW g5 (Ow.as_ g1 hf) g6) g2 (Nat.le_trans hbase g4.size)
end
/-- A row of entries. -/
def thE (v : Value) (m : Nat) (g : Nat → En) : Th := thW 0 44 7 v m (fun j => enc (g (j / 7)) (j % 7))
def setE (g : Nat → En) (m : Nat) (e : En) (j : Nat) : En := if j = m then e else g j
section
variable {S : List Nat} {W w w' : World} {L A : List Th} {m : Nat} {v : Value} {g : Nat → En} {Q : Exit → Act → World → Prop} {o : Oper} {a : Act} {K : Act → World → Prop}
theorem HS.nilE (h : HS S W w L) : HS S W w (thE (.slice none 0 0) 0 g :: L) := h.nilW
theorem HS.se {X : Option Addr} {c : Nat} (h : HS S W w L) (k : Nat) (hk : L[k]? = some (thE (.slice X m c) m g)) : Se w X m g := Ow.sl (h.nth k hk : Ow w 0 44 7 (.slice X m c) m (fun j => enc (g (j / 7)) (j % 7)))
theorem ow_appE (s x : Operand) (ho : o.op = .call { callee := .builtin .append, args := #[s, x], argTypes := #[46, 46] }) (hs : a.eval s = v) {X c : Nat} (e : En) (hx : a.eval x = .slice (some ⟨X, 0, none⟩) 1 c) (hS : HS S W w (A ++ thE v m g :: L)) (hr : Ce w X (enL e)) (hm : m ≤ 1000000)
    (h : ∀ A' c' w', HS S W w' (A ++ thE (.slice A' (m + 1) c') (m + 1) (setE g m e) :: L) → m + 1 ≤ c' → K (a.put o.dst (.slice A' (m + 1) c')) w') : o.wp Tryz.prog a w K Q := by
  obtain ⟨i0, hi, hz0, hz1, hz2⟩ := info_parts info_e
  refine ow_appW s x ho (B := 0) (z := .agg #[.int .i64 0, .int .i64 0, .int .i64 0, .int .i64 0, .int .i64 0, .int .u64 0, .int .u64 0]) (bytes := 56) Tryz.underlying46 hi hz0 hz1 hz2 rfl (by decide) hs hx (f2 := enc e) hS ?_ (fun j _ => enc_one _ _) (by simp only [maxLen]; omega) (by omega) (Nat.zero_le _) (fun j => enc (setE g m e (j / 7)) (j % 7)) ?_ (fun A' c' w' hS' hc _ => h A' c' w' hS' hc)
  · refine Sl.mk hr.1 fun j hj => ?_
    rw [Nat.zero_add]
    exact hr.2.1 j _ (enL_at _ j (by omega))
  · intro j hj
    unfold two setE
    by_cases hjm : j < m * 7
    · rw [if_pos hjm, if_neg (by omega)]
    · rw [if_neg hjm, if_pos (by omega), show j - m * 7 = j % 7 by omega]
end
end Go.Proofs.YteefhiniamajkaaGreat
namespace Go.Proofs.YteefhiniamajkaaGreat
set_option linter.unusedVariables false
set_option linter.unusedSimpArgs false
open Go.RowKit Go.ChangeShapes Go.WideShapes Go.ChangeAt
section
variable {S : List Nat} {W w w' : World} {L L' : List Th} {t t' : Th}
theorem HS.perm (h : HS S W w L) (hp : L.Perm L') : HS S W w L' :=
  ⟨fun t ht => h.1 t (hp.mem_iff.2 ht), h.2.1, (hp.flatMap_right _).nodup_iff.1 h.2.2.1, fun x hx => h.2.2.2 x ((hp.flatMap_right _).mem_iff.2 hx)⟩
theorem flat_sub {L L' : List Th} (h : L'.Sublist L) : (L'.flatMap Th.bs).Sublist (L.flatMap Th.bs) := by
  induction h with
  | slnil => exact List.Sublist.refl _
  | cons a _ ih => rw [List.flatMap_cons]; exact ih.trans (List.sublist_append_right _ _)
  | cons_cons a _ ih => rw [List.flatMap_cons, List.flatMap_cons]; exact List.Sublist.append (List.Sublist.refl _) ih
theorem HS.sub (h : HS S W w L) (hs : L'.Sublist L) : HS S W w L' :=
  ⟨fun t ht => h.1 t (hs.subset ht), h.2.1, h.2.2.1.sublist (flat_sub hs), fun x hx => h.2.2.2 x ((flat_sub hs).subset hx)⟩
/-- One thing is changed; it may lie in new blocks, too. -/
theorem HS.updG {A B : List Th} (h : HS S W w (A ++ t :: B)) (t' : Th) (hn : t'.bs.Nodup) (hbs : ∀ b, b ∈ t'.bs → b ∈ t.bs ∨ w.heap.size ≤ b) (hc : Ch t.bs w w') (ht : t'.at_ w') : HS S W w' (A ++ t' :: B) := by
  obtain ⟨h1, h2, h3, h4⟩ := h
  have hp : ((A ++ t :: B).flatMap Th.bs).Perm (t.bs ++ (A ++ B).flatMap Th.bs) := by
    have := (List.perm_middle (a := t) (l₁ := A) (l₂ := B)).flatMap_right Th.bs
    rw [List.flatMap_cons] at this
    exact this
  have hp' : ((A ++ t' :: B).flatMap Th.bs).Perm (t'.bs ++ (A ++ B).flatMap Th.bs) := by
    have := (List.perm_middle (a := t') (l₁ := A) (l₂ := B)).flatMap_right Th.bs
    rw [List.flatMap_cons] at this
    exact this
  have hnd := hp.nodup_iff.1 h3
  rw [List.nodup_append] at hnd
  obtain ⟨_, hn2, hn3⟩ := hnd
  have hk : ∀ x, x ∈ A ++ B → x.at_ w → x.at_ w' := fun x hx hat => x.keep w w' hat fun b hb => hc.2.2 b (x.lt w hat b hb) (fun hbt => hn3 b hbt b (List.mem_flatMap.2 ⟨x, hx, hb⟩) rfl)
  have hmem : ∀ x, x ∈ A ++ B → x ∈ A ++ t :: B := fun x hx => by
    rcases List.mem_append.1 hx with hx | hx
    · exact List.mem_append.2 (.inl hx)
    · exact List.mem_append.2 (.inr (List.mem_cons_of_mem _ hx))
  refine ⟨fun x hx => ?_, h2.step hc fun k hk => h4 k (hp.mem_iff.2 (List.mem_append.2 (.inl hk))), ?_, fun b hb => ?_⟩
  · rcases List.mem_append.1 hx with hx | hx
    · exact hk x (List.mem_append.2 (.inl hx)) (h1 x (List.mem_append.2 (.inl hx)))
    · rcases List.mem_cons.1 hx with rfl | hx
      · exact ht
      · exact hk x (List.mem_append.2 (.inr hx)) (h1 x (List.mem_append.2 (.inr (List.mem_cons_of_mem _ hx))))
  · refine hp'.nodup_iff.2 (List.nodup_append.2 ⟨hn, hn2, fun a ha b hb e => ?_⟩)
    subst e
    rcases hbs a ha with h5 | h5
    · exact hn3 a h5 a hb rfl
    · obtain ⟨x, hx, hxa⟩ := List.mem_flatMap.1 hb
      have := x.lt w (h1 x (hmem x hx)) a hxa
      omega
  · rcases List.mem_append.1 (hp'.mem_iff.1 hb) with h5 | h5
    · rcases hbs b h5 with h6 | h6
      · exact h4 b (hp.mem_iff.2 (List.mem_append.2 (.inl h6)))
      · exact .inr (Nat.le_trans h2.2.1 h6)
    · exact h4 b (hp.mem_iff.2 (List.mem_append.2 (.inr h5)))
theorem split_at {α : Type} {L : List α} {k : Nat} {x : α} (h : L[k]? = some x) : L = L.take k ++ x :: L.drop (k + 1) := by
  have hk := (List.getElem?_eq_some_iff.1 h).1
  have hx := (List.getElem?_eq_some_iff.1 h).2
  conv => lhs; rw [← List.take_append_drop k L, List.drop_eq_getElem_cons hk, hx]
theorem set_split {α : Type} {L : List α} {k : Nat} (y : α) (h : k < L.length) : L.set k y = L.take k ++ y :: L.drop (k + 1) := by
  rw [List.set_eq_take_append_cons_drop, if_pos h]
theorem HS.updAt (h : HS S W w L) (k : Nat) (hk : L[k]? = some t) (t' : Th) (hn : t'.bs.Nodup) (hbs : ∀ b, b ∈ t'.bs → b ∈ t.bs ∨ w.heap.size ≤ b) (hc : Ch t.bs w w') (ht : t'.at_ w') : HS S W w' (L.set k t') := by
  rw [set_split t' (List.getElem?_eq_some_iff.1 hk).1]
  rw [split_at hk] at h
  exact h.updG t' hn hbs hc ht
/-- Things of a part of the list alone. -/
theorem HS.at_mem (h : HS S W w L) (ht : t ∈ L) : t.at_ w := h.1 t ht
theorem range_set {α : Type} (F F' : Nat → α) {n i : Nat} (hi : i < n) (hF : ∀ j, j ≠ i → F' j = F j) : ((List.range n).map F).set i (F' i) = (List.range n).map F' := by
  apply List.ext_getElem?
  intro j
  rw [List.getElem?_set]
  by_cases h : i = j
  · subst h
    rw [if_pos rfl]
    simp [hi]
  · rw [if_neg h]
    simp only [List.getElem?_map]
    by_cases hj : j < n
    · simp [hj, hF j (Ne.symm h)]
    · simp [hj]
end
end Go.Proofs.YteefhiniamajkaaGreat
namespace Go.Proofs.YteefhiniamajkaaGreat
set_option linter.unusedVariables false
set_option linter.unusedSimpArgs false
open Go.RowKit Go.ChangeShapes Go.WideShapes Go.ChangeAt

/-- A unit: its boot, its pool, whether it is up. -/
structure Uy where
  b : Int
  p : Pl
  up : Bool
def ver (u : Uy) : Int := if u.up = true then u.p.v else -1
/-- What a unit does with a note of its own boot. -/
def folU (n : Nt) (u : Uy) : Uy :=
  if n.wh = true ∧ ver u < n.p.v then ⟨u.b, n.p, true⟩
  else if n.wh = false ∧ ver u ≠ -1 ∧ n.v = ver u + 1 then (if (apR u.p n.e).2 = 0 then ⟨u.b, (apR u.p n.e).1, true⟩ else u) else u
def readU (n : Nt) (u : Uy) : Uy := if n.b = u.b then folU n u else u
def ackU (i : Nat) (u : Uy) : Nt := ⟨i, u.b, ver u, false, true, zEn, zPl⟩
def crU (u : Uy) : Uy := ⟨u.b + 1, zPl, false⟩
def setU (f : Nat → Uy) (i : Nat) (x : Uy) (j : Nat) : Uy := if j = i then x else f j
/-- A yard: its head, its units, the notes on their way. -/
structure Yd where
  h : Hd
  uf : Nat → Uy
  ns : List Nt
def newY (p : Pl) (u : Nat) : Yd := ⟨newH p u, fun _ => ⟨0, zPl, false⟩, []⟩
def tickY (y : Yd) : Yd := ⟨sendH y.h, y.uf, y.ns ++ notesK (sendH y.h) y.h.un⟩
def dropL (l : List Nt) (i : Nat) (keep : Bool) : List Nt := if keep = true then l else l.eraseIdx i
def getY (y : Yd) (n : Nt) (l : List Nt) : Yd :=
  if n.ak = true then ⟨heardH y.h n, y.uf, l⟩ else ⟨y.h, setU y.uf n.u.toNat (readU n (y.uf n.u.toNat)), l ++ [ackU n.u.toNat (readU n (y.uf n.u.toNat))]⟩
def delY (y : Yd) (i : Nat) (keep : Bool) : Yd := match y.ns[i]? with
  | none => y
  | some n => getY y n (dropL y.ns i keep)
def crY (y : Yd) (i : Nat) : Yd := ⟨y.h, setU y.uf i (crU (y.uf i)), y.ns⟩
def loY (y : Yd) (i : Nat) : Yd := ⟨y.h, y.uf, y.ns.eraseIdx i⟩
/-- A pool as those that are published. -/
def good (p : Pl) : Prop := Pinv p (30 + p.v) ∧ Pw p
theorem good.v {p : Pl} (h : good p) : 0 ≤ p.v := h.1.1.1
theorem good.step {p : Pl} {e : En} (h : good p) (h0 : (apR p e).2 = 0) : good (apR p e).1 ∧ (apR p e).1.v = p.v + 1 := by
  have hv : (apR p e).1.v = p.v + 1 := by
    obtain ⟨_, _, h2⟩ := apR_ok h0
    rw [h2]
    unfold nxP
    cases (e.k == 6) <;> rfl
  exact ⟨⟨(apR_inv h.1 h0).mono (by omega), h.2.step h0⟩, hv⟩
/-- What holds of a note on its way. -/
def NtOk (y : Yd) (n : Nt) : Prop := (0 ≤ n.u ∧ n.u < y.h.un) ∧
  (n.ak = true → n.b ≤ (y.uf n.u.toNat).b ∧ (n.b = (y.uf n.u.toNat).b → n.v ≤ ver (y.uf n.u.toNat)) ∧ -1 ≤ n.v) ∧
  (n.ak = false → n.b ≤ (y.h.wd n.u.toNat).b ∧ n.v ≤ y.h.pl.v ∧ (n.wh = true → good n.p ∧ n.p.v = n.v) ∧ (n.b = (y.uf n.u.toNat).b → (y.uf n.u.toNat).up = false → n.v = y.h.pl.v))
/-- What holds of a unit. -/
def UtOk (y : Yd) (i : Nat) : Prop := (y.h.wd i).b ≤ (y.uf i).b ∧ ((y.h.wd i).b = (y.uf i).b → (y.h.wd i).v ≤ ver (y.uf i)) ∧ ((y.h.wd i).b < (y.uf i).b → (y.uf i).up = false) ∧
  ((y.uf i).up = true → good (y.uf i).p ∧ (y.uf i).p.v ≤ y.h.pl.v ∧ y.h.pl.v ≤ (y.uf i).p.v + 1)
def YdOk (y : Yd) : Prop := good y.h.pl ∧ (∀ i, i < y.h.un → UtOk y i) ∧ ∀ n, n ∈ y.ns → NtOk y n
theorem ver_up {u : Uy} (h : u.up = true) : ver u = u.p.v := by unfold ver; rw [if_pos h]
theorem ver_down {u : Uy} (h : u.up = false) : ver u = -1 := by unfold ver; rw [if_neg (by rw [h]; decide)]
theorem newY_ok {p : Pl} {u : Nat} (h : good p) : YdOk (newY p u) :=
  ⟨h, fun i hi => ⟨Int.le_refl _, fun _ => Int.le_refl _, fun _ => rfl, fun h => by cases h⟩, fun n hn => by cases hn⟩
theorem YdOk.less {y : Yd} (h : YdOk y) {l : List Nt} (hl : ∀ n, n ∈ l → n ∈ y.ns) : YdOk ⟨y.h, y.uf, l⟩ := ⟨h.1, h.2.1, fun n hn => h.2.2 n (hl n hn)⟩
theorem drop_sub (l : List Nt) (i : Nat) (k : Bool) : ∀ n, n ∈ dropL l i k → n ∈ l := fun n hn => by
  unfold dropL at hn
  split at hn
  · exact hn
  · exact List.mem_of_mem_eraseIdx hn
theorem YdOk.lose {y : Yd} (h : YdOk y) (i : Nat) : YdOk (loY y i) := h.less fun n hn => List.mem_of_mem_eraseIdx hn
theorem YdOk.wish {y : Yd} (h : YdOk y) (a : Pl) (q : List En) : YdOk ⟨{ y.h with ah := a, q := q }, y.uf, y.ns⟩ := h
/-- A unit changes, its boot does not go back, its version neither within a boot. -/
theorem YdOk.unit {y : Yd} (h : YdOk y) {i : Nat} {u : Uy} (hb : (y.uf i).b ≤ u.b) (hv : u.b = (y.uf i).b → ver (y.uf i) ≤ ver u) (hd : u.up = false → u.b = (y.uf i).b → (y.uf i).up = false)
    (hn : u.b ≠ (y.uf i).b → u.up = false) (hw : (y.h.wd i).b < u.b → u.up = false) (hg : u.up = true → good u.p ∧ u.p.v ≤ y.h.pl.v ∧ y.h.pl.v ≤ u.p.v + 1) (hi : i < y.h.un) : YdOk ⟨y.h, setU y.uf i u, y.ns⟩ := by
  refine ⟨h.1, fun j hj => ?_, fun n hn' => ?_⟩
  · by_cases e : j = i
    · subst e
      obtain ⟨h1, h2, h3, h4⟩ := h.2.1 j hj
      have e : setU y.uf j u j = u := by unfold setU; rw [if_pos rfl]
      unfold UtOk
      simp only [e]
      refine ⟨Int.le_trans h1 hb, fun hbb => ?_, hw, hg⟩
      by_cases e2 : u.b = (y.uf j).b
      · have := h2 (by omega)
        have := hv e2
        omega
      · exfalso
        omega
    · have e : setU y.uf i u j = y.uf j := by unfold setU; rw [if_neg e]
      have := h.2.1 j hj
      unfold UtOk at this ⊢
      simp only [e]
      exact this
  · obtain ⟨h1, h2, h3⟩ := h.2.2 n hn'
    unfold NtOk
    by_cases e : n.u.toNat = i
    · have e1 : setU y.uf i u n.u.toNat = u := by unfold setU; rw [if_pos e]
      simp only [e1]
      rw [e] at h2 h3
      obtain ⟨w1, w2, w3, w4⟩ := h.2.1 i hi
      refine ⟨h1, fun ha => ?_, fun ha => ?_⟩
      · obtain ⟨a, b, c⟩ := h2 ha
        refine ⟨Int.le_trans a hb, fun hbb => ?_, c⟩
        have e2 : u.b = (y.uf i).b := by omega
        have := b (by omega)
        have := hv e2
        omega
      · obtain ⟨a, b, c, d⟩ := h3 ha
        rw [e]
        refine ⟨a, b, c, fun hbb hup => ?_⟩
        have e2 : u.b = (y.uf i).b := by omega
        exact d (by omega) (hd hup e2)
    · have e1 : setU y.uf i u n.u.toNat = y.uf n.u.toNat := by unfold setU; rw [if_neg e]
      simp only [e1]
      exact ⟨h1, h2, h3⟩
theorem YdOk.crash {y : Yd} (h : YdOk y) {i : Nat} (hi : i < y.h.un) : YdOk (crY y i) :=
  h.unit (u := crU (y.uf i)) (by show (y.uf i).b ≤ (y.uf i).b + 1; omega) (fun e => by have : (y.uf i).b + 1 = (y.uf i).b := e; omega) (fun _ e => by have : (y.uf i).b + 1 = (y.uf i).b := e; omega) (fun _ => rfl) (fun _ => rfl) (fun e => by cases e) hi
theorem fol_b (n : Nt) (u : Uy) : (folU n u).b = u.b := by
  unfold folU
  split
  · rfl
  · split
    · split <;> rfl
    · rfl
theorem read_b (n : Nt) (u : Uy) : (readU n u).b = u.b := by
  unfold readU
  split
  · exact fol_b n u
  · rfl
/-- A unit reads a note. -/
theorem YdOk.read {y : Yd} (h : YdOk y) {n : Nt} (hn : NtOk y n) (ha : n.ak = false) : YdOk ⟨y.h, setU y.uf n.u.toNat (readU n (y.uf n.u.toNat)), y.ns⟩ := by
  obtain ⟨⟨u1, u2⟩, _, h3⟩ := hn
  obtain ⟨a, b, c, d⟩ := h3 ha
  have hi : n.u.toNat < y.h.un := by omega
  obtain ⟨w1, w2, w3, w4⟩ := h.2.1 _ hi
  have hpv := h.1.v
  generalize n.u.toNat = i at *
  generalize hu : y.uf i = u at *
  have key : readU n u = u ∨ (n.b = u.b ∧ (readU n u).up = true ∧ ver u ≤ ver (readU n u) ∧ good (readU n u).p ∧ (readU n u).p.v ≤ y.h.pl.v ∧ y.h.pl.v ≤ (readU n u).p.v + 1) := by
    unfold readU
    by_cases hb : n.b = u.b
    · rw [if_pos hb]
      unfold folU
      by_cases c1 : n.wh = true ∧ ver u < n.p.v
      · rw [if_pos c1]
        obtain ⟨g1, g2⟩ := c c1.1
        refine .inr ⟨hb, rfl, ?_, g1, by show n.p.v ≤ _; omega, ?_⟩
        · rw [ver_up (u := ⟨u.b, n.p, true⟩) rfl]; exact Int.le_of_lt c1.2
        · show y.h.pl.v ≤ n.p.v + 1
          cases hup : u.up with
          | true => have := (w4 hup).2.2; have h5 := ver_up hup; have := c1.2; omega
          | false => have := d hb hup; omega
      · rw [if_neg c1]
        by_cases c2 : n.wh = false ∧ ver u ≠ -1 ∧ n.v = ver u + 1
        · rw [if_pos c2]
          by_cases c3 : (apR u.p n.e).2 = 0
          · rw [if_pos c3]
            have hup : u.up = true := by
              cases hup : u.up with
              | true => rfl
              | false => exact absurd (ver_down hup) c2.2.1
            obtain ⟨g1, g2, g3⟩ := w4 hup
            obtain ⟨s1, s2⟩ := g1.step c3
            have h5 := ver_up hup
            refine .inr ⟨hb, rfl, ?_, s1, ?_, ?_⟩
            · rw [ver_up (u := ⟨u.b, (apR u.p n.e).1, true⟩) rfl]; show ver u ≤ (apR u.p n.e).1.v; omega
            · show (apR u.p n.e).1.v ≤ _; have := c2.2.2; omega
            · show _ ≤ (apR u.p n.e).1.v + 1; omega
          · rw [if_neg c3]; exact .inl rfl
        · rw [if_neg c2]; exact .inl rfl
    · rw [if_neg hb]; exact .inl rfl
  have hbb : (readU n u).b = u.b := read_b n u
  refine h.unit (by rw [hu, hbb]; exact Int.le_refl _) (fun _ => ?_) (fun hup _ => ?_) (fun e => absurd (by rw [hu]; exact hbb) e) (fun hlt => ?_) (fun hup => ?_) hi
  · rw [hu]
    rcases key with e | ⟨_, _, e, _⟩
    · rw [e]; exact Int.le_refl _
    · exact e
  · rw [hu]
    rcases key with e | ⟨_, e, _⟩
    · rw [e] at hup; exact hup
    · rw [e] at hup; cases hup
  · rcases key with e | ⟨e, _⟩
    · rw [e] at hlt ⊢; exact w3 hlt
    · rw [hbb] at hlt; omega
  · rcases key with e | ⟨_, _, _, e⟩
    · rw [e] at hup ⊢; exact w4 hup
    · exact e
/-- The head hears a word. -/
theorem YdOk.heard {y : Yd} (h : YdOk y) {n : Nt} (hn : NtOk y n) (ha : n.ak = true) : YdOk ⟨heardH y.h n, y.uf, y.ns⟩ := by
  obtain ⟨⟨u1, u2⟩, h2, _⟩ := hn
  obtain ⟨a, b, c⟩ := h2 ha
  have hmx : mx n.v = n.v := by unfold mx; rw [if_neg (by omega)]
  unfold heardH
  split
  · split
    · rename_i hc
      rw [hmx] at hc ⊢
      have hle : (y.h.wd n.u.toNat).b ≤ n.b := by
        unfold cntB at hc
        simp only [Bool.or_eq_true, decide_eq_true_eq, Bool.and_eq_true, beq_iff_eq] at hc
        rcases hc with hc | hc <;> omega
      refine ⟨h.1, fun j hj => ?_, fun x hx => ?_⟩
      · by_cases e : j = n.u.toNat
        · subst e
          obtain ⟨w1, w2, w3, w4⟩ := h.2.1 _ hj
          have e1 : setW y.h.wd n.u.toNat ⟨n.b, n.v⟩ n.u.toNat = ⟨n.b, n.v⟩ := by unfold setW; rw [if_pos rfl]
          unfold UtOk
          simp only [e1]
          exact ⟨a, b, fun hlt => w3 (by omega), w4⟩
        · have e1 : setW y.h.wd n.u.toNat ⟨n.b, n.v⟩ j = y.h.wd j := by unfold setW; rw [if_neg e]
          have := h.2.1 j hj
          unfold UtOk at this ⊢
          simp only [e1]
          exact this
      · obtain ⟨x1, x2, x3⟩ := h.2.2 x hx
        refine ⟨x1, x2, fun hak => ?_⟩
        obtain ⟨q1, q2⟩ := x3 hak
        refine ⟨?_, q2⟩
        show x.b ≤ (setW y.h.wd n.u.toNat ⟨n.b, n.v⟩ x.u.toNat).b
        unfold setW
        by_cases e : x.u.toNat = n.u.toNat
        · rw [if_pos e]; rw [e] at q1; exact Int.le_trans q1 hle
        · rw [if_neg e]; exact q1
    · exact h
  · exact h
theorem YdOk.more {y : Yd} (h : YdOk y) {l : List Nt} (hl : ∀ n, n ∈ l → NtOk y n) : YdOk ⟨y.h, y.uf, y.ns ++ l⟩ :=
  ⟨h.1, h.2.1, fun n hn => by rcases List.mem_append.1 hn with hn | hn; exact h.2.2 n hn; exact hl n hn⟩
theorem YdOk.deliver {y : Yd} (h : YdOk y) (i : Nat) (k : Bool) : YdOk (delY y i k) := by
  unfold delY
  cases hi : y.ns[i]? with
  | none => exact h
  | some n =>
    have hn := h.2.2 n (List.mem_of_getElem? hi)
    have h1 := h.less (drop_sub y.ns i k)
    show YdOk (getY y n _)
    unfold getY
    cases ha : n.ak with
    | true =>
      rw [if_pos rfl]
      exact YdOk.heard (y := ⟨y.h, y.uf, dropL y.ns i k⟩) h1 hn ha
    | false =>
      rw [if_neg (by decide)]
      have h2 := YdOk.read (y := ⟨y.h, y.uf, dropL y.ns i k⟩) h1 hn ha
      refine h2.more fun x hx => ?_
      rw [List.mem_singleton] at hx
      subst hx
      obtain ⟨⟨u1, u2⟩, _⟩ := hn
      have e0 : ((n.u.toNat : Nat) : Int).toNat = n.u.toNat := by omega
      refine ⟨⟨by show (0 : Int) ≤ (n.u.toNat : Int); omega, by show (n.u.toNat : Int) < _; show (n.u.toNat : Int) < (y.h.un : Int); omega⟩, fun _ => ?_, fun e => by cases e⟩
      have e1 : setU y.uf n.u.toNat (readU n (y.uf n.u.toNat)) n.u.toNat = readU n (y.uf n.u.toNat) := by unfold setU; rw [if_pos rfl]
      show (readU n (y.uf n.u.toNat)).b ≤ (setU y.uf n.u.toNat (readU n (y.uf n.u.toNat)) ((n.u.toNat : Nat) : Int).toNat).b ∧ _
      rw [e0, e1]
      refine ⟨Int.le_refl _, fun _ => ?_, ?_⟩
      · show ver _ ≤ ver (setU y.uf n.u.toNat (readU n (y.uf n.u.toNat)) ((n.u.toNat : Nat) : Int).toNat)
        rw [e0, e1]
        exact Int.le_refl _
      · show -1 ≤ ver (readU n (y.uf n.u.toNat))
        cases hup : (readU n (y.uf n.u.toNat)).up with
        | false => rw [ver_down hup]; exact Int.le_refl _
        | true =>
          rw [ver_up hup]
          have hx := (h2.2.1 n.u.toNat (by show n.u.toNat < y.h.un; omega)).2.2.2
          have e3 : (setU y.uf n.u.toNat (readU n (y.uf n.u.toNat)) n.u.toNat).up = true := by rw [e1]; exact hup
          have := (hx e3).1.v
          have e4 : (0 : Int) ≤ (setU y.uf n.u.toNat (readU n (y.uf n.u.toNat)) n.u.toNat).p.v := this
          rw [e1] at e4
          omega
theorem mem_notes {h : Hd} {n : Nt} : ∀ {k : Nat}, n ∈ notesK h k → ∃ i, i < k ∧ n = noteH h i
  | 0, hn => by cases hn
  | k + 1, hn => by
    rw [notesK_succ] at hn
    split at hn
    · rcases List.mem_append.1 hn with hn | hn
      · obtain ⟨i, hi, e⟩ := mem_notes hn
        exact ⟨i, by omega, e⟩
      · rw [List.mem_singleton] at hn
        exact ⟨k, by omega, hn⟩
    · obtain ⟨i, hi, e⟩ := mem_notes hn
      exact ⟨i, by omega, e⟩
/-- What is published. -/
theorem send_cases (h : Hd) : sendH h = h ∨ (sendH h = { h with q := (sendH h).q }) ∨ (allB h = true ∧ ∃ e t, (apR h.pl e).2 = 0 ∧ sendH h = { h with pl := (apR h.pl e).1, la := e, q := t }) := by
  unfold sendH
  by_cases ha : allB h = true
  · rw [if_pos ha]
    unfold pubH
    cases hq : h.q with
    | nil => exact .inl rfl
    | cons e t =>
      show _ ∨ _ ∨ _
      simp only
      by_cases h0 : (apR h.pl e).2 = 0
      · rw [if_pos h0]; exact .inr (.inr ⟨ha, e, t, h0, rfl⟩)
      · rw [if_neg h0]; exact .inr (.inl rfl)
  · rw [if_neg ha]; exact .inl rfl
theorem allB_at {h : Hd} (ha : allB h = true) {i : Nat} (hi : i < h.un) : (h.wd i).v = h.pl.v := by
  unfold allB at ha
  rw [List.all_eq_true] at ha
  have := ha i (by simpa using hi)
  simpa using this
theorem sendH_un (h : Hd) : (sendH h).un = h.un := by
  rcases send_cases h with e | e | ⟨_, e, t, _, e2⟩
  · rw [e]
  · rw [e]
  · rw [e2]
theorem sendH_wd (h : Hd) : (sendH h).wd = h.wd := by
  rcases send_cases h with e | e | ⟨_, e, t, _, e2⟩
  · rw [e]
  · rw [e]
  · rw [e2]
/-- The head publishes, if all units have what was published. -/
theorem YdOk.send {y : Yd} (h : YdOk y) : YdOk ⟨sendH y.h, y.uf, y.ns⟩ ∧ good (sendH y.h).pl ∧ y.h.pl.v ≤ (sendH y.h).pl.v ∧ (sendH y.h).pl.v ≤ y.h.pl.v + 1 := by
  rcases send_cases y.h with e | e | ⟨ha, e, t, h0, e2⟩
  · rw [e]; exact ⟨h, h.1, by omega, by omega⟩
  · rw [e]; exact ⟨h, h.1, Int.le_refl _, by show y.h.pl.v ≤ y.h.pl.v + 1; omega⟩
  · obtain ⟨s1, s2⟩ := h.1.step h0
    have hpv := h.1.v
    rw [e2]
    refine ⟨⟨s1, fun i hi => ?_, fun n hn => ?_⟩, s1, by show y.h.pl.v ≤ (apR y.h.pl e).1.v; omega, by show (apR y.h.pl e).1.v ≤ _; omega⟩
    · obtain ⟨w1, w2, w3, w4⟩ := h.2.1 i hi
      refine ⟨w1, w2, w3, fun hup => ?_⟩
      obtain ⟨g1, g2, g3⟩ := w4 hup
      refine ⟨g1, by show (y.uf i).p.v ≤ (apR y.h.pl e).1.v; have g2' : (y.uf i).p.v ≤ y.h.pl.v := g2; omega, ?_⟩
      show (apR y.h.pl e).1.v ≤ _
      have hv := allB_at ha hi
      have hb : (y.h.wd i).b = (y.uf i).b := by
        rcases Int.lt_or_eq_of_le w1 with hlt | he
        · have := w3 hlt
          have hup' : (y.uf i).up = true := hup
          rw [this] at hup'; cases hup'
        · exact he
      have h5 := w2 hb
      have h6 := ver_up (u := y.uf i) hup
      show _ ≤ (y.uf i).p.v + 1
      omega
    · obtain ⟨⟨x0, x1⟩, x2, x3⟩ := h.2.2 n hn
      refine ⟨⟨x0, x1⟩, x2, fun hak => ?_⟩
      obtain ⟨q1, q2, q3, q4⟩ := x3 hak
      refine ⟨q1, by show n.v ≤ (apR y.h.pl e).1.v; omega, q3, fun hbb hup => ?_⟩
      exfalso
      have hi : n.u.toNat < y.h.un := by omega
      obtain ⟨w1, w2, w3, w4⟩ := h.2.1 _ hi
      have hv := allB_at ha hi
      have hbb' : n.b = (y.uf n.u.toNat).b := hbb
      have h5 := w2 (by omega)
      have h6 := ver_down (u := y.uf n.u.toNat) hup
      omega
theorem YdOk.tick {y : Yd} (h : YdOk y) : YdOk (tickY y) := by
  obtain ⟨h1, hg, _, _⟩ := h.send
  unfold tickY
  refine h1.more fun n hn => ?_
  obtain ⟨i, hi, rfl⟩ := mem_notes hn
  have hun : (sendH y.h).un = y.h.un := sendH_un y.h
  have key : ∀ (v : Int) (wh : Bool) (e : En) (p : Pl), v = (sendH y.h).pl.v → (wh = true → good p ∧ p.v = v) → NtOk ⟨sendH y.h, y.uf, y.ns⟩ ⟨i, ((sendH y.h).wd i).b, v, wh, false, e, p⟩ := by
    intro v wh e p hv hp
    refine ⟨⟨by show (0 : Int) ≤ (i : Int); omega, by show (i : Int) < (sendH y.h).un; rw [hun]; omega⟩, (fun e => (by cases e)), fun _ => ⟨?_, ?_, hp, fun _ _ => hv⟩⟩
    · show _ ≤ ((sendH y.h).wd ((i : Nat) : Int).toNat).b
      rw [Int.toNat_natCast]
      exact Int.le_refl _
    · show v ≤ _
      rw [hv]
      exact Int.le_refl _
  unfold noteH
  split
  · exact key _ _ _ _ rfl (fun e => by cases e)
  · exact key _ _ _ _ rfl (fun _ => ⟨hg, rfl⟩)
/-- T5: of units that are up each is of the pool's version, or one less. -/
theorem YdOk.apart {y : Yd} (h : YdOk y) {i : Nat} (hi : i < y.h.un) (hup : (y.uf i).up = true) : (y.uf i).p.v = y.h.pl.v ∨ (y.uf i).p.v = y.h.pl.v - 1 := by
  have := ((h.2.1 i hi).2.2.2 hup).2
  omega
end Go.Proofs.YteefhiniamajkaaGreat
namespace Go.Proofs.YteefhiniamajkaaGreat
set_option linter.unusedVariables false
set_option linter.unusedSimpArgs false
open Go.RowKit Go.ChangeShapes Go.WideShapes Go.ChangeAt
/-- The cells of a plane, of its stand, of a unit, of a yard. -/
def plc (A : Option Addr) (up : Bool) (nr : Nat → Value) (j : Nat) : Value := if j = 0 then .pointer A else if j = 1 then .bool up else nr (j - 2)
def nr0 (j : Nat) : Value := if j % 2 = 0 then .int .u32 0 else .bool false
def stc (p : Pl) (r : Value) (j : Nat) : Value := if j < 330 then pc p j else r
def uc (i : Int) (b : Int) (p : Pl) (pb : Nat) (j : Nat) : Value := if j = 0 then .int .i64 i else if j = 1 then .int .i64 b else if j < 332 then pc p (j - 2) else .pointer (some ⟨pb, 0, none⟩)
def yc (hb : Nat) (U V : Value) (ca cm : Nat) (j : Nat) : Value := if j = 0 then .pointer (some ⟨hb, 0, none⟩) else if j = 1 then U else if j = 2 then V else if j = 3 then .chan (some ca) else .chan (some cm)
def stA (sb : Nat) (up : Bool) : Option Addr := if up = true then some ⟨sb, 0, none⟩ else none
/-- A plane at block pb, its stand at sb. -/
def PlnAt (w : World) (pb sb : Nat) (p : Pl) (up : Bool) : Prop := (∃ nr, Fb w pb 130 (plc (stA sb up) up nr)) ∧ (up = true → ∃ r, Fb w sb 331 (stc p r))
def plB (pb sb : Nat) (up : Bool) : List Nat := if up = true then [pb, sb] else [pb]
section
variable {w w' : World} {pb sb : Nat} {p : Pl} {up : Bool}
theorem PlnAt.same (h : PlnAt w pb sb p up) (e : ∀ b, b ∈ plB pb sb up → w'.heap[b]? = w.heap[b]?) : PlnAt w' pb sb p up := by
  obtain ⟨⟨nr, h1⟩, h2⟩ := h
  refine ⟨⟨nr, h1.same (e pb (by unfold plB; split <;> simp))⟩, fun hu => ?_⟩
  obtain ⟨r, h3⟩ := h2 hu
  exact ⟨r, h3.same (e sb (by unfold plB; rw [if_pos hu]; simp))⟩
theorem PlnAt.lt (h : PlnAt w pb sb p up) : ∀ b, b ∈ plB pb sb up → b < w.heap.size := fun b hb => by
  obtain ⟨⟨nr, h1⟩, h2⟩ := h
  unfold plB at hb
  split at hb
  · rename_i hu
    simp at hb
    rcases hb with rfl | rfl
    · exact h1.1
    · obtain ⟨r, h3⟩ := h2 hu; exact h3.1
  · simp at hb
    subst hb
    exact h1.1
end
def thP (pb sb : Nat) (p : Pl) (up : Bool) : Th := ⟨fun w => PlnAt w pb sb p up, plB pb sb up, fun _ _ h e => h.same e, fun _ h => h.lt⟩
def thU (i ub pb sb : Nat) (u : Uy) : Th := ⟨fun w => Fb w ub 333 (uc i u.b u.p pb) ∧ PlnAt w pb sb u.p u.up, ub :: plB pb sb u.up, fun _ _ h e => ⟨h.1.same (e ub (by simp)), h.2.same (fun b hb => e b (List.mem_cons_of_mem _ hb))⟩, fun _ h b hb => by
  rcases List.mem_cons.1 hb with rfl | hb
  · exact h.1.1
  · exact h.2.lt b hb⟩
def ntV (n : Nt) : Value := .agg (FA 342 (ntc n))
/-- A channel of one note. -/
def thC1 (c : Nat) (l : List Nt) : Th := ⟨fun w => ∃ s r, w.heap[c]? = some (.chan 1 (l.map ntV).toArray false s r false), [c], fun _ _ ⟨s, r, h⟩ e => ⟨s, r, (e c (by simp)).trans h⟩, fun _ ⟨_, _, h⟩ x hx => by simp at hx; subst hx; exact chan_lt h⟩
/-- The notes on their way: each in a block, the blocks in a row. -/
def laf (ns : List (Nat × Nt)) (j : Nat) : Value := .pointer (some ⟨(ns.getD j (0, zNt)).1, 0, none⟩)
def thL (V : Value) (ns : List (Nat × Nt)) : Th := thW 0 133 1 V ns.length (laf ns)
def ntT (x : Nat × Nt) : Th := thB x.1 342 (ntc x.2)
def nths (ns : List (Nat × Nt)) : List Th := ns.map ntT
/-- Where a yard lies. -/
structure Yl where
  Y : Nat
  hb : Nat
  hc : Nat
  hm : Nat
  hn : Nat
  U : Value
  V : Value
  bf : Nat → Nat × Nat × Nat
  ns : List (Nat × Nt)
  ca : Nat
  cm : Nat
def unT (D : Yl) (uf : Nat → Uy) (i : Nat) : Th := thU i (D.bf i).1 (D.bf i).2.1 (D.bf i).2.2 (uf i)
def ubV (D : Yl) (j : Nat) : Value := .pointer (some ⟨(D.bf j).1, 0, none⟩)
/-- The things of a yard; what lies beside it. -/
def YL (D : Yl) (h : Hd) (uf : Nat → Uy) (R : List Th) : List Th := thB D.Y 5 (yc D.hb D.U D.V D.ca D.cm) :: thL D.V D.ns :: thH D.hb D.hc D.hm D.hn h :: thC1 D.ca [] :: thC1 D.cm [] :: thW 0 72 1 D.U h.un (ubV D) :: ((List.range h.un).map (unT D uf) ++ (nths D.ns ++ R))
theorem zero_plane (w : World) : (zeroValue 144).run Tryz.prog w = .ok (.agg (FA 130 (plc none false nr0))) w := by kernel_rfl
theorem info_plane : (Tryz.prog.info? 144).map (·.size) = some 130 := by kernel_rfl
theorem info_stand : (Tryz.prog.info? 147).map (·.size) = some 331 := by kernel_rfl
theorem info_unit : (Tryz.prog.info? 102).map (·.size) = some 333 := by kernel_rfl
theorem info_yard : (Tryz.prog.info? 71).map (·.size) = some 5 := by kernel_rfl
end Go.Proofs.YteefhiniamajkaaGreat
