/- A row of the call's own as a thing; append as an operation on things. -/
import Derived.Test.YtppcanaelagfmaaHs
import Derived.Test.YtppcanaelagfmaaPolRow
import Derived.BigQuiet
import Derived.Deep.RegionHeld3
import Derived.Deep.Cut
import Derived.IntWalk
namespace Go.Proofs.Ytppcanaelagfmaa
set_option linter.unusedVariables false
set_option linter.unusedSimpArgs false
open Go.RowKit Go.ChangeShapes Go.WideShapes Go.ChangeAt
/-- A row of the call's own, as a thing. -/
def thW (B : Nat) (e : TypeId) (size : Nat) (v : Value) (n : Nat) (f : Nat → Value) : Th := ⟨fun w => Ow w B e size v n f, v.ownBlock.toList, fun w w' h hb => by
    refine ⟨h.1, ?_⟩
    rcases h.2 with hn | ⟨g, cap, cur, rfl, hg, hgg, rest⟩
    · exact .inl hn
    · exact .inr ⟨g, cap, cur, rfl, hg, (hb g (by simp [Value.ownBlock])).trans hgg, rest⟩, fun w h b hb => (World.ownsRow.lt h b (by simpa using hb)).2⟩
section
variable {S : List Nat} {W w w' : World} {L A : List Th} {B : Nat} {e : TypeId} {size n n' : Nat} {v v' : Value} {f f' : Nat → Value}
theorem HS.nilW (h : HS S W w L) : HS S W w (thW B e size (.slice none 0 0) 0 f :: L) :=
  h.new (thW B e size (.slice none 0 0) 0 f) (Below.refl _ _) Ow.none_ (by simp [thW, Value.ownBlock]) (fun b hb => by simp [thW, Value.ownBlock] at hb)
theorem HS.grownW (h : HS S W w (A ++ thW B e size v n f :: L)) (hg : w.grownBy w' v.ownBlock) (ho : Ow w' B e size v' n' f') (hv : ∀ g, v'.ownBlock = some g → v.ownBlock = some g ∨ g = w.heap.size) : HS S W w' (A ++ thW B e size v' n' f' :: L) := by
  obtain ⟨h1, h2, h3, h4⟩ := h
  have hp : ((A ++ thW B e size v n f :: L).flatMap Th.bs).Perm (v.ownBlock.toList ++ (A ++ L).flatMap Th.bs) := by
    have := (List.perm_middle (a := thW B e size v n f) (l₁ := A) (l₂ := L)).flatMap_right Th.bs
    rw [List.flatMap_cons] at this
    exact this
  have hp' : ((A ++ thW B e size v' n' f' :: L).flatMap Th.bs).Perm (v'.ownBlock.toList ++ (A ++ L).flatMap Th.bs) := by
    have := (List.perm_middle (a := thW B e size v' n' f') (l₁ := A) (l₂ := L)).flatMap_right Th.bs
    rw [List.flatMap_cons] at this
    exact this
  have hn := hp.nodup_iff.1 h3
  rw [List.nodup_append] at hn
  obtain ⟨_, hn2, hn3⟩ := hn
  have hne : ∀ x, x ∈ A ++ L → ∀ b, b ∈ x.bs → v.ownBlock ≠ some b := fun x hx b hb e => hn3 b (by rw [e]; simp) b (List.mem_flatMap.2 ⟨x, hx, hb⟩) rfl
  have hk : ∀ x, x ∈ A ++ L → x.at_ w → x.at_ w' := fun x hx hat => x.keep w w' hat fun b hb => hg.block b (x.lt w hat b hb) (fun e => hne x hx b hb e.symm)
  have hmem : ∀ x, x ∈ A ++ L → x ∈ A ++ thW B e size v n f :: L := fun x hx => by
    rcases List.mem_append.1 hx with hx | hx
    · exact List.mem_append.2 (.inl hx)
    · exact List.mem_append.2 (.inr (List.mem_cons_of_mem _ hx))
  refine ⟨fun x hx => ?_, h2.grown hg (fun c hc => h4 c (hp.mem_iff.2 (by rw [hc]; simp))), ?_, fun b hb => ?_⟩
  · rcases List.mem_append.1 hx with hx | hx
    · exact hk x (List.mem_append.2 (.inl hx)) (h1 x (List.mem_append.2 (.inl hx)))
    · rcases List.mem_cons.1 hx with rfl | hx
      · exact ho
      · exact hk x (List.mem_append.2 (.inr hx)) (h1 x (List.mem_append.2 (.inr (List.mem_cons_of_mem _ hx))))
  · refine hp'.nodup_iff.2 (List.nodup_append.2 ⟨by cases v'.ownBlock <;> simp, hn2, fun a ha b hb e => ?_⟩)
    subst e
    have ha' : v'.ownBlock = some a := by simpa using ha
    rcases hv a ha' with h5 | h5
    · exact hn3 a (by rw [h5]; simp) a hb rfl
    · obtain ⟨x, hx, hxa⟩ := List.mem_flatMap.1 hb
      have := x.lt w (h1 x (hmem x hx)) a hxa
      omega
  · have := hp'.mem_iff.1 hb
    rcases List.mem_append.1 this with h5 | h5
    · have ha' : v'.ownBlock = some b := by simpa using h5
      rcases hv b ha' with h6 | h6
      · exact h4 b (hp.mem_iff.2 (by rw [h6]; simp))
      · right; rw [h6]; exact h2.2.1
    · exact h4 b (hp.mem_iff.2 (List.mem_append.2 (.inr h5)))
theorem HS.row (h : HS S W w (A ++ thW B e size v n f :: L)) : Ow w B e size v n f := h.1 (thW B e size v n f) (by simp)
variable {Q : Exit → Act → World → Prop} {o : Oper} {a : Act} {K : Act → World → Prop}
/-- append as an operation on things. -/
theorem ow_appW {t : TypeId} (s x : Operand) (ho : o.op = .call { callee := .builtin .append, args := #[s, x], argTypes := #[t, t] }) {i : TypeInfo} {z : Value} {bytes : Nat} (ht : Try.prog.underlying t = some (.slice e)) (hi : Try.prog.info? e = some i) (hz : i.zero = some z) (hsize : i.size = size) (hby : i.bytes = bytes) (hzs : z.cells.size = size) (hsz : 0 < size)
    (hs : a.eval s = v) {X : Option Addr} {m c : Nat} {f2 : Nat → Value} (hx : a.eval x = .slice X m c) (hS : HS S W w (A ++ thW B e size v n f :: L)) (hr : Sl w X (m * size) f2) (h1 : ∀ j, j < m * size → (f2 j).oneCell' = true) (h63 : n + m ≤ maxLen) (hbytes : (n + m) * bytes ≤ 140737488355328) (hbase : B ≤ w.heap.size)
    (f' : Nat → Value) (hf : ∀ j, j < (n + m) * size → two (n * size) f f2 j = f' j) (h : ∀ A' c' w', HS S W w' (A ++ thW B e size (.slice A' (n + m) c') (n + m) f' :: L) → n + m ≤ c' → B ≤ w'.heap.size → K (a.put o.dst (.slice A' (n + m) c')) w') : o.wp Try.prog a w K Q := by
  have hown : Ow w B e size v n f := hS.row
  refine wpo_app w s x t ho B e i z size bytes ht hi hz hsize hby hzs hsz v n f hs hown X m c f2 hx hr h1 h63 hbytes hbase (fun A' c' w' g1 g2 g3 g4 g5 g6 => ?_)
  exact h A' c' w' (hS.grownW g5 (Ow.as_ g1 hf) g6) g2 (Nat.le_trans hbase g4.size)
end
/-- A row of entries. -/
def thE (v : Value) (m : Nat) (g : Nat → En) : Th := thW 0 44 7 v m (fun j => enc (g (j / 7)) (j % 7))
def setE (g : Nat → En) (m : Nat) (e : En) (j : Nat) : En := if j = m then e else g j
section
variable {S : List Nat} {W w w' : World} {L A : List Th} {m : Nat} {v : Value} {g : Nat → En} {Q : Exit → Act → World → Prop} {o : Oper} {a : Act} {K : Act → World → Prop}
theorem HS.nilE (h : HS S W w L) : HS S W w (thE (.slice none 0 0) 0 g :: L) := h.nilW
theorem HS.se {X : Option Addr} {c : Nat} (h : HS S W w L) (k : Nat) (hk : L[k]? = some (thE (.slice X m c) m g)) : Se w X m g := Ow.sl (h.nth k hk : Ow w 0 44 7 (.slice X m c) m (fun j => enc (g (j / 7)) (j % 7)))
theorem ow_appE (s x : Operand) (ho : o.op = .call { callee := .builtin .append, args := #[s, x], argTypes := #[42, 42] }) (hs : a.eval s = v) {X c : Nat} (e : En) (hx : a.eval x = .slice (some ⟨X, 0, none⟩) 1 c) (hS : HS S W w (A ++ thE v m g :: L)) (hr : Ce w X (enL e)) (hm : m ≤ 1000000)
    (h : ∀ A' c' w', HS S W w' (A ++ thE (.slice A' (m + 1) c') (m + 1) (setE g m e) :: L) → m + 1 ≤ c' → K (a.put o.dst (.slice A' (m + 1) c')) w') : o.wp Try.prog a w K Q := by
  obtain ⟨i0, hi, hz0, hz1, hz2⟩ := info_parts info_e
  refine ow_appW s x ho (B := 0) (z := .agg #[.int .i64 0, .int .i64 0, .int .i64 0, .int .i64 0, .int .i64 0, .int .u64 0, .int .u64 0]) (bytes := 56) Try.underlying42 hi hz0 hz1 hz2 rfl (by decide) hs hx (f2 := enc e) hS ?_ (fun j _ => enc_one _ _) (by simp only [maxLen]; omega) (by omega) (Nat.zero_le _) (fun j => enc (setE g m e (j / 7)) (j % 7)) ?_ (fun A' c' w' hS' hc _ => h A' c' w' hS' hc)
  · refine Sl.mk hr.1 fun j hj => ?_
    rw [Nat.zero_add]
    exact hr.2.1 j _ (enL_at _ j (by omega))
  · intro j hj
    unfold two setE
    by_cases hjm : j < m * 7
    · rw [if_pos hjm, if_neg (by omega)]
    · rw [if_neg hjm, if_pos (by omega), show j - m * 7 = j % 7 by omega]
end
end Go.Proofs.Ytppcanaelagfmaa
