/- Rows of entries of the call's own. -/
import Derived.Test.YtljgcffpijjliaaDoorPolSg
import Derived.BigQuiet
import Derived.Deep.RegionHeld3
import Derived.Deep.Cut
namespace Go.Proofs.YtljgcffpijjliaaDoor
set_option linter.unusedVariables false
set_option linter.unusedSimpArgs false
open Go.RowKit Go.ChangeShapes Go.WideShapes Go.ChangeAt

/-- A row of entries of the call's own. -/
def OwE (w : World) (B : Nat) (v : Value) (m : Nat) (g : Nat → En) : Prop := Ow w B 56 7 v m (fun j => enc (g (j / 7)) (j % 7))
section
variable {W w w' : World} {B m : Nat} {v : Value} {g : Nat → En} {L : List (Nat × Pl)}
theorem OwE.ge (h : OwE w B v m g) {b : Nat} (hb : b < B) : v.ownBlock ≠ some b := by
  intro e
  have := (World.ownsRow.lt h b e).1
  omega
theorem OwE.keep (h : OwE w B v m g) {D : Nat} (hb : Below D w w') (hD : w.heap.size ≤ D) : OwE w' B v m g := Ow.keep h hb hD
theorem OwE.se {A : Option Addr} {c : Nat} (h : OwE w B (.slice A m c) m g) : Se w A m g := Ow.sl h
theorem OwE.cap {A : Option Addr} {c : Nat} (h : OwE w B (.slice A m c) m g) : m ≤ c := by
  obtain ⟨A', c', hv, hc, _⟩ := Ow.form_ h
  injection hv with _ _ h3
  omega
theorem OwE.nil : OwE w B (.slice none 0 0) 0 g := Ow.none_
theorem SG.grown (h : SG W w L []) {row : Option Nat} {D : Nat} (hg : w.grownBy w' row) (hne : ∀ x, x ∈ L → row ≠ some x.1) (hb : Below D w w') (hD : W.heap.size ≤ D) : SG W w' L [] :=
  ⟨fun x hx => (h.1 x hx).grown hg (hne x hx), fun x hx => absurd hx (by simp), h.2.2.trans (hb.mono hD)⟩
theorem below_put {T : TypeId} (p q : Pl) : Below w.heap.size w ((w.alloc (.cells (PA p) T)).setCells w.heap.size 0 (PA q).toList) := ((Below.refl _ _).alloc (Nat.le_refl _) _).trans (keeps_setCells _ _ _ _ _ (Nat.le_refl _))
end
theorem info_e : (Tryd.prog.info? 56).map (fun i => (i.zero, i.size, i.bytes)) = some (some (.agg #[.int .i64 0, .int .i64 0, .int .i64 0, .int .i64 0, .int .i64 0, .int .u64 0, .int .u64 0]), 7, 56) := by kernel_rfl
theorem enc_one (e : En) (j : Nat) : (enc e j).oneCell' = true := by unfold enc; split <;> rfl
section
variable {w : World} {ops : Array Oper} {rest : List Oper} {o : Oper} {a : Act} {Q : Exit → Act → World → Prop}
/-- append of an entry onto a row of the call's own. -/
theorem wp_app_e (hgd : o.guard = none) (s x : Operand) (ho : o.op = .call { callee := .builtin .append, args := #[s, x], argTypes := #[36, 36] })
    (base : Nat) (v : Value) (m : Nat) (G : Nat → En) (hs : a.eval s = v) (hown : OwE w base v m G)
    (g c : Nat) (hx : a.eval x = .slice (some ⟨g, 0, none⟩) 1 c) (hr : Ce w g (enL (G m))) (hsz : m ≤ 1000000) (hbase : base ≤ w.heap.size)
    (h : ∀ A' c' w', OwE w' base (.slice A' (m + 1) c') (m + 1) G → Below base w w' → w.grownBy w' v.ownBlock → wpList Tryd.prog ops Q rest (a.put o.dst (.slice A' (m + 1) c')) w') : wpList Tryd.prog ops Q (o :: rest) a w := by
  obtain ⟨i0, hi, hz0, hz1, hz2⟩ := info_parts info_e
  refine wp_app w hgd s x 36 ho base 56 i0 (.agg #[.int .i64 0, .int .i64 0, .int .i64 0, .int .i64 0, .int .i64 0, .int .u64 0, .int .u64 0]) 7 56 Tryd.underlying36 hi hz0 hz1 hz2 rfl (by decide) v m _ hs hown (some ⟨g, 0, none⟩) 1 c (fun j => enc (G m) j) hx ?_ (fun j _ => enc_one _ _) (by simp only [maxLen]; omega) (by omega) hbase ?_
  · refine Sl.mk hr.1 fun j hj => ?_
    rw [Nat.zero_add]
    exact hr.2.1 j _ (enL_at _ j (by omega))
  · intro A' c' w' h1 h2 h3 h4 h5 h6
    refine h A' c' w' ?_ h4 h5
    unfold OwE
    refine h1.as_ fun j hj => ?_
    unfold two
    by_cases hjm : j < m * 7
    · rw [if_pos hjm]
    · rw [if_neg hjm]
      have e1 : j / 7 = m := by omega
      have e2 : j - m * 7 = j % 7 := by omega
      rw [e1, e2]
end
theorem runP_v {p : Pl} {g : Nat → En} : ∀ {k : Nat} {q : Pl}, runP p g k = some q → q.v = p.v + k
  | 0, q, h => by
    unfold runP at h
    injection h with h
    subst h
    simp
  | k + 1, q, h => by
    unfold runP at h
    cases h1 : runP p g k with
    | none => rw [h1] at h; cases h
    | some q1 =>
      rw [h1] at h
      simp only at h
      have ih := runP_v h1
      by_cases h0 : (apR q1 (g k)).2 = 0
      · rw [if_pos h0] at h
        injection h with h
        obtain ⟨_, _, h2⟩ := apR_ok h0
        rw [← h, h2]
        have hn : (nxP q1 (g k)).v = q1.v + 1 := by unfold nxP; cases ((g k).k == 6) <;> rfl
        rw [hn, ih]
        omega
      · rw [if_neg h0] at h; cases h
theorem runP_add {p : Pl} {g : Nat → En} {k : Nat} {b : Pl} (hb : runP p g k = some b) : ∀ j : Nat, runP p g (k + j) = runP b (fun i => g (k + i)) j
  | 0 => hb
  | j + 1 => by
    show runP p g (k + j + 1) = _
    unfold runP
    rw [runP_add hb j]
theorem AllOut.le {p : Pl} {g : Nat → En} {n k : Nat} {q : Pl} {er : Int} (h : AllOut p g n q k er) : k ≤ n := by
  rcases h.2 with ⟨e, _⟩ | ⟨e, _⟩ <;> omega
/-- Up to a cut, and the rest behind it, are as all at once. -/
theorem AllOut.cut {p : Pl} {g : Nat → En} {n t m : Nat} {b : Pl} {f : Int} (ht : t ≤ n) (h1 : AllOut p g t b m f) : (f ≠ 0 → AllOut p g n b m f) ∧ ∀ {c : Pl} {o : Nat} {e : Int}, f = 0 → AllOut b (fun i => g (t + i)) (n - t) c o e → AllOut p g n c (m + o) e := by
  refine ⟨fun hf => ?_, fun {c o e} hf h2 => ?_⟩
  · rcases h1.2 with ⟨_, e⟩ | ⟨h3, h4, h5⟩
    · exact absurd e hf
    · exact ⟨h1.1, .inr ⟨by omega, h4, h5⟩⟩
  · have hm : m = t := by
      rcases h1.2 with ⟨e, _⟩ | ⟨_, _, e⟩
      · exact e
      · exact absurd hf e
    subst hm
    refine ⟨by rw [runP_add h1.1]; exact h2.1, ?_⟩
    rcases h2.2 with ⟨e1, e2⟩ | ⟨h3, h4, h5⟩
    · exact .inl ⟨by omega, e2⟩
    · exact .inr ⟨by omega, h4, h5⟩
end Go.Proofs.YtljgcffpijjliaaDoor
