/- The least contracts of cookies, of both packages. -/
import Derived.Test.YtfokkmemjkfifabCookMath
import Derived.Test.YtfokkmemjkfifabSipWords
import Derived.Test.YtfokkmemjkfifabWithin
import Derived.Deep.RegionHeld3
namespace Go.Proofs.Ytfokkmemjkfifab
set_option linter.unusedVariables false
set_option linter.unusedSimpArgs false
open Go.RowKit Go.ChangeShapes Go.WideShapes Go.ChangeAt

theorem re_u64 {P : Program} {F : FuncId} {args : Array Value} {w : World} {R : World → Prop} {a b : Int} (h : Calls P F args w fun e w' => e = .returned (.int .u64 a) ∧ R w') (he : a = b) :
    Calls P F args w fun e w' => e = .returned (.int .u64 b) ∧ R w' := by subst he; exact h
theorem re_v {P : Program} {F : FuncId} {args : Array Value} {w : World} {R : World → Prop} {a b : Value} (h : Calls P F args w fun e w' => e = .returned a ∧ R w') (he : a = b) :
    Calls P F args w fun e w' => e = .returned b ∧ R w' := by subst he; exact h
theorem then_ {w a b : World} (h : Below w.heap.size w a) (k : Below a.heap.size a b) : Below w.heap.size w b := h.trans (k.mono h.size)
/-- Cells of a block, that may be written. -/
def Ce (w : World) (b : Nat) (l : List Value) : Prop := b < w.heap.size ∧ (∀ j v, l[j]? = some v → w.cell? ⟨b, j, none⟩ = some v) ∧ ∀ j, w.frozen? ⟨b, j, none⟩ = false
theorem Ce.below {w w' : World} {b : Nat} {l : List Value} (h : Ce w b l) (hb : Below w.heap.size w w') : Ce w' b l :=
  ⟨Nat.lt_of_lt_of_le h.1 hb.size, fun j v hj => (hb.cell (p := ⟨b, j, none⟩) h.1).trans (h.2.1 j v hj), fun j => (World.frozen?_of_block (a := ⟨b, j, none⟩) (hb.block b h.1)).trans (h.2.2 j)⟩
theorem Ce.alloc {w : World} {b : Nat} {l : List Value} (h : Ce w b l) (o : Obj) : Ce (w.alloc o) b l := h.below ((Below.refl _ _).alloc (Nat.le_refl _) o)
theorem Ce.made {w : World} {l : List Value} {T : TypeId} {g : Nat} (hg : w.heap.size = g) : Ce (w.alloc (.cells l.toArray T)) g l := by
  subst hg
  have h : (w.alloc (.cells l.toArray T)).heap[w.heap.size]? = some (.cells l.toArray T (0, 0)) := heap_alloc_new w _
  refine ⟨by simp, fun j v hj => ?_, fun j => frozen_of_row _ _ _ _ _ h⟩
  rw [cell_of_row _ w.heap.size j l.toArray T (0, 0) h]
  simpa using hj

/-- What a cell holds, whatever it is. -/
def cv (w : World) (b j : Nat) : Value := (w.cell? ⟨b, j, none⟩).getD undef
theorem cv_of {w : World} {b j : Nat} {v : Value} (h : w.cell? ⟨b, j, none⟩ = some v) : w.cell? ⟨b, j, none⟩ = some (cv w b j) := by unfold cv; rw [h]; rfl
theorem cv_of' {w : World} {b j : Nat} (h : (w.cell? ⟨b, j, none⟩).isSome = true) : w.cell? ⟨b, j, none⟩ = some (cv w b j) := by
  obtain ⟨v, hv⟩ := Option.isSome_iff_exists.1 h
  exact cv_of hv
theorem cv_set {w : World} {b j : Nat} {p : Addr} {v : Value} (h : w.cell? ⟨b, j, none⟩ = some (cv w b j)) : (w.setCell p v).cell? ⟨b, j, none⟩ = some (cv (w.setCell p v) b j) := by
  obtain ⟨v', h'⟩ := cell?_setCell_some (w := w) (p := p) (x := v) (q := ⟨b, j, none⟩) h
  exact cv_of h'
theorem cell_back {w : World} {b j : Nat} {p : Addr} {v u : Value} (h : (w.setCell p v).cell? ⟨b, j, none⟩ = some u) : ∃ u', w.cell? ⟨b, j, none⟩ = some u' := by
  by_cases e : p = ⟨b, j, none⟩
  · subst e
    cases hb : w.heap[b]? with
    | none => simp [World.cell?, World.setCell, Array.getElem?_modify, hb] at h
    | some o =>
      cases o with
      | cells c el fr =>
        simp [World.cell?, World.setCell, Array.getElem?_modify, hb] at h ⊢
        have hj : j < c.size := by
          rcases Nat.lt_or_ge j c.size with hj | hj
          · exact hj
          · simp [Array.setIfInBounds, Nat.not_lt.2 hj] at h
        exact ⟨_, Array.getElem?_eq_getElem hj⟩
      | _ => simp [World.cell?, World.setCell, Array.getElem?_modify, hb] at h
  · rw [World.cell?_setCell_other _ _ _ _ e] at h
    exact ⟨u, h⟩
theorem cell_last {w : World} {b j : Nat} {v u : Value} (h : (w.setCell ⟨b, j, none⟩ v).cell? ⟨b, j, none⟩ = some u) : (w.setCell ⟨b, j, none⟩ v).cell? ⟨b, j, none⟩ = some v := by
  obtain ⟨u', h'⟩ := cell_back h
  exact World.cell?_setCell_same _ _ _ h'
theorem set3 {w : World} {R : Nat} {a b c u0 u1 u2 : Value} (h0 : (((w.setCell ⟨R, 0, none⟩ a).setCell ⟨R, 1, none⟩ b).setCell ⟨R, 2, none⟩ c).cell? ⟨R, 0, none⟩ = some u0)
    (h1 : (((w.setCell ⟨R, 0, none⟩ a).setCell ⟨R, 1, none⟩ b).setCell ⟨R, 2, none⟩ c).cell? ⟨R, 1, none⟩ = some u1) (h2 : (((w.setCell ⟨R, 0, none⟩ a).setCell ⟨R, 1, none⟩ b).setCell ⟨R, 2, none⟩ c).cell? ⟨R, 2, none⟩ = some u2) :
    (((w.setCell ⟨R, 0, none⟩ a).setCell ⟨R, 1, none⟩ b).setCell ⟨R, 2, none⟩ c).cell? ⟨R, 0, none⟩ = some a ∧ (((w.setCell ⟨R, 0, none⟩ a).setCell ⟨R, 1, none⟩ b).setCell ⟨R, 2, none⟩ c).cell? ⟨R, 1, none⟩ = some b ∧ (((w.setCell ⟨R, 0, none⟩ a).setCell ⟨R, 1, none⟩ b).setCell ⟨R, 2, none⟩ c).cell? ⟨R, 2, none⟩ = some c := by
  obtain ⟨u, g0⟩ := cell_back h0
  obtain ⟨u', g0'⟩ := cell_back g0
  obtain ⟨v, g1⟩ := cell_back h1
  refine ⟨?_, ?_, cell_last h2⟩
  · rw [World.cell?_setCell_other _ _ _ _ (by simp), World.cell?_setCell_other _ _ _ _ (by simp)]
    exact cell_last g0'
  · rw [World.cell?_setCell_other _ _ _ _ (by simp)]
    exact cell_last g1
theorem at_world {P : Program} {fn : Func} {post : Ending → World → Prop} {x : Exit} {a : Act} {W : World} (Q : World → Prop) (hQ : Q W) (h : ∀ w, Q w → bodyPost P fn post x a w) : bodyPost P fn post x a W := h W hQ
def flV (f : Fl) : Value := .agg #[.int .i64 f.a, .int .i64 f.p, .int .i64 f.ta, .int .i64 f.tp]
def kyV (k : Ky) : Value := .agg #[.int .u64 k.a, .int .u64 k.b]
def rgV (r : Rg) : Value := .agg #[.int .i64 r.e, .int .u64 r.p.a, .int .u64 r.p.b, .int .u64 r.c.a, .int .u64 r.c.b, .int .u64 r.n.a, .int .u64 r.n.b]
def shV (T : Int) : Value := if T = 4096 then .agg #[.int .u64 18, .int .u64 2, .int .u64 12, .int .u64 6, .int .u64 0, .int .u64 12] else .agg #[.int .u64 14, .int .u64 2, .int .u64 8, .int .u64 6, .int .u64 0, .int .u64 8]
theorem shV1 : shV 4096 = .agg #[.int .u64 18, .int .u64 2, .int .u64 12, .int .u64 6, .int .u64 0, .int .u64 12] := rfl
theorem shV2 : shV 256 = .agg #[.int .u64 14, .int .u64 2, .int .u64 8, .int .u64 6, .int .u64 0, .int .u64 8] := rfl
def ptV (e m t : Int) : Value := .agg #[.int .i64 e, .int .i64 m, .int .i64 t]
/-- A kind, and two to as many as its tag has bits. -/
def KT (kd T : Int) : Prop := (kd = 1 ∧ T = 4096) ∨ (kd = 2 ∧ T = 256)
theorem KT.T_ {kd T : Int} (h : KT kd T) : T = 4096 ∨ T = 256 := by
  rcases h with ⟨_, h⟩ | ⟨_, h⟩
  · exact .inl h
  · exact .inr h
def I64 (x : Int) : Prop := -9223372036854775808 ≤ x ∧ x ≤ 9223372036854775807
def Fl.I (f : Fl) : Prop := I64 f.a ∧ I64 f.p ∧ I64 f.ta ∧ I64 f.tp
theorem seven_I {kd x e : Int} {f : Fl} (hf : f.I) (hk : I64 kd) (hx : I64 x) (he : I64 e) : IsI (fun j => [kd, f.a, f.p, f.ta, f.tp, x, e].getD j 0) := fun j => by
  obtain ⟨h1, h2, h3, h4⟩ := hf
  rcases j with _ | _ | _ | _ | _ | _ | _ | j
  · exact hk
  · exact h1
  · exact h2
  · exact h3
  · exact h4
  · exact hx
  · exact he
  · exact ⟨by simp, by simp⟩
theorem W7_U (k : Ky) (kd : Int) (f : Fl) (x e : Int) : U (W7 k kd f x e) := by
  unfold W7 sumW fin4
  exact U_xo _ _

theorem cutI (a wd v : Int) (w : World) (hw : wd = 2 ∨ wd = 6 ∨ wd = 8 ∨ wd = 12) :
    Calls Try.prog 25 #[.agg #[.int .u64 a, .int .u64 wd], .int .i64 v] w fun e w' => e = .returned (.int .i64 (v % 2 ^ wd.toNat)) ∧ Below w.heap.size w w' := by
  have h0 := mand3 v
  have h1 := mand63 v
  have h2 := mand255 v
  have h3 := mand4095 v
  rcases hw with rfl | rfl | rfl | rfl
  all_goals
    go_enter Try.func25, Try.ntmps25
    go_wp2_with fail
    go_ret
    refine ⟨rfl, ?_⟩
    repeat' (first | with_reducible exact Below.refl _ _ | with_reducible refine Below.drew ?_ | with_reducible refine Below.alloc ?_ ?_ _ | with_reducible refine Below.setCell ?_ ?_ _ | (simp; done) | (simp; omega))

theorem laidI (a wd v : Int) (w : World) (hf : (a = 18 ∧ wd = 2) ∨ (a = 14 ∧ wd = 2) ∨ (a = 12 ∧ wd = 6) ∨ (a = 8 ∧ wd = 6) ∨ (a = 0 ∧ wd = 12) ∨ (a = 0 ∧ wd = 8)) :
    Calls Try.prog 36 #[.agg #[.int .u64 a, .int .u64 wd], .int .i64 v] w fun e w' => e = .returned (.int .i64 (v % 2 ^ wd.toNat * 2 ^ a.toNat)) ∧ Below w.heap.size w w' := by
  have hw : wd = 2 ∨ wd = 6 ∨ wd = 8 ∨ wd = 12 := by omega
  have ha : 0 ≤ a := by omega
  have ha' : a ≤ 64 := by omega
  go_enter Try.func36, Try.ntmps36
  go_wp2_with fail
  have CK := Ce.made (w := w) (l := [.int .u64 a, .int .u64 wd]) (T := 48) (g := w.heap.size) rfl
  have B : Below w.heap.size w (w.alloc (.cells #[.int .u64 a, .int .u64 wd] 48)) := ((Below.refl _ _).alloc (Nat.le_refl _) (.cells #[.int .u64 a, .int .u64 wd] 48))
  obtain ⟨kK, qK, zK⟩ := CK
  have cK0 := qK 0 _ rfl
  have cK1 := qK 1 _ rfl
  clear qK zK
  generalize w.alloc (.cells #[.int .u64 a, .int .u64 wd] 48) = w1 at *
  generalize hK : w.heap.size = K at *
  go_region_held3 (fun w' => w'.cell? ⟨K, 0, none⟩ = some (.int .u64 a) ∧ w'.cell? ⟨K, 1, none⟩ = some (.int .u64 wd) ∧ K < w'.heap.size ∧ Below K w w')
    (first
      | (go_split_ands; refine ⟨?_, ?_, ?_, ?_⟩; exact (hb5.cell (p := ⟨K, 0, none⟩) (by assumption)).trans (by assumption); exact (hb5.cell (p := ⟨K, 1, none⟩) (by assumption)).trans (by assumption); exact Nat.lt_of_lt_of_le (by assumption) hb5.size; exact Below.trans (by assumption) (hb5.mono (by first | exact Nat.le_of_lt (by assumption) | exact Below.size (by assumption))))
      | (refine ⟨?_, ?_, ?_, ?_⟩; assumption; assumption; assumption; exact Below.drew (by assumption))
      | (go_split_ands; refine ⟨?_, ?_, ?_, ?_⟩; exact (World.cell?_alloc_lt _ _ ⟨K, 0, none⟩ (by assumption)).trans (by assumption); exact (World.cell?_alloc_lt _ _ ⟨K, 1, none⟩ (by assumption)).trans (by assumption); (simp; omega); exact Below.alloc (by assumption) (by first | exact Nat.le_of_lt (by assumption) | exact Below.size (by assumption)) _)
      | (go_split_ands; refine ⟨?_, ?_, ?_, ?_⟩; exact (World.cell?_alloc_lt _ _ ⟨K, 0, none⟩ (by assumption)).trans (by assumption); exact (World.cell?_alloc_lt _ _ ⟨K, 1, none⟩ (by assumption)).trans (by assumption); exact Nat.lt_of_lt_of_le (by assumption) (Below.drew (Below.alloc (Below.refl _ _) (Nat.le_refl _) _)).size; exact Below.drew (Below.alloc (by assumption) (Below.size (by assumption)) _))
      | (go_split_ands; refine ⟨?_, ?_, ?_, ?_⟩; assumption; assumption; assumption; assumption)
      | go_keep)
    ((first
      | (go_at_call 25
         go_split_ands
         with_reducible refine (cutI a wd _ _ hw).mono ?_
         rintro e w5 ⟨rfl, hb5⟩)))
  all_goals
    go_split_ands
    go_wp2_with fail
    go_ret
    refine ⟨ret_i64 ?_, by first | assumption | (rw [hK]; assumption)⟩
    rcases hf with ⟨rfl, rfl⟩ | ⟨rfl, rfl⟩ | ⟨rfl, rfl⟩ | ⟨rfl, rfl⟩ | ⟨rfl, rfl⟩ | ⟨rfl, rfl⟩ <;> (rw [IntKind.wrap_i64]; simp; omega)

theorem ofI (a wd v : Int) (w : World) (hf : (a = 18 ∧ wd = 2) ∨ (a = 14 ∧ wd = 2) ∨ (a = 12 ∧ wd = 6) ∨ (a = 8 ∧ wd = 6) ∨ (a = 0 ∧ wd = 12) ∨ (a = 0 ∧ wd = 8)) :
    Calls Try.prog 38 #[.agg #[.int .u64 a, .int .u64 wd], .int .i64 v] w fun e w' => e = .returned (.int .i64 (v / 2 ^ a.toNat % 2 ^ wd.toNat)) ∧ Below w.heap.size w w' := by
  have hw : wd = 2 ∨ wd = 6 ∨ wd = 8 ∨ wd = 12 := by omega
  have ha : 0 ≤ a := by omega
  have ha' : a ≤ 64 := by omega
  go_enter Try.func38, Try.ntmps38
  go_wp2_with fail
  refine (cutI a wd _ _ hw).mono ?_
  rintro e w' ⟨rfl, hb⟩
  have hb0 := ((Below.refl w.heap.size w).alloc (Nat.le_refl _) _).trans (hb.mono (by simp))
  go_wp2_with fail
  go_ret
  exact ⟨rfl, hb0⟩
theorem shapeOf_any (kd T : Int) (w : World) (hk : KT kd T) :
    Calls Try.prog 18 #[.int .i64 kd] w fun e w' => e = .returned (shV T) ∧ Below w.heap.size w w' := by
  rcases hk with ⟨rfl, rfl⟩ | ⟨rfl, rfl⟩
  · rw [shV1]
    go_enter Try.func18, Try.ntmps18
    go_wp2_with fail
    refine bodyPost_ret (by simp [results, Try.results18, go_sem]) rfl ⟨rfl, ?_⟩
    repeat' (first | with_reducible exact Below.refl _ _ | with_reducible refine Below.drew ?_ | with_reducible refine Below.alloc ?_ ?_ _ | with_reducible refine Below.setCell ?_ ?_ _ | (simp; done) | (simp; omega))
  · rw [shV2]
    go_enter Try.func18, Try.ntmps18
    go_wp2_with fail
    refine bodyPost_ret (by simp [results, Try.results18, go_sem]) rfl ⟨rfl, ?_⟩
    repeat' (first | with_reducible exact Below.refl _ _ | with_reducible refine Below.drew ?_ | with_reducible refine Below.alloc ?_ ?_ _ | with_reducible refine Below.setCell ?_ ?_ _ | (simp; done) | (simp; omega))

theorem short_any (e : Int) (w : World) : Calls Try.prog 21 #[.int .i64 e] w fun e' w' => e' = .returned (.int .i64 (e % 4)) ∧ w = w' := by
  have h := mand3 e
  go_enter Try.func21, Try.ntmps21
  go_wp2
  go_ret
  exact ⟨rfl, rfl⟩
theorem four_any (e : Int) (w : World) : Calls Try.prog 31 #[.int .i64 e] w fun e' w' => e' = .returned (.int .i64 (e % 4)) ∧ w = w' := by
  have h := mand3 e
  go_enter Try.func31, Try.ntmps31
  go_wp2
  go_ret
  exact ⟨rfl, rfl⟩
theorem bits_any (kd T : Int) (w : World) (hk : KT kd T) : Calls Try.prog 27 #[.int .i64 kd] w fun e' w' => e' = .returned (.int .u64 (if T = 4096 then 12 else 8)) ∧ w = w' := by
  rcases hk with ⟨rfl, rfl⟩ | ⟨rfl, rfl⟩
  all_goals
    go_enter Try.func27, Try.ntmps27
    go_wp2
    go_ret
    exact ⟨rfl, rfl⟩
theorem beyond_any (T : Int) (w : World) (hT : T = 4096 ∨ T = 256) : Calls Try.prog 22 #[shV T] w fun e' w' => e' = .returned (.int .i64 (256 * T)) ∧ Below w.heap.size w w' := by
  rcases hT with rfl | rfl
  all_goals
    first | rw [shV1] | rw [shV2]
    go_enter Try.func22, Try.ntmps22
    go_wp2
    go_ret
    exact ⟨rfl, (Below.refl _ _).alloc (Nat.le_refl _) _⟩
end Go.Proofs.Ytfokkmemjkfifab
