/- A yard's ways, counted. -/
import Derived.Test.YtnnilkdlpampdaaYdKnown
import Derived.BigQuiet
import Derived.Deep.RegionHeld3
import Derived.Deep.Cut
import Derived.IntWalk
namespace Go.Proofs.Ytnnilkdlpampdaa
set_option linter.unusedVariables false
set_option linter.unusedSimpArgs false
open Go.RowKit Go.ChangeShapes Go.WideShapes Go.ChangeAt
set_option maxRecDepth 100000
attribute [local irreducible] FA FL
section
variable {y : Yd} {K : Int}
theorem sendH_q (h : Hd) : (sendH h).q.length ≤ h.q.length ∧ (sendH h).ah = h.ah := by
  unfold sendH
  split
  · unfold pubH
    cases hq : h.q with
    | nil => exact ⟨by show h.q.length ≤ ([] : List En).length; rw [hq]; exact Nat.le_refl _, rfl⟩
    | cons e t =>
      simp only
      split
      · exact ⟨by show t.length ≤ (e :: t).length; simp, rfl⟩
      · exact ⟨by show t.length ≤ (e :: t).length; simp, rfl⟩
  · exact ⟨Nat.le_refl _, rfl⟩
theorem heardH_q (h : Hd) (n : Nt) : (heardH h n).q = h.q ∧ (heardH h n).ah = h.ah ∧ (heardH h n).pl = h.pl := by
  unfold heardH
  split
  · split <;> exact ⟨rfl, rfl, rfl⟩
  · exact ⟨rfl, rfl, rfl⟩
theorem delY_h (y : Yd) (i : Nat) (k : Bool) : (delY y i k).h.un = y.h.un ∧ (delY y i k).h.q = y.h.q ∧ (delY y i k).h.ah = y.h.ah ∧ (delY y i k).h.pl = y.h.pl ∧ (delY y i k).ns.length ≤ y.ns.length + 1 := by
  have hd : ∀ l : List Nt, (dropL l i k).length ≤ l.length := fun l => by
    unfold dropL
    split
    · exact Nat.le_refl _
    · rw [List.length_eraseIdx]; split <;> omega
  cases hn : y.ns[i]? with
  | none => rw [delY_none hn]; exact ⟨rfl, rfl, rfl, rfl, by omega⟩
  | some n =>
    rw [delY_some hn]
    have := hd y.ns
    unfold getY
    by_cases ha : n.ak = true
    · rw [if_pos ha]
      obtain ⟨a, b, c⟩ := heardH_q y.h n
      exact ⟨heardH_un _ _, a, b, c, by show (dropL y.ns i k).length ≤ _; omega⟩
    · rw [if_neg ha]
      exact ⟨rfl, rfl, rfl, rfl, by show (dropL y.ns i k ++ [_]).length ≤ _; rw [List.length_append, List.length_singleton]; omega⟩
theorem tickY_len (y : Yd) : (tickY y).ns.length ≤ y.ns.length + y.h.un := by
  show (y.ns ++ notesK (sendH y.h) y.h.un).length ≤ _
  rw [List.length_append]
  have := notesK_len (sendH y.h) y.h.un
  omega
end
theorem run_invY {p : Pl} {g : Nat → En} {K : Int} (hp : Pinv p K) : ∀ {k : Nat} {q : Pl}, runP p g k = some q → Pinv q (K + k)
  | 0, q, h => by
    unfold runP at h
    injection h with h
    subst h
    exact hp.mono (by omega)
  | k + 1, q, h => by
    unfold runP at h
    cases h1 : runP p g k with
    | none => rw [h1] at h; cases h
    | some q1 =>
      rw [h1] at h
      simp only at h
      have ih := run_invY hp h1
      by_cases h0 : (apR q1 (g k)).2 = 0
      · rw [if_pos h0] at h
        injection h with h
        rw [← h]
        exact (apR_inv ih h0).mono (by omega)
      · rw [if_neg h0] at h; cases h
/-- Where a yard is, counted. -/
def AP (W : World) (D : Yl) (R : List Th) (u k : Nat) (w : World) : Prop := ∃ y : Yd, YA [] W w D y R (16 + k) ∧ Fit y (30 + 2 * k) ∧ y.h.un = u ∧ y.ns.length ≤ 20 * k ∧ y.h.q.length ≤ k ∧ Pinv y.h.ah (30 + k)
section
variable {W w : World} {D : Yl} {R : List Th} {u k : Nat} {y : Yd}
theorem ap_same (hY : YA [] W w D y R (16 + k)) (hF : Fit y (30 + 2 * k)) (hu : y.h.un = u) (hn : y.ns.length ≤ 20 * k) (hq : y.h.q.length ≤ k) (hp : Pinv y.h.ah (30 + k)) : AP W D R u (k + 1) w :=
  ⟨y, hY.mono (by omega), hF.mono (by omega), hu, by omega, by omega, hp.mono (by omega)⟩
theorem ap_tick (hY : YA [] W w D (tickY y) R (16 + k)) (hF : Fit y (30 + 2 * k)) (hu : y.h.un = u) (hn : y.ns.length ≤ 20 * k) (hq : y.h.q.length ≤ k) (hp : Pinv y.h.ah (30 + k)) : AP W D R u (k + 1) w := by
  obtain ⟨a, b⟩ := sendH_q y.h
  have := tickY_len y
  have h16 := hF.2.1.2
  exact ⟨tickY y, hY.mono (by omega), hF.tick.mono (by omega), (sendH_un _).trans hu, by omega, by show (sendH y.h).q.length ≤ k + 1; omega, by show Pinv (sendH y.h).ah _; rw [b]; exact hp.mono (by omega)⟩
theorem ap_del {i : Nat} {c : Bool} (hY : YA [] W w D (delY y i c) R (16 + k + 1)) (hF : Fit y (30 + 2 * k)) (hu : y.h.un = u) (hn : y.ns.length ≤ 20 * k) (hq : y.h.q.length ≤ k) (hp : Pinv y.h.ah (30 + k)) : AP W D R u (k + 1) w := by
  obtain ⟨a, b, e, _, f⟩ := delY_h y i c
  exact ⟨delY y i c, hY.mono (by omega), (hF.del i c).mono (by omega), a.trans hu, by omega, by rw [b]; omega, by rw [e]; exact hp.mono (by omega)⟩
theorem ap_lose {i : Nat} (hY : YA [] W w D (loY y i) R (16 + k)) (hF : Fit y (30 + 2 * k)) (hu : y.h.un = u) (hn : y.ns.length ≤ 20 * k) (hq : y.h.q.length ≤ k) (hp : Pinv y.h.ah (30 + k)) : AP W D R u (k + 1) w :=
  ⟨loY y i, hY.mono (by omega), (hF.lose i).mono (by omega), hu, by show (y.ns.eraseIdx i).length ≤ _; rw [List.length_eraseIdx]; split <;> omega, by show y.h.q.length ≤ k + 1; omega, by show Pinv y.h.ah _; exact hp.mono (by omega)⟩
theorem ap_crash {i : Nat} (hi : i < y.h.un) (hY : YA [] W w D (crY y i) R (16 + k)) (hF : Fit y (30 + 2 * k)) (hu : y.h.un = u) (hn : y.ns.length ≤ 20 * k) (hq : y.h.q.length ≤ k) (hp : Pinv y.h.ah (30 + k)) : AP W D R u (k + 1) w :=
  ⟨crY y i, hY.mono (by omega), (hF.crash hi).mono (by omega), hu, by show y.ns.length ≤ _; omega, by show y.h.q.length ≤ k + 1; omega, by show Pinv y.h.ah _; exact hp.mono (by omega)⟩
theorem ya_wish1 {S : List Nat} {N : Nat} {w' : World} (h : YA S W w D y R N) (hb : Below w.heap.size w w') (e : En) (E : Nat) (hE : w.heap.size ≤ E) (hA : Se w' (some ⟨E, 0, none⟩) 1 (fun _ => e)) (hq : y.h.q.length + 1 ≤ 200) (K : Int) (hp : Pinv y.h.ah K) (hK : K ≤ 99999) : Calls Try.prog 13 #[.pointer (some ⟨D.Y, 0, none⟩), .slice (some ⟨E, 0, none⟩) 1 1] w' fun x w'' => ∃ (er : Int) (a : Pl) (q : List En), x = .returned (.int .i64 er) ∧ YA S W w'' D ⟨{ y.h with ah := a, q := q }, y.uf, y.ns⟩ R N ∧ q.length ≤ y.h.q.length + 1 ∧ Pinv a (K + 1) := by
  obtain ⟨V, ns, bf, hn, h1, h2, h3⟩ := h
  have hl := (h3.nth 2 rfl : HeadAt w D.hb D.hc D.hm hn y.h)
  refine (yd_wish (h3.below hb) (fun _ => e) (some ⟨E, 0, none⟩) 1 1 hA (fun ad ea _ hm => ?_) hq K hp (by omega)).mono ?_
  · injection ea with ea
    subst ea
    have h4 : ∀ b, b ∈ [D.hb, D.hc, D.hm] → b < w.heap.size := (thH D.hb D.hc D.hm hn y.h).lt w hl
    have := h4 E hm
    omega
  · rintro x w2 ⟨q, j, er, ho, rfl, hZ⟩
    by_cases h0 : er = 0
    · rw [if_pos h0] at hZ
      have hj : j = 1 := by
        rcases ho.2 with ⟨e1, _⟩ | ⟨_, _, e3⟩
        · exact e1
        · exact absurd h0 e3
      have hr := ho.1
      rw [hj] at hr
      exact ⟨er, q, y.h.q ++ [e], rfl, ⟨V, ns, bf, hn, h1, h2, hZ⟩, by simp, run_invY (k := 1) hp hr⟩
    · rw [if_neg h0] at hZ
      exact ⟨er, y.h.ah, y.h.q, rfl, ⟨V, ns, bf, hn, h1, h2, hZ⟩, by omega, hp.mono (by omega)⟩
theorem ap_wish {a : Pl} {q : List En} (hY : YA [] W w D ⟨{ y.h with ah := a, q := q }, y.uf, y.ns⟩ R (16 + k)) (hF : Fit y (30 + 2 * k)) (hu : y.h.un = u) (hn : y.ns.length ≤ 20 * k) (hq : y.h.q.length ≤ k) (hq2 : q.length ≤ y.h.q.length + 1) (hp : Pinv a (30 + k + 1)) : AP W D R u (k + 1) w :=
  ⟨⟨{ y.h with ah := a, q := q }, y.uf, y.ns⟩, hY.mono (by omega), (hF.wish a q).mono (by omega), hu, by show y.ns.length ≤ _; omega, by show q.length ≤ k + 1; omega, hp.mono (by omega)⟩
end
end Go.Proofs.Ytnnilkdlpampdaa
