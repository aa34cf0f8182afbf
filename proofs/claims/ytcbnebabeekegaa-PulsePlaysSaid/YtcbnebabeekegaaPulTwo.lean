/- Both pulses are asked the same. -/
import Derived.Test.YtcbnebabeekegaaPulRel
import Derived.BigQuiet
import Derived.Deep.RegionHeld3
import Derived.Deep.Cut
namespace Go.Proofs.Ytcbnebabeekegaa
set_option linter.unusedVariables false
set_option linter.unusedSimpArgs false
open Go.RowKit Go.ChangeShapes Go.WideShapes Go.ChangeAt

theorem rtold_no (p : Nat) (s : Int) (now : Int) (ok : Bool)  (hs : isSl s = false) (w : World) : Calls Try.prog 18 #[.pointer (some ⟨p, 0, none⟩), .int .i64 s, .int .i64 now, .bool ok] w fun x w' => x = .returned (.int .i64 0) ∧ ∃ m, w' = w.drewN m := by
  have IS := ris_any s
  rw [hs] at IS
  have H := hid IS
  clear IS
  go_enter Try.func18, Try.ntmps18
  go_wp2_with fail
  refine (H.out _).mono ?_
  rintro x w' ⟨rfl, rfl⟩
  go_wp2_with fail
  go_ret
  exact ⟨rfl, 0, rfl⟩
theorem rdue_no (p : Nat) (s : Int) (now : Int)  (hs : isSl s = false) (w : World) : Calls Try.prog 20 #[.pointer (some ⟨p, 0, none⟩), .int .i64 s, .int .i64 now] w fun x w' => x = .returned (.bool false) ∧ ∃ m, w' = w.drewN m := by
  have IS := ris_any s
  rw [hs] at IS
  have H := hid IS
  clear IS
  go_enter Try.func20, Try.ntmps20
  go_wp2_with fail
  go_quiet ((go_at_call 30; exact q0p (H.out _)))
  go_wp2_with fail
  go_ret
  exact ⟨rfl, _, rfl⟩
theorem rup_no (p : Nat) (s : Int)  (hs : isSl s = false) (w : World) : Calls Try.prog 22 #[.pointer (some ⟨p, 0, none⟩), .int .i64 s] w fun x w' => x = .returned (.bool false) ∧ ∃ m, w' = w.drewN m := by
  have IS := ris_any s
  rw [hs] at IS
  have H := hid IS
  clear IS
  go_enter Try.func22, Try.ntmps22
  go_wp2_with fail
  refine (H.out _).mono ?_
  rintro x w' ⟨rfl, rfl⟩
  go_wp2_with fail
  go_ret
  exact ⟨rfl, 0, rfl⟩
theorem rdrop_no (p : Nat) (s : Int)  (hs : isSl s = false) (w : World) : Calls Try.prog 24 #[.pointer (some ⟨p, 0, none⟩), .int .i64 s] w fun x w' => x = .returned (.bool false) ∧ ∃ m, w' = w.drewN m := by
  have IS := ris_any s
  rw [hs] at IS
  have H := hid IS
  clear IS
  go_enter Try.func24, Try.ntmps24
  go_wp2_with fail
  refine (H.out _).mono ?_
  rintro x w' ⟨rfl, rfl⟩
  go_wp2_with fail
  go_ret
  exact ⟨rfl, 0, rfl⟩
def tv (r f : Int) (M : Int → Option Life) (s now : Int) (ok : Bool) : Int := if isSl s = true then toldV r f (cur M s) now ok else 0
def tM (r f : Int) (M : Int → Option Life) (s now : Int) (ok : Bool) : Int → Option Life := if isSl s = true then upd M s (some (toldL r f (cur M s) now ok)) else M
def tL (r f : Int) (L : Int → RS) (s now : Int) (ok : Bool) : Int → RS := if isSl s = true then rupd L s (rtL r f (L s) now ok) else L
def dM (M : Int → Option Life) (s : Int) : Int → Option Life := upd M s none
def dL (L : Int → RS) (s : Int) : Int → RS := if isSl s = true then (if (L s).1 = true then rupd L s zRS else L) else L
def dv (M : Int → Option Life) (e s now : Int) : Bool := isSl s && (!(M s).isSome || decide (e ≤ now - (cur M s).2.1))
theorem isSl_nat {s : Int} (h : isSl s = true) : ∃ i : Nat, s = (i : Int) ∧ i < 64 := by
  unfold isSl at h
  simp at h
  exact ⟨s.toNat, by omega, by omega⟩
theorem rel2_told {M : Int → Option Life} {L : Int → RS} {now : Int} {n : Nat} (h : Rel M L now n) (s r f : Int) (hr : 1 ≤ r) (hf : 1 ≤ f) (h0 : 0 ≤ now) (ok : Bool) : Rel (tM r f M s now ok) (tL r f L s now ok) now (n + 1) := by
  unfold tM tL
  cases hs : isSl s
  · exact rel_up h (Int.le_refl _) (Nat.le_succ _)
  · exact (rel_told h hs r f hr hf h0 ok).2
theorem rel2_drop {M : Int → Option Life} {L : Int → RS} {now : Int} {n : Nat} (h : Rel M L now n) (s : Int) (h0 : 0 ≤ now) : Rel (dM M s) (dL L s) now n := by
  unfold dM dL
  cases hs : isSl s
  · have e : upd M s none = M := by
      funext x
      unfold upd
      split
      · rename_i e; subst e; exact ((h x).2 hs).symm
      · rfl
    rw [e]; exact h
  · exact (rel_drop h hs h0).2
section
variable {w : World} {p b q n k : Nat} {r f e now : Int} {M : Int → Option Life} {L : Int → RS}
theorem told2 (hP : PulseAt w p b n r f e M) (hR : Rel M L now k) (s now' : Int) (ok : Bool) (hn : n ≤ 1000000) (hk : k ≤ 1000000) :
    Calls Try.prog 17 #[.pointer (some ⟨p, 0, none⟩), .int .i64 s, .int .i64 now', .bool ok] w fun x w' => x = .returned (.int .i64 (tv r f M s now' ok)) ∧ (∃ n', n' ≤ n + 1 ∧ PulseAt w' p b n' r f e (tM r f M s now' ok)) ∧ w.grownBy w' (some b) := by
  unfold tv tM
  cases hs : isSl s
  · exact (told_no hP s now' ok hs).mono fun x w' ⟨h1, h2⟩ => ⟨h1, ⟨n, Nat.le_succ _, h2 ▸ hP⟩, h2 ▸ World.grownBy.refl _ _⟩
  · have l := (hR s).1 hs
    exact (told_any hP s now' ok hs ⟨l.2.2.2.2.2.1.1, by have := l.2.2.2.2.2.1.2; omega⟩ hn).mono fun x w' h => ⟨h.1, ⟨n + 1, Nat.le_refl _, h.2.1⟩, h.2.2⟩
theorem rtold2 (hQ : RefAt w q r f e L) (hR : Rel M L now k) (hr : 1 ≤ r) (hf : 1 ≤ f) (h0 : 0 ≤ now) (s : Int) (ok : Bool) (hk : k ≤ 1000000) :
    Calls Try.prog 18 #[.pointer (some ⟨q, 0, none⟩), .int .i64 s, .int .i64 now, .bool ok] w fun x w' => x = .returned (.int .i64 (tv r f M s now ok)) ∧ RefAt w' q r f e (tL r f L s now ok) ∧ w.grownBy w' (some q) := by
  unfold tv tL
  cases hs : isSl s
  · exact (rtold_no q s now ok hs w).mono fun x w' ⟨h1, m, h2⟩ => ⟨h1, h2 ▸ hQ, h2 ▸ below_grown (below_drewN (Below.refl _ _) m) _⟩
  · obtain ⟨i, rfl, hi⟩ := isSl_nat hs
    have l := (hR i).1 hs
    have v := (rel_told hR hs r f hr hf h0 ok).1
    exact (rtold_at hQ i hi now ok ⟨l.2.2.2.2.2.2.1.1, by have := l.2.2.2.2.2.2.1.2; omega⟩ hr hf).mono fun x w' h => ⟨by rw [h.1, v]; rfl, h.2.1, h.2.2⟩
theorem due2 (hP : PulseAt w p b n r f e M) (hR : Rel M L now k) (s : Int) (hs : I64 s) (h0 : 0 ≤ now ∧ now ≤ 1000000) :
    Calls Try.prog 19 #[.pointer (some ⟨p, 0, none⟩), .int .i64 s, .int .i64 now] w fun x w' => x = .returned (.bool (dv M e s now)) ∧ Below w.heap.size w w' := by
  refine due_ok hP s now _ hs ?_ ⟨h0.1, by omega⟩ rfl
  cases hi : isSl s
  · have : cur M s = zLife := by unfold cur; rw [(hR s).2 hi]; rfl
    rw [this]; exact ⟨by decide, by decide⟩
  · have l := ((hR s).1 hi).2.2.2.1; omega
theorem rdue2 (hQ : RefAt w q r f e L) (hR : Rel M L now k) (s : Int) (h0 : 0 ≤ now ∧ now ≤ 1000000) (he : 0 ≤ e ∧ e ≤ 1000) :
    Calls Try.prog 20 #[.pointer (some ⟨q, 0, none⟩), .int .i64 s, .int .i64 now] w fun x w' => x = .returned (.bool (dv M e s now)) ∧ ∃ m, w' = w.drewN m := by
  unfold dv
  cases hs : isSl s
  · exact rdue_no q s now hs w
  · obtain ⟨i, rfl, hi⟩ := isSl_nat hs
    have l := (hR i).1 hs
    refine rdue_at hQ i hi now _ ?_ ⟨by rw [l.2.2.1]; exact l.2.2.2.1.1, by rw [l.2.2.1]; have := l.2.2.2.1.2; omega⟩ he
    rw [l.1, l.2.2.1, Bool.true_and]
    congr 1
    simp only [decide_eq_decide]
    omega
theorem up2 (hP : PulseAt w p b n r f e M) (s : Int) (hs : I64 s) :
    Calls Try.prog 21 #[.pointer (some ⟨p, 0, none⟩), .int .i64 s] w fun x w' => x = .returned (.bool (cur M s).1) ∧ w = w' := up_ok hP s _ hs rfl
theorem rup2 (hQ : RefAt w q r f e L) (hR : Rel M L now k) (s : Int) :
    Calls Try.prog 22 #[.pointer (some ⟨q, 0, none⟩), .int .i64 s] w fun x w' => x = .returned (.bool (cur M s).1) ∧ ∃ m, w' = w.drewN m := by
  cases hs : isSl s
  · have : (cur M s).1 = false := by unfold cur; rw [(hR s).2 hs]; rfl
    rw [this]; exact rup_no q s hs w
  · obtain ⟨i, rfl, hi⟩ := isSl_nat hs
    have l := (hR i).1 hs
    exact (rup_at hQ i hi).mono fun x w' ⟨h1, h2⟩ => ⟨by rw [h1, l.2.1], 0, h2 ▸ rfl⟩
theorem drop2 (hP : PulseAt w p b n r f e M) (s : Int) (hs : I64 s) :
    Calls Try.prog 23 #[.pointer (some ⟨p, 0, none⟩), .int .i64 s] w fun x w' => x = .returned (.bool (M s).isSome) ∧ PulseAt w' p b n r f e (dM M s) ∧ w.grownBy w' (some b) := drop_ok hP s _ hs rfl
theorem rdrop2 (hQ : RefAt w q r f e L) (hR : Rel M L now k) (h0 : 0 ≤ now) (s : Int) :
    Calls Try.prog 24 #[.pointer (some ⟨q, 0, none⟩), .int .i64 s] w fun x w' => x = .returned (.bool (M s).isSome) ∧ RefAt w' q r f e (dL L s) ∧ w.grownBy w' (some q) := by
  unfold dL
  cases hs : isSl s
  · rw [(hR s).2 hs]
    exact (rdrop_no q s hs w).mono fun x w' ⟨h1, m, h2⟩ => ⟨h1, h2 ▸ hQ, h2 ▸ below_grown (below_drewN (Below.refl _ _) m) _⟩
  · obtain ⟨i, rfl, hi⟩ := isSl_nat hs
    have l := (rel_drop hR hs h0).1
    exact (rdrop_at hQ i hi).mono fun x w' h => ⟨by rw [h.1, l], h.2.1, h.2.2⟩
end
end Go.Proofs.Ytcbnebabeekegaa
