/- roundhouselaw11.HeadNotes answers true for every row, any two numbers; no condition. -/
import Derived.Test.YtppcanaelagfmaaHdSame
import Derived.Test.YtppcanaelagfmaaHdKnown
import Derived.BigQuiet
import Derived.Deep.RegionHeld3
import Derived.Deep.Cut
import Derived.Deep.CutRange
import Derived.IntWalk
namespace Go.Proofs.Ytppcanaelagfmaa.headNotes
set_option linter.unusedVariables false
set_option linter.unusedSimpArgs false
open Go.RowKit Go.ChangeShapes Go.WideShapes Go.ChangeAt

def eR (j : Nat) : En := ⟨6, 0, 0, 0, 0, ⟨j, 0⟩⟩
def rp (p : Pl) : Nat → Pl
  | 0 => p
  | j + 1 => nxP (rp p j) (eR j)
theorem rp_inv {p : Pl} (h : Pinv p 30) : ∀ j : Nat, Pinv (rp p j) (30 + j)
  | 0 => h
  | j + 1 => (nxP_inv (rp_inv h j) (eR j) (show (0 : Int).toNat < 64 by decide)).mono (by omega)
def hB (p : Pl) (u j : Nat) (f : Nat → Wd) : Hd := ⟨p, rp p j, (List.range j).map eR, zEn, u, f⟩
theorem wishB (p : Pl) (j : Nat) : AllOut (rp p j) (gl [eR j]) 1 (rp p (j + 1)) 1 0 := by
  refine ⟨?_, .inl ⟨rfl, rfl⟩⟩
  have h1 : runP (rp p j) (gl [eR j]) 1 = if (apR (rp p j) (eR j)).2 = 0 then some (apR (rp p j) (eR j)).1 else none := rfl
  rw [h1, show apR (rp p j) (eR j) = (nxP (rp p j) (eR j), 0) from q_rot _ _]
  rfl
theorem sB {p : Pl} {u j w : Nat} {f : Nat → Wd} (hw : w < u) (hf : f w = ⟨0, -1⟩) (hv : 0 ≤ p.v) : sendH (hB p u j f) = hB p u j f := by
  unfold sendH
  rw [show allB (hB p u j f) = false from all_no (hB p u j f) w u hw (by show ¬ (f w).v = p.v; rw [hf]; show ¬ (-1 : Int) = p.v; omega)]
  rfl
theorem heardB {p : Pl} {u j k : Nat} {f : Nat → Wd} {pv : Int} (hp : p.v = pv) (hk : k < u) (hf : f k = ⟨0, -1⟩ ∨ f k = ⟨0, pv⟩) (hv : 0 ≤ pv) : heardH (hB p u j f) ⟨(k : Int), 0, pv, false, true, zEn, zPl⟩ = hB p u j (setW f k ⟨0, pv⟩) := by
  have h1 : mx pv = pv := by unfold mx; rw [if_neg (by omega)]
  have h2 : (k : Int) < u := by omega
  have h3 : (0 : Int) ≤ k := by omega
  unfold heardH earB hB
  simp only [h2, h3, h1, decide_true, Bool.and_self, if_true, Int.toNat_natCast]
  rcases hf with hf | hf
  · rw [hf, if_pos (by unfold cntB; simp; omega)]
  · rw [hf, if_neg (by unfold cntB; simp)]
    have : setW f k ⟨0, pv⟩ = f := by
      funext x
      unfold setW
      by_cases e : x = k
      · rw [if_pos e, e, hf]
      · rw [if_neg e]
    rw [this]

theorem build_nt5F (u v : Int) (wh : Bool) (w : World) : (Instr.build 58 #[(0, .int .i64 u), (1, .int .i64 0), (2, .int .i64 v), (4, .bool true), (3, .bool wh)]).run Try.prog w = .ok (.agg (FA 342 (ntc ⟨u, 0, v, wh, true, zEn, zPl⟩))) w := run_build w _ _ _ (by kernel_rfl)
theorem nt_s4 (n : Nt) (x : Bool) (j : Nat) (hj : j < 342) : patch (ntc n) 4 1 (fun _ => .bool x) j = ntc { n with ak := x } j := by
  unfold patch ntc
  by_cases h : 4 ≤ j ∧ j < 4 + 1
  · have : j = 4 := by omega
    subst this
    rfl
  · rw [if_neg h]
    by_cases h2 : j < 12
    · rw [if_pos h2, if_pos h2]
      rcases j with _ | _ | _ | _ | _ | j
      · rfl
      · rfl
      · rfl
      · rfl
      · omega
      · rfl
    · rw [if_neg h2, if_neg h2]
theorem nt_s0 (n : Nt) (x : Int) (j : Nat) (hj : j < 342) : patch (ntc n) 0 1 (fun _ => .int .i64 x) j = ntc { n with u := x } j := by
  unfold patch ntc
  by_cases h : 0 ≤ j ∧ j < 0 + 1
  · have : j = 0 := by omega
    subst this
    rfl
  · rw [if_neg h]
    by_cases h2 : j < 12
    · rw [if_pos h2, if_pos h2]
      rcases j with _ | _ | _ | _ | _ | j
      · omega
      · rfl
      · rfl
      · rfl
      · rfl
      · rfl
    · rw [if_neg h2, if_neg h2]
theorem nt_s1 (n : Nt) (x : Int) (j : Nat) (hj : j < 342) : patch (ntc n) 1 1 (fun _ => .int .i64 x) j = ntc { n with b := x } j := by
  unfold patch ntc
  by_cases h : 1 ≤ j ∧ j < 1 + 1
  · have : j = 1 := by omega
    subst this
    rfl
  · rw [if_neg h]
    by_cases h2 : j < 12
    · rw [if_pos h2, if_pos h2]
      rcases j with _ | _ | _ | _ | _ | j
      · rfl
      · omega
      · rfl
      · rfl
      · rfl
      · rfl
    · rw [if_neg h2, if_neg h2]
section
variable {S : List Nat} {W w : World} {A B : List Th} {Q : Exit → Act → World → Prop} {o : Oper} {a : Act} {K : Act → World → Prop}
theorem ow_storeI {x y : Operand} {b n : Nat} {f : Nat → Value} (off : Nat) (v : Int) (f' : Nat → Value) (ho : o.op = .store 3 x y) (hx : a.eval x = .pointer (some ⟨b, off, none⟩)) (hy : a.eval y = .int .i64 v) (hS : HS S W w (A ++ thB b n f :: B)) (hok : off + 1 ≤ n) (hf : ∀ j, j < n → patch f off 1 (fun _ => .int .i64 v) j = f' j)
    (h : ∀ w', HS S W w' (A ++ thB b n f' :: B) → K (a.put o.dst undef) w') : o.wp Try.prog a w K Q := by
  have hF : Fb w b n f := hS.1 (thB b n f) (by simp)
  refine ov_store ho hx hy (w' := w.setCell ⟨b, off, none⟩ (.int .i64 v)) ?_ (h _ (hS.set off 1 (fun _ => .int .i64 v) hok f' hf))
  have c := hF.2.1 off (by omega)
  have z := hF.2.2 off
  go_simp
end
def f0 (_ : Nat) : Wd := ⟨0, -1⟩
def dH (p : Pl) (u : Nat) : Hd := hB p u 1 f0
theorem dA (p : Pl) (u : Nat) (nt : Nt) (h : nt.ak = false) : heardH (dH p u) nt = dH p u := by
  unfold heardH earB
  rw [h]
  rfl
theorem dU (p : Pl) (u : Nat) (nt : Nt) (h : nt.u < 0 ∨ (u : Int) ≤ nt.u) : heardH (dH p u) nt = dH p u := by
  have : earB (dH p u) nt = false := by
    unfold earB
    show (nt.ak && decide (0 ≤ nt.u) && decide (nt.u < (u : Int))) = false
    rcases h with h | h
    · rw [show decide (0 ≤ nt.u) = false by simp; omega]; simp
    · rw [show decide (nt.u < (u : Int)) = false by simp; omega]; simp
  unfold heardH
  rw [this]
  rfl
theorem dB (p : Pl) (u : Nat) (nt : Nt) (h : nt.b < 0) : heardH (dH p u) nt = dH p u := by
  unfold heardH
  split
  · have : cntB ((dH p u).wd nt.u.toNat) ⟨nt.b, mx nt.v⟩ = false := by
      show (decide ((0 : Int) < nt.b) || ((nt.b == 0) && decide ((-1 : Int) < mx nt.v))) = false
      rw [show decide ((0 : Int) < nt.b) = false by simp; omega, show (nt.b == 0) = false by simp; omega]
      rfl
    rw [this]
    rfl
  · rfl
theorem dN (p : Pl) (u : Nat) (hv : 0 ≤ p.v) : ∀ k : Nat, (notesK (dH p u) k).length = k
  | 0 => rfl
  | k + 1 => by
    rw [notesK_succ, if_pos (by show (-1 : Int) < p.v; omega), List.length_append, dN p u hv k]
    rfl
theorem dN0 (p : Pl) (u : Nat) (hv : 0 ≤ p.v) : ∀ k : Nat, (notesK (dH p u) (k + 1))[0]? = some ⟨0, 0, p.v, true, false, zEn, p⟩
  | 0 => by
    rw [notesK_succ, if_pos (by show (-1 : Int) < p.v; omega)]
    rfl
  | k + 1 => by
    rw [notesK_succ, if_pos (by show (-1 : Int) < p.v; omega), List.getElem?_append_left (by rw [dN p u hv]; omega)]
    exact dN0 p u hv k
theorem sD (p : Pl) (u : Nat) (hu : 1 ≤ u) (hv : 0 ≤ p.v) : sendH (dH p u) = dH p u := sB (w := 0) (by omega) rfl hv
theorem dN1 (p : Pl) (u : Nat) (hv : 0 ≤ p.v) (k : Nat) (hk : 1 ≤ k) : (notesK (dH p u) k)[0]? = some ⟨0, 0, p.v, true, false, zEn, p⟩ := by
  obtain ⟨j, rfl⟩ : ∃ j, k = j + 1 := ⟨k - 1, by omega⟩
  exact dN0 p u hv j
theorem build_nt024F (u v : Int) (w : World) : (Instr.build 58 #[(0, .int .i64 u), (2, .int .i64 v), (4, .bool true)]).run Try.prog w = .ok (.agg (FA 342 (ntc ⟨u, 0, v, false, true, zEn, zPl⟩))) w := run_build w _ _ _ (by kernel_rfl)

def nZ (p : Pl) (u : Nat) (f : Nat → Wd) : Hd := ⟨nxP p (eR 0), rp p 1, [], eR 0, u, f⟩
theorem sN {p : Pl} {u : Nat} {f : Nat → Wd} (hf : ∀ i, i < u → f i = ⟨0, p.v⟩) : sendH (hB p u 1 f) = nZ p u f := by
  unfold sendH
  have h1 : allB (hB p u 1 f) = true := by
    unfold allB
    rw [List.all_eq_true]
    intro i hi
    show ((f i).v == p.v) = true
    rw [hf i (by simpa [hB] using hi)]
    simp
  rw [if_pos h1]
  show pubH (hB p u 1 f) = _
  have h2 : pubH (hB p u 1 f) = if (apR p (eR 0)).2 = 0 then { hB p u 1 f with pl := (apR p (eR 0)).1, la := eR 0, q := [] } else { hB p u 1 f with q := [] } := rfl
  rw [h2, show apR p (eR 0) = (nxP p (eR 0), 0) from q_rot _ _]
  rfl
theorem sN2 (p : Pl) (u : Nat) (f : Nat → Wd) : sendH (nZ p u f) = nZ p u f := by
  unfold sendH
  split <;> rfl
theorem nk_get (h : Hd) {i : Nat} (hv : (h.wd i).v < h.pl.v) : ∀ {k : Nat}, i < k → (notesK h k)[(notesK h i).length]? = some (noteH h i)
  | 0, hk => absurd hk (Nat.not_lt_zero _)
  | k + 1, hk => by
    rw [notesK_succ]
    by_cases e : i = k
    · subst e
      rw [if_pos hv]
      simp
    · have ih := nk_get h hv (show i < k by omega)
      split
      · rw [List.getElem?_append_left ((List.getElem?_eq_some_iff.1 ih).1)]
        exact ih
      · exact ih
theorem nk_all (h : Hd) : ∀ {k : Nat}, (∀ i, i < k → (h.wd i).v < h.pl.v) → (notesK h k).length = k
  | 0, _ => rfl
  | k + 1, hv => by
    rw [notesK_succ, if_pos (hv k (by omega)), List.length_append, nk_all h (fun i hi => hv i (by omega))]
    rfl
theorem nk_but (h : Hd) (w : Nat) : ∀ {k : Nat}, (∀ i, i < k → i ≠ w → (h.wd i).v < h.pl.v) → (w < k → ¬ (h.wd w).v < h.pl.v) → (notesK h k).length = if w < k then k - 1 else k
  | 0, _, _ => by rw [if_neg (by omega)]; rfl
  | k + 1, hv, hw => by
    have ih := nk_but h w (k := k) (fun i hi => hv i (by omega)) (fun hk => hw (by omega))
    rw [notesK_succ]
    by_cases e : k = w
    · subst e
      rw [if_neg (hw (by omega)), ih, if_neg (by omega), if_pos (by omega)]
      omega
    · rw [if_pos (hv k (by omega) e), List.length_append, ih]
      by_cases h1 : w < k
      · rw [if_pos h1, if_pos (by omega)]
        show k - 1 + 1 = _
        omega
      · rw [if_neg h1, if_neg (by omega)]
        rfl
theorem nx_v (p : Pl) : (nxP p (eR 0)).v = p.v + 1 := rfl
theorem nZ_len {p : Pl} {u : Nat} {f : Nat → Wd} (hf : ∀ i, i < u → f i = ⟨0, p.v⟩) : (notesK (nZ p u f) u).length = u := nk_all _ fun i hi => by
  show (f i).v < p.v + 1
  rw [hf i hi]
  show p.v < p.v + 1
  omega
theorem nZ_0 {p : Pl} {u : Nat} {f : Nat → Wd} (hu : 1 ≤ u) (hf : ∀ i, i < u → f i = ⟨0, p.v⟩) : (notesK (nZ p u f) u)[0]? = some ⟨0, 0, p.v + 1, false, false, eR 0, zPl⟩ := by
  have h := nk_get (nZ p u f) (i := 0) (by show (f 0).v < p.v + 1; rw [hf 0 (by omega)]; show p.v < p.v + 1; omega) (k := u) (by omega)
  have e : noteH (nZ p u f) 0 = ⟨0, 0, p.v + 1, false, false, eR 0, zPl⟩ := by
    have h1 : oneB (nZ p u f) 0 = true := by
      show ((6 : Int) != 0 && ((f 0).v == p.v + 1 - 1)) = true
      rw [hf 0 (by omega)]
      simp
    unfold noteH
    rw [if_pos h1]
    show (⟨(0 : Nat), (f 0).b, p.v + 1, false, false, eR 0, zPl⟩ : Nt) = _
    rw [hf 0 (by omega)]
    rfl
  rw [e] at h
  exact h
theorem heardN {p : Pl} {u k : Nat} {f : Nat → Wd} {pv : Int} (hp : p.v = pv) (hk : k < u) (hf : ∀ i, i < u → f i = ⟨0, p.v⟩) (hv : 0 ≤ pv) : heardH (nZ p u f) ⟨(k : Int), 0, pv + 1, false, true, zEn, zPl⟩ = nZ p u (setW f k ⟨0, pv + 1⟩) := by
  have h1 : mx (pv + 1) = pv + 1 := by unfold mx; rw [if_neg (by omega)]
  have h2 : (k : Int) < u := by omega
  have h3 : (0 : Int) ≤ k := by omega
  unfold heardH earB nZ
  simp only [h2, h3, h1, decide_true, Bool.and_self, if_true, Int.toNat_natCast]
  rw [hf k hk, hp, if_pos (by unfold cntB; simp; omega)]
theorem nZ_but {p : Pl} {u k : Nat} {f : Nat → Wd} {pv : Int} (hp : p.v = pv) (hk : k < u) (hf : ∀ i, i < u → f i = ⟨0, p.v⟩) : (notesK (nZ p u (setW f k ⟨0, pv + 1⟩)) u).length = u - 1 := by
  rw [nk_but (nZ p u (setW f k ⟨0, pv + 1⟩)) k (k := u), if_pos hk]
  · intro i hi hne
    show (setW f k ⟨0, pv + 1⟩ i).v < p.v + 1
    unfold setW
    rw [if_neg hne, hf i hi]
    show p.v < p.v + 1
    omega
  · intro _
    show ¬ (setW f k ⟨0, pv + 1⟩ k).v < p.v + 1
    unfold setW
    rw [if_pos rfl]
    show ¬ pv + 1 < p.v + 1
    omega
section
variable {w : World} {b c m n : Nat} {h : Hd}
theorem sendG (hH : HeadAt w b c m n h) (hu : h.un ≤ 16) (hp : PB h.pl) (h' : Hd) (hv2 : 0 ≤ h'.pl.v ∧ h'.pl.v ≤ 1000000000) (l : List Nt) (k : Nat) (he : sendH h = h') (hl : notesK h' h.un = l) (hk : l.length = k) (h0 : 0 < k) :
    Calls Try.prog 22 #[.pointer (some ⟨b, 0, none⟩)] w fun x w' => ∃ (G cc : Nat), x = .returned (.slice (some ⟨G, 0, none⟩) k cc) ∧ k ≤ cc ∧ HeadAt w' b c m n h' ∧ Ch [b, c, m] w w' ∧ w.heap.size ≤ G ∧ Fb w' G (k * 342) (ntf l) :=
  (send_fa hH hu hp (by rw [he]; exact hv2) h' l he hl).mono fun x w' ⟨A, cc, hx, hlc, hH2, hC, hrow⟩ => by
    subst hk
    obtain ⟨G, rfl, hg, hF⟩ := hrow h0
    exact ⟨G, cc, hx, hlc, hH2, hC, hg, hF⟩
theorem sendL (hH : HeadAt w b c m n h) (hu : h.un ≤ 16) (hp : PB h.pl) (h' : Hd) (hv2 : 0 ≤ h'.pl.v ∧ h'.pl.v ≤ 1000000000) (k : Nat) (he : sendH h = h') (hk : (notesK h' h.un).length = k) :
    Calls Try.prog 22 #[.pointer (some ⟨b, 0, none⟩)] w fun x w' => ∃ (A : Option Addr) (cc : Nat), x = .returned (.slice A k cc) ∧ k ≤ cc ∧ HeadAt w' b c m n h' ∧ Ch [b, c, m] w w' :=
  (send_fa hH hu hp (by rw [he]; exact hv2) h' _ he rfl).mono fun x w' ⟨A, cc, hx, hlc, hH2, hC, hrow⟩ => by
    subst hk
    exact ⟨A, cc, hx, hlc, hH2, hC⟩
end
theorem as_k {w : World} {A : Option Addr} {l : List Nt} {c k : Nat} (hk : l.length = k) (hl : k ≤ 16) (hr : RowN w A l) : Calls Try.prog 27 #[.slice A k c] w fun x w' => ∃ A' cc, x = .returned (.slice A' k cc) ∧ RowN w' A' l ∧ Below w.heap.size w w' := by
  subst hk
  exact as_any w A l c hl hr
theorem same_k {w : World} {A1 A2 : Option Addr} {l : List Nt} {c1 c2 k : Nat} (hk : l.length = k) (hl : k ≤ 16) (h1 : RowN w A1 l) (h2 : RowN w A2 l) : Calls Try.prog 26 #[.slice A1 k c1, .slice A2 k c2] w fun x w' => x = .returned (.bool true) ∧ Below w.heap.size w w' := by
  subst hk
  exact rsame_any w A1 A2 l c1 c2 hl h1 h2
theorem Fb.row {w : World} {G k : Nat} {l : List Nt} (hk : l.length = k) (h : Fb w G (k * 342) (ntf l)) : RowN w (some ⟨G, 0, none⟩) l := fun _ => ⟨G, rfl, by rw [hk]; exact h⟩
theorem set_all {p : Pl} {k : Nat} {f : Nat → Wd} {pv : Int} (hp : p.v = pv) (h : ∀ i, i < k → f i = ⟨0, pv⟩) : ∀ i, i < k + 1 → setW f k ⟨0, pv⟩ i = ⟨0, pv⟩ := by
  intro i hi
  unfold setW
  by_cases e : i = k
  · rw [if_pos e]
  · rw [if_neg e]; exact h i (by omega)
theorem set_any {k : Nat} {f : Nat → Wd} {pv : Int} (h : ∀ i, f i = ⟨0, -1⟩ ∨ f i = ⟨0, pv⟩) : ∀ i, setW f k ⟨0, pv⟩ i = ⟨0, -1⟩ ∨ setW f k ⟨0, pv⟩ i = ⟨0, pv⟩ := by
  intro i
  unfold setW
  by_cases e : i = k
  · rw [if_pos e]; exact .inr rfl
  · rw [if_neg e]; exact h i
attribute [local irreducible] FA FL
set_option maxRecDepth 100000 in
set_option maxHeartbeats 8000000 in
theorem walk (W : World) (A1 : Option Addr) (n1 c1 : Nat) (g1 : Nat → Int) (hn1 : n1 ≤ c1) (hc1 : c1 ≤ maxLen) (hr1 : Is W A1 n1 g1) (hg1 : IsI g1) (hl1 : ∀ ad, A1 = some ad → 0 < n1 → ad.block < W.heap.size) (re1 : c1 * 8 ≤ 140737488351232) (a0 : Int) (r_a0 : -9223372036854775808 ≤ a0 ∧ a0 ≤ 9223372036854775807) (b0 : Int) (r_b0 : -9223372036854775808 ≤ b0 ∧ b0 ≤ 9223372036854775807) :
    Calls Try.prog 10 #[.slice A1 n1 c1, .int .i64 a0, .int .i64 b0] W fun e w' => e = .returned (.bool true) ∧ Below W.heap.size W w' := by
  unfold maxLen at hc1
  have hnm : (n1 : Int) ≤ 9223372036854775807 := by have := hn1; omega
  have HL := hid hl1
  clear hl1 re1
  obtain ⟨p, hp⟩ : ∃ p, p = mkP g1 (min n1 30) := ⟨_, rfl⟩
  have HQ := hid (show Pinv p 30 from by rw [hp]; exact (mkP_inv g1 _).mono (by omega))
  have MK := hid (fun (w : World) (h : Is w A1 n1 g1) (hl : ∀ ad, A1 = some ad → 0 < n1 → ad.block < w.heap.size) => (show Calls Try.prog 13 #[.slice A1 n1 c1, .int .i64 30] w fun x w' => x = .returned (.agg (FA 330 (pc p))) ∧ Below w.heap.size w w' from by rw [hp]; exact make_fa w A1 n1 c1 g1 h hl hnm 30 (by omega)))
  clear hp
  obtain ⟨x0, hx0⟩ : ∃ x : Nat, (x : Int) = wi a0 5 := ⟨(wi a0 5).toNat, by have := wi_bd a0 5 (by omega); omega⟩
  have bx0 := wi_bd a0 5 (by omega)
  rw [← hx0] at bx0
  have Wx0 := hid (fun w => re_i64 (within_any a0 5 w (by omega) (by omega)) hx0.symm)
  clear hx0
  obtain ⟨bx01, bx02⟩ := bx0
  obtain ⟨u, hu⟩ : ∃ u : Nat, u = 1 + x0 := ⟨_, rfl⟩
  have hu1 : 1 ≤ u := by omega
  have hu2 : u ≤ 5 := by omega
  have HUX := hid (show (1 : Int) + x0 = u from by omega)
  obtain ⟨k1, hk1⟩ : ∃ k1 : Nat, u = k1 + 1 := ⟨u - 1, by omega⟩
  have HK1 := hid hk1
  clear hk1
  obtain ⟨w0, hw0⟩ : ∃ x : Nat, (x : Int) = wi b0 u := ⟨(wi b0 u).toNat, by have := wi_bd b0 u (by omega); omega⟩
  have bw0 := wi_bd b0 u (by omega)
  rw [← hw0] at bw0
  have Ww0 := hid (fun w => re_i64 (within_any b0 u w (by omega) (by omega)) hw0.symm)
  clear hw0
  obtain ⟨bw01, bw02⟩ := bw0
  have hw : w0 < u := by omega
  obtain ⟨pv, hpv⟩ : ∃ x, p.v = x := ⟨_, rfl⟩
  have HPV := hid hpv
  have hv1 : 0 ≤ pv := by rw [← hpv]; exact HQ.out.1.1
  have hv2 : pv ≤ 30 := by rw [← hpv]; exact HQ.out.1.2
  clear hpv
  have S0 : Hid (HS [] W W []) := hid HS.start
  go_enter Try.func10, Try.ntmps10
  go_wp2_with fail
  refine (hknown_any _).mono ?_
  rintro x w1 ⟨rfl, hB⟩
  have R1 := hid (hr1.below hB (Nat.le_refl _))
  have B1 := hid hB
  have S1 : Hid (HS [] W w1 []) := hid (S0.out.below hB)
  clear hr1 hB S0
  go_wp2_with fail
  refine (MK.out _ R1.out (fun ad e h => Nat.lt_of_lt_of_le (HL.out ad e h) B1.out.size)).mono ?_
  rintro x w2 ⟨rfl, hb⟩
  have S2 : Hid (HS [] W w2 []) := hid (S1.out.below hb)
  clear hb S1 MK
  go_simp
  go_upto_region 4 with (first | ((with_reducible refine wl_id ?_); refine wl_ow rfl (ow_alloc rfl (zpl_fa _) (by omega) S2.out ?_); intro P w_ hZ _; have SA := hid hZ; clear hZ) | ((with_reducible refine wl_id ?_); refine wl_ow rfl (ow_store (A := []) 0 330 (pc p) (pc p) rfl rfl rfl SA.out (by omega) (fun j hj => patch_all _ _ _ j hj) info_pl (pc_one _) ?_); intro w_ hZ; have SX := hid hZ; clear hZ))
  have S3 : Hid (HS [] W _ [thB P 330 (pc p)]) := hid (SX.out)
  go_wp2_with fail
  refine (Wx0.out _).mono ?_
  rintro x w_ ⟨rfl, rfl⟩
  go_simp
  clear hu
  go_upto_region 5 with (fail)
  rw [HUX.out]
  have NW := hid (hnew_fa p (u) ⟨by omega, by omega⟩)
  go_wp2_with ((with_reducible refine wl_id ?_); refine wl_ow rfl (ow_load 0 rfl 0 330 (pc p) rfl rfl S3.out (by omega) (fun j hj => by rw [Nat.zero_add]) Try.underlying33 rfl info_pl ?_))
  refine (NW.out _).mono ?_
  rintro x w103 ⟨b, c, m, rfl, hH, hg1, hg2, hg3, hB⟩
  have S4 : Hid (HS [] W w103 [thH b c m (u) (newH p (u)), thB P 330 (pc p)]) := hid (HS.addH S3.out hH hg1 hg2 hg3 hB)
  clear hH hg1 hg2 hg3 hB NW S3
  go_simp
  go_wp2_with fail
  have SE := se_made (w := w103) [eR 0] (T := 44) rfl
  have U1 : Hid (HS [] W (w103.alloc (.cells #[.int .i64 6, .int .i64 0, .int .i64 0, .int .i64 0, .int .i64 0, .int .u64 0, .int .u64 0] 44)) [thC w103.heap.size [.int .i64 6, .int .i64 0, .int .i64 0, .int .i64 0, .int .i64 0, .int .u64 0, .int .u64 0], thH b c m u (newH p u), thB P 330 (pc p)]) := hid (S4.out.cells (T := 44) [.int .i64 6, .int .i64 0, .int .i64 0, .int .i64 0, .int .i64 0, .int .u64 0, .int .u64 0])
  refine (wish_any (U1.out.nth 1 rfl : HeadAt _ b c m u (newH p u)) (gl [eR 0]) _ 1 1 SE (fun ad e h0 => ?_) (show 0 + 1 ≤ 200 by omega) 30 HQ.out (by omega)).mono ?_
  · injection e with e
    subst e
    have h1 : HeadAt w103 b c m u (newH p u) := S4.out.nth 0 rfl
    have := h1.lt
    have := h1.ltc
    have := h1.ltm
    simp
    omega
  rintro x w6 ⟨q_, j_, er_, ho, rfl, hH, hC⟩
  obtain ⟨a, b', c'⟩ := ho.uniq (wishB p 0)
  subst a; subst b'; subst c'
  rw [if_pos rfl] at hH
  have hH2 : HeadAt w6 b c m u (dH p u) := hH
  have U2 : Hid (HS [] W w6 [thH b c m u (dH p u), thB P 330 (pc p)]) := hid (HS.tail (HS.upd (A := [thC w103.heap.size [.int .i64 6, .int .i64 0, .int .i64 0, .int .i64 0, .int .i64 0, .int .u64 0, .int .u64 0]]) (B := [thB P 330 (pc p)]) U1.out (thH b c m u (dH p u)) rfl hC hH2))
  clear hH hH2 hC ho SE U1 S4
  go_simp
  go_wp2_with fail
  have cp := hid (show ∀ w, Fb w P 330 (pc p) → w.cell? ⟨P, 0, none⟩ = some (.int .i64 pv) from fun w h => by rw [← HPV.out]; exact h.2.1 0 (by omega))
  obtain ⟨la, hla⟩ : ∃ la, la = notesK (dH p u) u := ⟨_, rfl⟩
  have LA := hid (show la.length = u from by rw [hla]; exact dN p u (by rw [HPV.out]; exact hv1) u)
  have NA := hid (show notesK (dH p u) u = la from hla.symm)
  clear hla
  refine (sendG (U2.out.nth 0 rfl : HeadAt _ b c m u (dH p u)) (show u ≤ 16 by omega) (HQ.out.pb (by omega)) (dH p u) (show 0 ≤ p.v ∧ p.v ≤ 1000000000 by rw [HPV.out]; omega) la u (sD p u (by omega) (by rw [HPV.out]; exact hv1)) (NA.out) (LA.out) (by omega)).mono ?_
  rintro x w7 ⟨G1, ccG1, rfl, hlcG1, hH, hC, hg, hF⟩
  have U3 : Hid (HS [] W w7 [thB G1 (u * 342) (ntf la), thH b c m u (dH p u), thB P 330 (pc p)]) := hid (HS.updNew (A := []) (B := [thB P 330 (pc p)]) U2.out (thH b c m u (dH p u)) rfl hC hH hF hg)
  clear hH hC hg hF U2
  go_simp
  go_wp2_with fail
  refine (sendG (U3.out.nth 1 rfl : HeadAt _ b c m u (dH p u)) (show u ≤ 16 by omega) (HQ.out.pb (by omega)) (dH p u) (show 0 ≤ p.v ∧ p.v ≤ 1000000000 by rw [HPV.out]; omega) la u (sD p u (by omega) (by rw [HPV.out]; exact hv1)) (NA.out) (LA.out) (by omega)).mono ?_
  rintro x w8 ⟨G2, ccG2, rfl, hlcG2, hH, hC, hg, hF⟩
  have U4 : Hid (HS [] W w8 [thB G2 (u * 342) (ntf la), thB G1 (u * 342) (ntf la), thH b c m u (dH p u), thB P 330 (pc p)]) := hid (HS.updNew (A := [thB G1 (u * 342) (ntf la)]) (B := [thB P 330 (pc p)]) U3.out (thH b c m u (dH p u)) rfl hC hH hF hg)
  clear hH hC hg hF U3
  go_simp
  go_wp2_with fail
  go_loopw [13] (fun i wx => ∃ (k n : Nat) (f : Nat → Wd), k ≤ u ∧ n ≤ 5 + k ∧ i = .int .i64 (k : Int) ∧ (∀ i, f i = ⟨0, -1⟩ ∨ f i = ⟨0, pv⟩) ∧ (∀ i, i < k → f i = ⟨0, pv⟩) ∧ HS [] W wx [thB G2 (u * 342) (ntf la), thB G1 (u * 342) (ntf la), thH b c m n (hB p u 1 (f)), thB P 330 (pc p)]) (fun i _ => u - (intOf i).toNat)
  case atStart => exact ⟨0, u, f0, by omega, by omega, rfl, fun _ => .inl rfl, fun i hi => absurd hi (Nat.not_lt_zero _), U4.out⟩
  case round =>
    clear U4
    obtain ⟨k, n, f, hk, hn, rfl, hany, hall, hS⟩ := hrel
    have U5 := hid hS
    have HANY := hid hany
    have HALL := hid hall
    clear hS hany hall
    by_cases hlt : (k : Int) < u
    · have hku : k < u := by omega
      have cp0 := cp.out _ (U5.out.nth 3 rfl)
      go_upto_region 12 with (fail)
      apply wp_region_lit
      refine wl_val (v := ?_) rfl ?_ ?_; rotate_left; (focus ( go_simp; (try with_reducible rfl))); (try simp only [Act.put, List.setIfInBounds_toArray, List.set_cons_zero, List.set_cons_succ])
      refine wl_val (v := ?_) rfl ?_ ?_; rotate_left; (focus ( go_simp; (try with_reducible rfl))); (try simp only [Act.put, List.setIfInBounds_toArray, List.set_cons_zero, List.set_cons_succ])
      refine wl_val (v := ?_) rfl ?_ ?_; rotate_left; (focus ( go_simp; (try with_reducible rfl))); (try simp only [Act.put, List.setIfInBounds_toArray, List.set_cons_zero, List.set_cons_succ])
      refine wl_val (v := ?_) rfl ?_ ?_; rotate_left; (focus ( go_simp; (try with_reducible rfl))); (try simp only [Act.put, List.setIfInBounds_toArray, List.set_cons_zero, List.set_cons_succ])
      refine wl_build3 rfl rfl rfl rfl rfl (build_nt024F (k : Int) pv _) ?_
      try simp only [Act.put, List.setIfInBounds_toArray, List.set_cons_zero, List.set_cons_succ]
      go_wp2_with fail
      refine (heard_fa (U5.out.nth 2 rfl : HeadAt _ b c m n (hB p u 1 f)) ⟨(k : Int), 0, pv, false, true, zEn, zPl⟩ (show u ≤ 16 by omega) (by omega) (hB p u 1 (setW f k ⟨0, pv⟩)) (heardB HPV.out hku (HANY.out k) hv1)).mono ?_
      rintro x w9 ⟨rfl, hH, hC⟩
      have U6 : Hid (HS [] W w9 [thB G2 (u * 342) (ntf la), thB G1 (u * 342) (ntf la), thH b c m (n + 1) (hB p u 1 (setW f k ⟨0, pv⟩)), thB P 330 (pc p)]) := hid (HS.upd (A := [thB G2 (u * 342) (ntf la), thB G1 (u * 342) (ntf la)]) (B := [thB P 330 (pc p)]) U5.out (thH b c m (n + 1) (hB p u 1 (setW f k ⟨0, pv⟩))) rfl hC hH)
      clear hH hC cp0 U5
      go_simp
      go_wp2_with fail
      go_roundw
      case rel => exact ⟨k + 1, n + 1, _, by omega, by omega, by go_num, set_any HANY.out, set_all HPV.out HALL.out, U6.out⟩
      case measure => simp [intOf]; omega
    · have hku : k = u := by omega
      have HALL2 := hid (show ∀ i, i < u → f i = ⟨0, p.v⟩ from by rw [HPV.out, ← hku]; exact HALL.out)
      clear HALL HANY hku
      go_wp2_with fail
      obtain ⟨lc, hlc⟩ : ∃ lc, lc = notesK (nZ p u f) u := ⟨_, rfl⟩
      have LC := hid (show lc.length = u from by rw [hlc]; exact nZ_len HALL2.out)
      have NC := hid (show notesK (nZ p u f) u = lc from hlc.symm)
      have C0 := hid (show lc[0]? = some ⟨0, 0, p.v + 1, false, false, eR 0, zPl⟩ from by rw [hlc]; exact nZ_0 hu1 HALL2.out)
      clear hlc
      refine (sendG (U5.out.nth 2 rfl : HeadAt _ b c m n (hB p u 1 f)) (show u ≤ 16 by omega) (HQ.out.pb (by omega)) (nZ p u f) (show 0 ≤ p.v + 1 ∧ p.v + 1 ≤ 1000000000 by rw [HPV.out]; omega) lc u (sN HALL2.out) (NC.out) (LC.out) (by omega)).mono ?_
      rintro x w10 ⟨G3, ccG3, rfl, hlcG3, hH, hC, hg, hF⟩
      have U6 : Hid (HS [] W w10 [thB G3 (u * 342) (ntf lc), thB G2 (u * 342) (ntf la), thB G1 (u * 342) (ntf la), thH b c m n (nZ p u f), thB P 330 (pc p)]) := hid (HS.updNew (A := [thB G2 (u * 342) (ntf la), thB G1 (u * 342) (ntf la)]) (B := [thB P 330 (pc p)]) U5.out (thH b c m n (nZ p u f)) rfl hC hH hF hg)
      clear hH hC hg hF U5
      go_simp
      go_wp2_with fail
      refine (sendG (U6.out.nth 3 rfl : HeadAt _ b c m n (nZ p u f)) (show u ≤ 16 by omega) ((nxP_inv HQ.out (eR 0) (show (0 : Int).toNat < 64 by decide)).pb (by omega)) (nZ p u f) (show 0 ≤ p.v + 1 ∧ p.v + 1 ≤ 1000000000 by rw [HPV.out]; omega) lc u (sN2 p u f) (NC.out) (LC.out) (by omega)).mono ?_
      rintro x w11 ⟨G4, ccG4, rfl, hlcG4, hH, hC, hg, hF⟩
      have U7 : Hid (HS [] W w11 [thB G4 (u * 342) (ntf lc), thB G3 (u * 342) (ntf lc), thB G2 (u * 342) (ntf la), thB G1 (u * 342) (ntf la), thH b c m n (nZ p u f), thB P 330 (pc p)]) := hid (HS.updNew (A := [thB G3 (u * 342) (ntf lc), thB G2 (u * 342) (ntf la), thB G1 (u * 342) (ntf la)]) (B := [thB P 330 (pc p)]) U6.out (thH b c m n (nZ p u f)) rfl hC hH hF hg)
      clear hH hC hg hF U6
      go_simp
      go_wp2_with fail
      refine (Ww0.out _).mono ?_
      rintro x w_ ⟨rfl, rfl⟩
      go_simp
      have cp0 := cp.out _ (U7.out.nth 5 rfl)
      have x9 : IntKind.i64.wrap (pv + 1) = pv + 1 := IntWalk.i64_in _ (by omega)
      go_upto_region 15 with (fail)
      apply wp_region_lit
      refine wl_val (v := ?_) rfl ?_ ?_; rotate_left; (focus ( go_simp; (try with_reducible rfl))); (try simp only [Act.put, List.setIfInBounds_toArray, List.set_cons_zero, List.set_cons_succ])
      refine wl_val (v := ?_) rfl ?_ ?_; rotate_left; (focus ( go_simp; (try with_reducible rfl))); (try simp only [Act.put, List.setIfInBounds_toArray, List.set_cons_zero, List.set_cons_succ])
      refine wl_val (v := ?_) rfl ?_ ?_; rotate_left; (focus ( go_simp; (try with_reducible rfl))); (try simp only [Act.put, List.setIfInBounds_toArray, List.set_cons_zero, List.set_cons_succ])
      refine wl_val (v := ?_) rfl ?_ ?_; rotate_left; (focus ( go_simp; (try with_reducible rfl))); (try simp only [Act.put, List.setIfInBounds_toArray, List.set_cons_zero, List.set_cons_succ])
      refine wl_val (v := ?_) rfl ?_ ?_; rotate_left; (focus ( go_simp; (try with_reducible rfl))); (try simp only [Act.put, List.setIfInBounds_toArray, List.set_cons_zero, List.set_cons_succ])
      refine wl_build3 rfl rfl rfl rfl rfl (build_nt024F (w0 : Int) (pv + 1) _) ?_
      try simp only [Act.put, List.setIfInBounds_toArray, List.set_cons_zero, List.set_cons_succ]
      go_wp2_with fail
      clear x9
      refine (heard_fa (U7.out.nth 4 rfl : HeadAt _ b c m n (nZ p u f)) ⟨(w0 : Int), 0, pv + 1, false, true, zEn, zPl⟩ (show u ≤ 16 by omega) (by omega) (nZ p u (setW f w0 ⟨0, pv + 1⟩)) (heardN HPV.out hw HALL2.out hv1)).mono ?_
      rintro x w12 ⟨rfl, hH, hC⟩
      have U8 : Hid (HS [] W w12 [thB G4 (u * 342) (ntf lc), thB G3 (u * 342) (ntf lc), thB G2 (u * 342) (ntf la), thB G1 (u * 342) (ntf la), thH b c m (n + 1) (nZ p u (setW f w0 ⟨0, pv + 1⟩)), thB P 330 (pc p)]) := hid (HS.upd (A := [thB G4 (u * 342) (ntf lc), thB G3 (u * 342) (ntf lc), thB G2 (u * 342) (ntf la), thB G1 (u * 342) (ntf la)]) (B := [thB P 330 (pc p)]) U7.out (thH b c m (n + 1) (nZ p u (setW f w0 ⟨0, pv + 1⟩))) rfl hC hH)
      clear hH hC cp0 U7
      go_simp
      go_wp2_with fail
      refine (sendL (U8.out.nth 4 rfl : HeadAt _ b c m (n + 1) (nZ p u (setW f w0 ⟨0, pv + 1⟩))) (show u ≤ 16 by omega) ((nxP_inv HQ.out (eR 0) (show (0 : Int).toNat < 64 by decide)).pb (by omega)) (nZ p u (setW f w0 ⟨0, pv + 1⟩)) (show 0 ≤ p.v + 1 ∧ p.v + 1 ≤ 1000000000 by rw [HPV.out]; omega) k1 (sN2 _ _ _) (by rw [show (nZ p u (setW f w0 ⟨0, pv + 1⟩)).un = u from rfl, nZ_but HPV.out hw HALL2.out]; have := HK1.out; omega)).mono ?_
      rintro x w13 ⟨A5, cc5, rfl, hlc5, hH, hC⟩
      have U9 : Hid (HS [] W w13 [thB G4 (u * 342) (ntf lc), thB G3 (u * 342) (ntf lc), thB G2 (u * 342) (ntf la), thB G1 (u * 342) (ntf la), thH b c m (n + 1) (nZ p u (setW f w0 ⟨0, pv + 1⟩)), thB P 330 (pc p)]) := hid (HS.upd (A := [thB G4 (u * 342) (ntf lc), thB G3 (u * 342) (ntf lc), thB G2 (u * 342) (ntf la), thB G1 (u * 342) (ntf la)]) (B := [thB P 330 (pc p)]) U8.out (thH b c m (n + 1) (nZ p u (setW f w0 ⟨0, pv + 1⟩))) rfl hC hH)
      clear hH hC U8
      go_simp
      go_wp2_with fail
      refine (as_k LA.out (by omega) (Fb.row LA.out (U9.out.fb 3 rfl))).mono ?_
      rintro x w14 ⟨E1, ccE1, rfl, hR, hb⟩
      have V1 := hid (U9.out.below hb)
      have RE1 := hid hR
      clear hb hR U9
      go_simp
      go_wp2_with fail
      refine (as_k LA.out (by omega) (Fb.row LA.out (V1.out.fb 2 rfl))).mono ?_
      rintro x w15 ⟨E2_, ccE2_, rfl, hR, hb⟩
      have V2 := hid (V1.out.below hb)
      have RE2_ := hid hR
      replace RE1 := hid (RE1.out.below hb (Nat.le_refl _))
      clear hb hR V1
      go_simp
      go_wp2_with fail
      refine (same_k LA.out (by omega) RE1.out RE2_.out).mono ?_
      rintro x w16 ⟨rfl, hb⟩
      have V3 := hid (V2.out.below hb)
      clear hb V2
      go_simp
      have x1 : ((u : Int) == (u : Int)) = true := by simp
      go_wp2_with fail
      refine (as_k LC.out (by omega) (Fb.row LC.out (V3.out.fb 1 rfl))).mono ?_
      rintro x w17 ⟨E3, ccE3, rfl, hR, hb⟩
      have V4 := hid (V3.out.below hb)
      have RE3 := hid hR
      clear hb hR V3
      go_simp
      go_wp2_with fail
      refine (as_k LC.out (by omega) (Fb.row LC.out (V4.out.fb 0 rfl))).mono ?_
      rintro x w18 ⟨E4, ccE4, rfl, hR, hb⟩
      have V5 := hid (V4.out.below hb)
      have RE4 := hid hR
      replace RE3 := hid (RE3.out.below hb (Nat.le_refl _))
      clear hb hR V4
      go_simp
      go_wp2_with fail
      refine (same_k LC.out (by omega) RE3.out RE4.out).mono ?_
      rintro x w19 ⟨rfl, hb⟩
      have V6 := hid (V5.out.below hb)
      clear hb V5
      go_simp
      have f1 : w19.cell? ⟨G3, 3, none⟩ = some (.bool false) := (V6.out.fb 1 rfl).ntk 0 _ C0.out (by omega) 3 (by omega)
      have f2 : w19.cell? ⟨G3, 5, none⟩ = some (.int .i64 6) := (V6.out.fb 1 rfl).ntk 0 _ C0.out (by omega) 5 (by omega)
      have z1 : (0 : Int) < u := by omega
      have z2 : 0 < u := by omega
      have x2 : IntKind.i64.wrap ((u : Int) - 1) = (k1 : Int) := by have := HK1.out; rw [IntWalk.i64_in _ (by omega)]; omega
      have B9 := hid V6.out.bl
      go_wp2_with fail
      go_ret
      exact ⟨rfl, B9.out⟩

set_option maxRecDepth 100000 in
theorem lifted (os : Os) (started : os.Started) (H : Type) (enc : TypeId × Value → H) :
    ReturnsInHanded {} Try.checked os 10 .any (Rows.headNotesSpec.pre6 enc Try.prog Try.f10 [] false) (Rows.headNotesSpec.post enc Try.prog Try.f10 false true false false) :=
  law_step (s := Rows.headNotesSpec) started (by kernel_rfl) Try.func10
    (ChangeSpec.witness6 (s := Rows.headNotesSpec) (enc := enc) (C := Try.checked) false ⟨#[], #[.slice none 0 0, .int .i64 0, .int .i64 0], []⟩ 8 (by kernel_rfl) (by kernel_rfl) (by kernel_rfl) (by kernel_rfl))
    rfl (by rw [Try.params10]; decide +kernel) rfl Try.underlying4
    (fun ds h => by
      rw [Try.params10] at h
      match ds, h with
      | [_, _, _], _ => rfl)
    (fun W base args ds ps hval hA hsz => by
      rw [Try.params10] at hA hval hsz
      obtain ⟨v0, vs0, d0, ds0, p0, q0, hargs, rfl, rfl, h0, r0⟩ := trodAll_cons hA
      obtain ⟨v1, vs1, d1, ds1, p1, q1, rfl, rfl, rfl, h1, r1⟩ := trodAll_cons r0
      obtain ⟨v2, vs2, d2, ds2, p2, q2, rfl, rfl, rfl, h2, r2⟩ := trodAll_cons r1
      obtain ⟨rfl, rfl, rfl⟩ := trodAll_nil r2
      obtain rfl : args = #[v0, v1, v2] := by cases args; simp_all
      obtain ⟨A0, n0, c0, g0, rfl, hn0, hc0, hs0, hw0, hl0, hd0⟩ := open_row Try.underlying22 Try.underlying3 (by kernel_rfl) (hval 0 22 v0 rfl rfl) h0
      have re0 : c0 * 8 ≤ 140737488351232 := by
        rcases hd0 with ⟨_, h0⟩ | ⟨xs, ys, h1, h2⟩
        · omega
        · have := sized_slice hsz (j := 0) (t := 22) (e := 3) rfl (by rw [h1]; rfl) Try.underlying22
          rw [h2, show Try.prog.bytesOf 3 = 8 from by kernel_rfl] at this
          simpa [reachBytes] using this
      obtain ⟨a1, rfl, rfl, rfl, w1⟩ := open_int Try.underlying3 (hval 1 3 v1 rfl rfl) h1
      obtain ⟨a2, rfl, rfl, rfl, w2⟩ := open_int Try.underlying3 (hval 2 3 v2 rfl rfl) h2
      exact walk W A0 n0 c0 g0 hn0 hc0 hs0 (fun j => bounds_i64 (hw0 j)) hl0 re0 a1 (bounds_i64 w1) a2 (bounds_i64 w2))

theorem proved : Rows.HeadNotesSaid :=
  OpenClaim.holds_of_wide 10 Try.f10 rfl rfl rfl rfl rfl rfl rfl ⟨rfl, rfl, rfl, rfl, rfl⟩ rfl rfl rfl rfl rfl (by kernel_rfl) Try.func10 (by kernel_rfl)
    (of_decide_eq_true (by kernel_rfl)) (by unfold Func.isWrapper; first | (rw [if_pos (by decide +kernel)]; kernel_rfl) | (rw [if_neg (by decide +kernel)]; exact ⟨rfl, rfl⟩))
    (fun os started H enc _ => lifted os started H enc)
end Go.Proofs.Ytppcanaelagfmaa.headNotes
