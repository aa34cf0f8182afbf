/- What stays true of pools; rows of entries. All of the package. -/
import Derived.Test.YtlfionfnpieoiaaGreatPolApp4
import Derived.Test.YtlfionfnpieoiaaGreatGf
import Derived.BigQuiet
import Derived.Deep.RegionHeld3
import Derived.Deep.Cut
namespace Go.Proofs.YtlfionfnpieoiaaGreat
set_option linter.unusedVariables false
set_option linter.unusedSimpArgs false
open Go.RowKit Go.ChangeShapes Go.WideShapes Go.ChangeAt
/-- Numbers stay small, states are states. -/
def Pinv (p : Pl) (K : Int) : Prop := (0 ≤ p.v ∧ p.v ≤ K) ∧ (1 ≤ p.r.e ∧ p.r.e ≤ K + 1) ∧ ∀ i, i < 64 → (0 ≤ (p.s i).si ∧ (p.s i).si ≤ K + 1) ∧ 0 ≤ (p.s i).st ∧ (p.s i).st ≤ 4
theorem Pinv.pb {p : Pl} {K : Int} (h : Pinv p K) (hK : K ≤ 1000000) : PB p := by
 obtain ⟨⟨a, b⟩, ⟨c, d⟩, e⟩ := h
 refine ⟨⟨by omega, by omega⟩, ⟨by omega, by omega⟩, fun i hi => ?_⟩
 obtain ⟨⟨f, g⟩, _⟩ := e i hi
 omega
theorem Pinv.st {p : Pl} {K : Int} (h : Pinv p K) : StI p := fun i hi => (h.2.2 i hi).2
theorem Pinv.mono {p : Pl} {K L : Int} (h : Pinv p K) (hl : K ≤ L) : Pinv p L := by
 obtain ⟨⟨a, b⟩, ⟨c, d⟩, e⟩ := h
 refine ⟨⟨a, by omega⟩, ⟨c, by omega⟩, fun i hi => ?_⟩
 obtain ⟨⟨f, g⟩, k⟩ := e i hi
 exact ⟨⟨f, by omega⟩, k⟩
theorem apR_ok {p : Pl} {e : En} (h : (apR p e).2 = 0) : chk e = 0 ∧ refE p e e.s.toNat = 0 ∧ (apR p e).1 = nxP p e := by
 unfold apR at h ⊢
 by_cases hc : chk e = 0
 ·rw [if_pos hc] at h ⊢
  by_cases hr : refE p e e.s.toNat = 0
  ·rw [if_pos hr]; exact ⟨hc, hr, rfl⟩
  ·rw [if_neg hr] at h; exact absurd h hr
 ·rw [if_neg hc] at h; exact absurd h hc
theorem chS_inv {p : Pl} {K : Int} (h : Pinv p K) (e : En) (i : Nat) (hi : i < 64) : (0 ≤ (chS p e i).si ∧ (chS p e i).si ≤ K + 1) ∧ 0 ≤ (chS p e i).st ∧ (chS p e i).st ≤ 4 := by
 obtain ⟨⟨a, b⟩, ⟨c, d⟩, f⟩ := h
 obtain ⟨⟨f1, f2⟩, f3, f4⟩ := f i hi
 unfold chS
 cases (e.k == 1)
 ·cases (e.k == 2)
  ·cases (e.k == 3)
   ·cases (e.k == 4)
    ·cases (e.k == 5)
     ·exact ⟨⟨f1, f2⟩, f3, f4⟩
     ·simp only [cond_false, cond_true, zSp]; omega
    ·simp only [cond_false, cond_true]; omega
   ·simp only [cond_false, cond_true]; omega
  ·simp only [cond_false, cond_true]; omega
 ·simp only [cond_true]; omega
theorem nxP_inv {p : Pl} {K : Int} (h : Pinv p K) (e : En) (hs : e.s.toNat < 64) : Pinv (nxP p e) (K + 1) := by
 have hC := chS_inv h e e.s.toNat hs
 obtain ⟨⟨a, b⟩, ⟨c, d⟩, f⟩ := h
 unfold nxP
 cases (e.k == 6)
 ·refine ⟨⟨by simp only [cond_false]; omega, by simp only [cond_false]; omega⟩, ⟨by simp only [cond_false]; omega, by simp only [cond_false]; omega⟩, fun i hi => ?_⟩
  simp only [cond_false, setS]
  by_cases he : i = e.s.toNat
  ·rw [if_pos he]; omega
  ·rw [if_neg he]
   have := f i hi
   omega
 ·refine ⟨⟨by simp only [cond_true]; omega, by simp only [cond_true]; omega⟩, ⟨by simp only [cond_true]; omega, by simp only [cond_true]; omega⟩, fun i hi => ?_⟩
  simp only [cond_true]
  have := f i hi
  omega
theorem apR_inv {p : Pl} {K : Int} (h : Pinv p K) {e : En} (h0 : (apR p e).2 = 0) : Pinv (apR p e).1 (K + 1) := by
 obtain ⟨hc, _, h1⟩ := apR_ok h0
 obtain ⟨_, _, s0, s1, _⟩ := chk_ok hc
 rw [h1]
 exact nxP_inv h e (by omega)
/-- So many entries are done, one behind the other: the pool behind them. -/
def runP (p : Pl) (g : Nat → En) : Nat → Option Pl
 | 0 => some p
 | k + 1 => match runP p g k with
   | none => none
   | some q => if (apR q (g k)).2 = 0 then some (apR q (g k)).1 else none
/-- What All tells. -/
def AllOut (p : Pl) (g : Nat → En) (n : Nat) (q : Pl) (k : Nat) (er : Int) : Prop := runP p g k = some q ∧ (k = n ∧ er = 0 ∨ k < n ∧ er = (apR q (g k)).2 ∧ er ≠ 0)
def enc (e : En) (k : Nat) : Value := match k with | 0 => .int .i64 e.k | 1 => .int .i64 e.s | 2 => .int .i64 e.a | 3 => .int .i64 e.p | 4 => .int .i64 e.w | 5 => .int .u64 e.y.a | _ => .int .u64 e.y.b
/-- A row of entries. -/
def Se (w : World) (A : Option Addr) (n : Nat) (g : Nat → En) : Prop := Sl w A (n * 7) (fun j => enc (g (j / 7)) (j % 7))
theorem Se.below {w w' : World} {A : Option Addr} {n : Nat} {g : Nat → En} {B : Nat} (h : Se w A n g) (hb : Below B w w') (hB : w.heap.size ≤ B) : Se w' A n g := Sl.below h hb hB
theorem Se.load {w : World} {b off n : Nat} {g : Nat → En} (h : Se w (some ⟨b, off, none⟩) n g) (k : Nat) (hk : k < n) : (Instr.loadAt 55 (.pointer (some ⟨b, off + k * 7, none⟩))).run Tryz.prog w = .ok (enV (g k)) w := by
 refine run_loadAt_mid w b (off + k * 7) 55 [.int .i64 (g k).k, .int .i64 (g k).s, .int .i64 (g k).a, .int .i64 (g k).p, .int .i64 (g k).w, .int .u64 (g k).y.a, .int .u64 (g k).y.b] _ (fun j v hj => ?_) Tryz.underlying55 rfl (by kernel_rfl)
 have hl : j < 7 := (List.getElem?_eq_some_iff.1 hj).1
 have := Sl.at_ h (j := k * 7 + j) (by omega)
 rw [show (k * 7 + j) / 7 = k by omega, show (k * 7 + j) % 7 = j by omega] at this
 rw [Nat.add_assoc, this, ← hj]
 rcases j with _ | _ | _ | _ | _ | _ | _ | j
 ·rfl
 ·rfl
 ·rfl
 ·rfl
 ·rfl
 ·rfl
 ·rfl
 ·omega
end Go.Proofs.YtlfionfnpieoiaaGreat
namespace Go.Proofs.YtlfionfnpieoiaaGreat
set_option linter.unusedVariables false
set_option linter.unusedSimpArgs false
open Go.RowKit Go.ChangeShapes Go.WideShapes Go.ChangeAt
theorem ret_block {l : Nat} {Q : Exit → Act → World → Prop} {a : Act} {w : World} (h : Q .ret a w) : Exit.inBlock l Q .ret a w := h
attribute [local irreducible] PA
end Go.Proofs.YtlfionfnpieoiaaGreat
