/- Apply. -/
import Derived.Test.YteapnfdpkjbfhaaGreatGa
import Derived.Test.YteapnfdpkjbfhaaGreatGq
import Derived.Deep.Cut
import Derived.BigQuiet
import Derived.Deep.RegionHeld3
namespace Go.Proofs.YteapnfdpkjbfhaaGreat
set_option linter.unusedVariables false
set_option linter.unusedSimpArgs false
open Go.RowKit Go.ChangeShapes Go.WideShapes Go.ChangeAt
section
variable {P : Program} {ops : Array Oper} {rest : List Oper} {Q : Exit → Act → World → Prop} {o : Oper} {a : Act} {w : World} {v : Value}
theorem wl_id {l : List Oper} (h : wpList P ops Q l a w) : wpList P ops Q l a w := h
theorem end_then {K : Act → World → Prop} (h : K a w) : wpList P ops (Exit.then K Q) [] a w := h
theorem ret_then {K : Act → World → Prop} (h : Q .ret a w) : Exit.then K Q .ret a w := h
theorem wl_build0 {T : TypeId} (ho : o.op = .build T #[]) (hw : Region.wanted o (yielded ops a.tmps) = true) (hl : (Instr.build T #[]).run P w = .ok v w) (h : wpList P ops Q rest (a.put o.dst v) w) : wpList P ops Q (o :: rest) a w :=
 wl_val hw (by unfold execOp; simp only [ho, List.map_toArray, List.map_nil, Sem.run_bind, hl, Result.andThen_ok, Sem.run_pure]) h
end
/-- Numbers that do not go round. -/
def PB (p : Pl) : Prop := (-1152921504606846976 ≤ p.v ∧ p.v ≤ 1152921504606846976) ∧ Ep p.r.e ∧ ∀ i, i < 64 → -1152921504606846976 ≤ (p.s i).si ∧ (p.s i).si ≤ 1152921504606846976
/-- The pool behind an entry that is done. -/
def nxP (p : Pl) (e : En) : Pl := bif e.k == 6 then ⟨p.v + 1, p.a, p.p, p.s, ⟨p.r.e + 1, p.r.c, p.r.n, e.y⟩⟩ else ⟨p.v + 1, p.a, p.p, setS p.s e.s.toNat (chS p e e.s.toNat), p.r⟩
/-- What Apply tells. -/
def apR (p : Pl) (e : En) : Pl × Int := if chk e = 0 then (if refE p e e.s.toNat = 0 then (nxP p e, 0) else (zPl, refE p e e.s.toNat)) else (zPl, chk e)
theorem inR_iff {n lo hi : Int} (h : inRP n lo hi = true) : lo ≤ n ∧ n ≤ hi := by unfold inRP at h; simpa using h
theorem chk_ok {e : En} (h : chk e = 0) : 1 ≤ e.k ∧ e.k ≤ 6 ∧ 0 ≤ e.s ∧ e.s ≤ 63 ∧ (e.k = 6 → e.s = 0) := by
 rw [chk_r] at h
 cases i0 : inRP e.k 1 6
 ·rw [i0] at h; cases h
 ·cases i1 : inRP e.s 0 63
  ·rw [i0, i1] at h; cases h
  ·have a := inR_iff i0
   have b := inR_iff i1
   refine ⟨a.1, a.2, b.1, b.2, fun h6 => ?_⟩
   rw [i0, i1, h6] at h
   by_cases hs : e.s = 0
   ·exact hs
   ·have : (e.s != 0) = true := by simpa using hs
    rw [this] at h
    cases h
section
variable {w : World} {b : Nat} {p : Pl} {l : List Value}
theorem Ce.oth (h : Ce w b l) {c j : Nat} {v : Value} (hne : c ≠ b) : Ce (w.setCell ⟨c, j, none⟩ v) b l :=
 ⟨by simpa using h.1, fun i u hi => by rw [World.cell?_setCell_other _ _ _ _ (fun e => hne (by cases e; rfl))]; exact h.2.1 i u hi, fun i => by rw [World.frozen?_setCell]; exact h.2.2 i⟩
theorem size_setCells (b : Nat) : ∀ (vs : List Value) (o : Nat) (w : World), (w.setCells b o vs).heap.size = w.heap.size
 | [], _, _ => rfl
 | v :: r, o, w => by rw [World.setCells, size_setCells b r (o + 1)]; simp
theorem Ce.oths (h : Ce w b l) {c o : Nat} {vs : List Value} (hne : c ≠ b) : Ce (w.setCells c o vs) b l :=
 ⟨by rw [size_setCells]; exact h.1, fun i u hi => by rw [World.cell?_setCells_out c vs o w _ (fun e _ => absurd e.symm hne)]; exact h.2.1 i u hi, fun i => by rw [World.frozen?_setCells]; exact h.2.2 i⟩
theorem PoolAt.loadV (h : PoolAt w b p) : (loadVar 33 ⟨b, 0, none⟩).run Tryz.prog w = .ok (plV p) w := by
 refine run_loadVar_mid w b 0 33 (PL p) _ (fun j v hj => ?_) Tryz.underlying33 rfl ?_
 ·have hl : j < 330 := by
   have := (List.getElem?_eq_some_iff.1 hj).1
   rwa [pl_len] at this
  rw [pl_at p j hl] at hj
  rw [Nat.zero_add, h.2.1 j hl, hj]
 ·rw [pl_len]; kernel_rfl
theorem PoolAt.loadA (h : PoolAt w b p) : (Instr.loadAt 33 (.pointer (some ⟨b, 0, none⟩))).run Tryz.prog w = .ok (.agg (PA p)) w := h.load
theorem PoolAt.storeA (h : PoolAt w b p) (q : Pl) : (Instr.storeAt 33 (.pointer (some ⟨b, 0, none⟩)) (.agg (PA q))).run Tryz.prog w = .ok () (w.setCells b 0 (PA q).toList) := h.store q
theorem PoolAt.loadW (h : PoolAt w b p) : (loadVar 33 ⟨b, 0, none⟩).run Tryz.prog w = .ok (.agg (PA p)) w := h.loadV
theorem build_zz (w : World) : (Instr.build 33 #[]).run Tryz.prog w = .ok (.agg (PA zPl)) w := build_z w
/-- A pool that lies in memory is told. -/
theorem results_c1 {fn : Func} {r : Tmp} (h : fn.results = #[.cell r 33]) (tmps : Array Value) (hp : tmps.getD r undef = .pointer (some ⟨b, 0, none⟩)) (hA : PoolAt w b p) : (results fn tmps).run Tryz.prog w = .ok (.agg (PA p)) w := by
 have hp' : tmps[r]?.getD undef = .pointer (some ⟨b, 0, none⟩) := by simpa using hp
 simp [results, h, hp', asAddr, hA.loadW]
theorem results_c2 {fn : Func} {r q : Tmp} (h : fn.results = #[.cell r 33, .tmp q]) (tmps : Array Value) (hp : tmps.getD r undef = .pointer (some ⟨b, 0, none⟩)) {v : Value} (hq : tmps.getD q undef = v) (hA : PoolAt w b p) : (results fn tmps).run Tryz.prog w = .ok (.tuple #[.agg (PA p), v]) w := by
 have hp' : tmps[r]?.getD undef = .pointer (some ⟨b, 0, none⟩) := by simpa using hp
 have hq' : tmps[q]?.getD undef = v := by simpa using hq
 simp [results, h, hp', hq', asAddr, hA.loadW]
end
attribute [local irreducible] PA
end Go.Proofs.YteapnfdpkjbfhaaGreat
