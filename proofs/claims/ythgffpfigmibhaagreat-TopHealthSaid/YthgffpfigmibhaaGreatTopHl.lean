/- A pulse as a thing; marks. -/
import Derived.Test.YthgffpfigmibhaaGreatGa
import Derived.Test.YthgffpfigmibhaaGreatGu
import Derived.Test.YthgffpfigmibhaaGreatOrdMark
import Derived.Test.YthgffpfigmibhaaGreatOrdTw
import Derived.Test.YthgffpfigmibhaaGreatPulTold
import Derived.BigQuiet
import Derived.Deep.RegionHeld3
import Derived.Deep.Cut
import Derived.IntWalk
namespace Go.Proofs.YthgffpfigmibhaaGreat
set_option linter.unusedVariables false
set_option linter.unusedSimpArgs false
open Go.RowKit Go.ChangeShapes Go.WideShapes Go.ChangeAt
set_option maxRecDepth 100000
theorem cur_upd (M : Int → Option Life) (s : Int) (l : Life) : cur (upd M s (some l)) s = l := by simp [cur, upd]
theorem st_ft1 (r f la lo now : Int) (wh : Bool) (h : r ≤ rowUp wh lo true) : toldV r f (false, la, wh, lo) now true = 1 ∧ toldL r f (false, la, wh, lo) now true = (true, now, false, 0) := by
  simp [toldV, toldL, verd, lifeUp, h]
theorem st_tf (r f la lo now : Int) (wh : Bool) (h : rowUp wh lo false < f) : toldV r f (true, la, wh, lo) now false = 0 ∧ toldL r f (true, la, wh, lo) now false = (true, now, false, rowUp wh lo false) := by
  have h := Int.not_le.mpr h
  simp [toldV, toldL, verd, lifeUp, h]
theorem st_tf1 (r f la lo now : Int) (wh : Bool) (h : f ≤ rowUp wh lo false) : toldV r f (true, la, wh, lo) now false = 2 ∧ toldL r f (true, la, wh, lo) now false = (false, now, false, 0) := by
  simp [toldV, toldL, verd, lifeUp, h]
theorem MapAt.same {w w' : World} {b n : Nat} {M : Int → Option Life} (h : MapAt w b n M) (e : w'.heap[b]? = w.heap[b]?) : MapAt w' b n M := by
  obtain ⟨D, ⟨es, clock, hb, F⟩, h2, h3⟩ := h
  exact ⟨D, ⟨es, clock, e.trans hb, F⟩, h2, h3⟩
theorem PulseAt.same {w w' : World} {p b n : Nat} {r f e : Int} {M : Int → Option Life} (h : PulseAt w p b n r f e M) (e1 : w'.heap[p]? = w.heap[p]?) (e2 : w'.heap[b]? = w.heap[b]?) : PulseAt w' p b n r f e M :=
  ⟨⟨lt_of_same h.1.1 e1, fun j v hj => (World.cell?_of_block (a := ⟨p, j, none⟩) e1).trans (h.1.2.1 j v hj), fun j => (World.frozen?_of_block (a := ⟨p, j, none⟩) e1).trans (h.1.2.2 j)⟩, h.2.1.same e2, h.2.2⟩
/-- A pulse. -/
def thPu (P b n : Nat) (f : Int) (M : Int → Option Life) : Th := ⟨fun w => PulseAt w P b n 1 f 1 M, [P, b], fun _ _ h e => h.same (e P (by simp)) (e b (by simp)), fun _ h x hx => by
  simp at hx
  rcases hx with rfl | rfl
  · exact h.1.1
  · exact h.2.1.lt⟩
theorem told_hs {S : List Nat} {W w : World} {A B : List Th} {P b n : Nat} {f : Int} {M : Int → Option Life} (h : HS S W w (A ++ thPu P b n f M :: B)) (s now : Int) (ok : Bool) (hs : isSl s = true) (hl : 0 ≤ (cur M s).2.2.2 ∧ (cur M s).2.2.2 ≤ 1000000) (hn : n ≤ 1000000) (v : Int) (l : Life) (hv : toldV 1 f (cur M s) now ok = v) (hL : toldL 1 f (cur M s) now ok = l) :
    Calls Tryz.prog 22 #[.pointer (some ⟨P, 0, none⟩), .int .i64 s, .int .i64 now, .bool ok] w fun x w' => x = .returned (.int .i64 v) ∧ ∃ M', cur M' s = l ∧ HS S W w' (A ++ thPu P b (n + 1) f M' :: B) := by
  have hP : PulseAt w P b n 1 f 1 M := h.1 (thPu P b n f M) (by simp)
  refine (told_any hP s now ok hs hl hn).mono ?_
  rintro x w' ⟨rfl, h2, hg⟩
  rw [hL] at h2
  refine ⟨by rw [hv], _, cur_upd _ _ _, h.upd (thPu P b (n + 1) f (upd M s (some l))) rfl ⟨⟨hg.os, hg.tape, hg.output⟩, hg.size, fun k hk hm => hg.block k hk (fun e => hm (by injection e with e; subst e; simp [thPu]))⟩ h2⟩
theorem pulse_new {S : List Nat} {W w : World} {L : List Th} (h : HS S W w L) (f : Int) (hf : 1 ≤ f ∧ f ≤ 10) : Calls Tryz.prog 21 #[.int .i64 1, .int .i64 f, .int .i64 1] w fun x w' => ∃ P b : Nat, x = .returned (.tuple #[.pointer (some ⟨P, 0, none⟩), .int .i64 0]) ∧ HS S W w' (thPu P b 0 f (fun _ => none) :: L) := by
  refine (pnew_ok 1 f 1 (by decide) hf (by decide) w).mono ?_
  rintro x w' ⟨P, b, rfl, hP, h1, h2, hb⟩
  refine ⟨P, b, rfl, h.new (thPu P b 0 f (fun _ => none)) hb hP ?_ (fun x hx => ?_)⟩
  · have := hP.2.2
    simp [thPu, this]
  · simp [thPu] at hx
    rcases hx with rfl | rfl
    · exact h1
    · exact h2
theorem all_top_ (p : Pl) (g : Nat → En) (A : Option Addr) (n c : Nat) (w : World) (hA : Se w A n g) (hn : n ≤ 1000) (K : Int) (hp : Pinv p K) (hK : K ≤ 100000) (r : Pl) (hr : runP p g n = some r) : Calls Tryz.prog 18 #[.agg (FA 330 (pc p)), .slice A n c] w fun x w' => x = .returned (.tuple #[.agg (FA 330 (pc r)), .int .i64 (n : Int), .int .i64 0]) ∧ Below w.heap.size w w' := by
  refine (all_any p g A n c w hA hn K hp hK).mono ?_
  rintro x w' ⟨q, k, er, rfl, h, hb⟩
  obtain ⟨rfl, rfl, rfl⟩ := all_run hr h
  exact ⟨rfl, hb⟩
theorem mark_top (p : Pl) (s v : Int) (w : World) : Calls Tryz.prog 23 #[.agg (FA 330 (pc p)), .int .i64 s, .int .i64 v] w (Ls1 w (mrkL p s v)) := mark_any p s v w
theorem mrk_nil (p : Pl) (c : Nat) : mrkL p (c : Int) 0 = [] := mrk_no (by decide) (by decide)
theorem mrk_dn {p : Pl} {c : Nat} (hc : c < 64) (h2 : (p.s c).st = 2) : mrkL p (c : Int) 2 = [⟨3, (c : Int), 0, 0, 0, zKy⟩] := by
  unfold mrkL
  rw [if_neg (by omega), if_neg (by omega), if_pos ⟨rfl, by rw [Int.toNat_natCast]; exact h2⟩]
def dnP (p : Pl) (c : Nat) : Pl := (apR p ⟨3, (c : Int), 0, 0, 0, zKy⟩).1
theorem dn_run {p : Pl} {c : Nat} (hc : c < 64) (h2 : (p.s c).st = 2) : (apR p ⟨3, (c : Int), 0, 0, 0, zKy⟩).2 = 0 ∧ ((dnP p c).s c).st = 3 := by
  have h := drain_ap hc h2
  unfold dnP
  rw [h]
  exact ⟨rfl, drain_st⟩
theorem whl_not_ {p : Pl} {c : Nat} (h : (p.s c).st ≠ 2) : cnW (whlW p) (c : Int) 127 = 0 := by
  refine cn_no _ _ (fun j hj => ?_)
  rcases whl_bd (p := p) hj with e | ⟨i, _, h2, e⟩
  · rw [e]; omega
  · rw [e]
    intro e2
    have : i = c := by omega
    subst this
    exact h h2
theorem ow_allocS {S : List Nat} {W w : World} {L : List Th} {Q : Exit → Act → World → Prop} {o : Oper} {a : Act} {K : Act → World → Prop} {T : TypeId} {n : Nat} {f : Nat → Value} (ho : o.op = .alloc T) (hz : (zeroValue T).run Tryz.prog w = .ok (.agg (FA n f)) w) (hn : 0 < n) (hS : HS S W w L)
    (h : ∀ U w', HS S W w' (thB U n f :: L) → Below w.heap.size w w' → K (a.put o.dst (.pointer (some ⟨U, 0, none⟩))) w') : o.wp Tryz.prog a w K Q :=
  have hb : Below w.heap.size w (w.alloc (.cells (FA n f) T)) := (Below.refl _ _).alloc (Nat.le_refl _) _
  ow_val (ex_alloc ho hz hn) (h _ _ (hS.new (thB w.heap.size n f) hb (Fb.made rfl) (by simp [thB]) (fun b hb => by simp [thB] at hb; omega)) hb)
theorem isSl_c {c : Nat} (hc : c < 64) : isSl (c : Int) = true := by unfold isSl; simp; omega
end Go.Proofs.YthgffpfigmibhaaGreat
