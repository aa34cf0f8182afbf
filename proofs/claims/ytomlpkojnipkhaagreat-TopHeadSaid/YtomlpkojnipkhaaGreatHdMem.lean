/- A head in memory; notes. -/
import Derived.Test.YtomlpkojnipkhaaGreatGa
import Derived.Test.YtomlpkojnipkhaaGreatHdMath
import Derived.Test.YtomlpkojnipkhaaGreatGt
import Derived.Test.YtomlpkojnipkhaaGreatSel
import Derived.Conc.LoneSelectN
namespace Go.Proofs.YtomlpkojnipkhaaGreat
set_option linter.unusedVariables false
set_option linter.unusedSimpArgs false
open Go.RowKit Go.ChangeShapes Go.WideShapes Go.ChangeAt

/-- The cells of a note. -/
def ntc (n : Nt) (j : Nat) : Value := if j < 12 then (match j with | 0 => .int .i64 n.u | 1 => .int .i64 n.b | 2 => .int .i64 n.v | 3 => .bool n.wh | 4 => .bool n.ak | _ => enc n.e (j - 5)) else pc n.p (j - 12)
def NA (n : Nt) : Array Value := FA 342 (ntc n)
def zNt : Nt := ⟨0, 0, 0, false, false, zEn, zPl⟩
theorem ntc_one (n : Nt) (j : Nat) : (ntc n j).oneCell' = true := by
  unfold ntc
  split
  · split
    · rfl
    · rfl
    · rfl
    · rfl
    · rfl
    · exact enc_one _ _
  · exact pc_one _ _
theorem na_size (n : Nt) : (NA n).size = 342 := fa_size _ _
theorem zero_nt (w : World) : (zeroValue 90).run Tryz.prog w = .ok (.agg (NA zNt)) w := by kernel_rfl
theorem info_nt : (Tryz.prog.info? 90).map (·.size) = some 342 := by kernel_rfl
/-- The cells of a head. -/
def hdc (p a : Pl) (c : Nat) (l : En) (u : Int) (m : Nat) (j : Nat) : Value :=
  if j < 330 then pc p j else if j < 660 then pc a (j - 330) else if j = 660 then .chan (some c) else if j < 668 then enc l (j - 661) else if j = 668 then .int .i64 u else .map (some m)
def HA (p a : Pl) (c : Nat) (l : En) (u : Int) (m : Nat) : Array Value := FA 670 (hdc p a c l u m)
theorem build_hd (p a : Pl) (c : Nat) (u : Int) (m : Nat) (w : World) : (Instr.build 187 #[(0, .agg (PA p)), (1, .agg (PA a)), (2, .chan (some c)), (4, .int .i64 u), (5, .map (some m))]).run Tryz.prog w = .ok (.agg (HA p a c zEn u m)) w := run_build w _ _ _ (by kernel_rfl)
theorem build_nt3 (u b v : Int) (w : World) : (Instr.build 90 #[(0, .int .i64 u), (1, .int .i64 b), (2, .int .i64 v)]).run Tryz.prog w = .ok (.agg (NA ⟨u, b, v, false, false, zEn, zPl⟩)) w := run_build w _ _ _ (by kernel_rfl)
/-- A head at block b, its channel at c, its map at m, in which at most n words were laid. -/
def HeadAt (w : World) (b c m n : Nat) (h : Hd) : Prop :=
  Fb w b 670 (hdc h.pl h.ah c h.la h.un m) ∧ (∃ s r, w.heap[c]? = some (.chan 200 (h.q.map enV).toArray false s r false)) ∧ (∃ M, HMap w m n M ∧ ∀ i : Nat, i < h.un → M i = some (h.wd i)) ∧ b ≠ c ∧ b ≠ m ∧ c ≠ m
section
variable {w w' : World} {b c m n : Nat} {h : Hd} {S : List Nat}
theorem chan_lt {c cap s r : Nat} {buf : Array Value} {cl tm : Bool} (h : w.heap[c]? = some (.chan cap buf cl s r tm)) : c < w.heap.size := by
  rcases Nat.lt_or_ge c w.heap.size with h2 | h2
  · exact h2
  · rw [Array.getElem?_eq_none h2] at h; cases h
theorem HMap.same {b n : Nat} {M : Int → Option Wd} (h : HMap w b n M) (e : w'.heap[b]? = w.heap[b]?) : HMap w' b n M := by
  obtain ⟨D, ⟨es, clock, hb, F⟩, h2, h3⟩ := h
  exact ⟨D, ⟨es, clock, e.trans hb, F⟩, h2, h3⟩
theorem HeadAt.ch (hH : HeadAt w b c m n h) (hc : Ch S w w') (h1 : b ∉ S) (h2 : c ∉ S) (h3 : m ∉ S) : HeadAt w' b c m n h := by
  obtain ⟨hF, ⟨s, r, hC⟩, ⟨M, hM, hMw⟩, n1, n2, n3⟩ := hH
  exact ⟨hc.fb hF h1, ⟨s, r, (hc.2.2 c (chan_lt hC) h2).trans hC⟩, ⟨M, hM.same (hc.2.2 m hM.lt h3), hMw⟩, n1, n2, n3⟩
theorem HeadAt.same (hH : HeadAt w b c m n h) (e1 : w'.heap[b]? = w.heap[b]?) (e2 : w'.heap[c]? = w.heap[c]?) (e3 : w'.heap[m]? = w.heap[m]?) : HeadAt w' b c m n h := by
  obtain ⟨hF, ⟨s, r, hC⟩, ⟨M, hM, hMw⟩, n1, n2, n3⟩ := hH
  exact ⟨hF.same e1, ⟨s, r, e2.trans hC⟩, ⟨M, hM.same e3, hMw⟩, n1, n2, n3⟩
theorem HeadAt.below (hH : HeadAt w b c m n h) (hb : Below w.heap.size w w') : HeadAt w' b c m n h := hH.ch (S := []) (.of_below hb) (by simp) (by simp) (by simp)
theorem HeadAt.alloc (hH : HeadAt w b c m n h) (o : Obj) : HeadAt (w.alloc o) b c m n h := hH.below ((Below.refl _ _).alloc (Nat.le_refl _) o)
theorem HeadAt.drewN (hH : HeadAt w b c m n h) (k : Nat) : HeadAt (w.drewN k) b c m n h := hH
theorem HeadAt.drew (hH : HeadAt w b c m n h) : HeadAt w.drew b c m n h := hH
theorem HeadAt.fb (hH : HeadAt w b c m n h) : Fb w b 670 (hdc h.pl h.ah c h.la h.un m) := hH.1
theorem HeadAt.pool (hH : HeadAt w b c m n h) : PoolAt w b h.pl := by
  refine ⟨hH.1.1, fun j hj => ?_, hH.1.2.2⟩
  rw [hH.1.2.1 j (by omega)]
  unfold hdc
  rw [if_pos hj]
theorem HeadAt.c0 (hH : HeadAt w b c m n h) : w.cell? ⟨b, 0, none⟩ = some (.int .i64 h.pl.v) := hH.pool.c0
theorem HeadAt.c660 (hH : HeadAt w b c m n h) : w.cell? ⟨b, 660, none⟩ = some (.chan (some c)) := hH.1.2.1 660 (by omega)
theorem HeadAt.c661 (hH : HeadAt w b c m n h) : w.cell? ⟨b, 661, none⟩ = some (.int .i64 h.la.k) := hH.1.2.1 661 (by omega)
theorem HeadAt.c668 (hH : HeadAt w b c m n h) : w.cell? ⟨b, 668, none⟩ = some (.int .i64 h.un) := hH.1.2.1 668 (by omega)
theorem HeadAt.c669 (hH : HeadAt w b c m n h) : w.cell? ⟨b, 669, none⟩ = some (.map (some m)) := hH.1.2.1 669 (by omega)
theorem HeadAt.lt (hH : HeadAt w b c m n h) : b < w.heap.size := hH.1.1
theorem HeadAt.ltc (hH : HeadAt w b c m n h) : c < w.heap.size := by obtain ⟨s, r, hC⟩ := hH.2.1; exact chan_lt hC
theorem HeadAt.ltm (hH : HeadAt w b c m n h) : m < w.heap.size := by obtain ⟨M, hM, _⟩ := hH.2.2.1; exact hM.lt
theorem HeadAt.loadP (hH : HeadAt w b c m n h) : (Instr.loadAt 33 (.pointer (some ⟨b, 0, none⟩))).run Tryz.prog w = .ok (.agg (PA h.pl)) w := hH.pool.loadA
theorem HeadAt.loadH (hH : HeadAt w b c m n h) : (Instr.loadAt 33 (.pointer (some ⟨b, 330, none⟩))).run Tryz.prog w = .ok (.agg (PA h.ah)) w :=
  hH.1.load 330 330 (pc h.ah) (by omega) (fun j hj => by unfold hdc; rw [if_neg (by omega), if_pos (by omega), show 330 + j - 330 = j by omega]) Tryz.underlying33 rfl (by kernel_rfl)
theorem HeadAt.loadL (hH : HeadAt w b c m n h) : (Instr.loadAt 79 (.pointer (some ⟨b, 661, none⟩))).run Tryz.prog w = .ok (enV h.la) w :=
  hH.1.load 661 7 (enc h.la) (by omega) (fun j hj => by unfold hdc; rw [if_neg (by omega), if_neg (by omega), if_neg (by omega), if_pos (by omega), show 661 + j - 661 = j by omega]) Tryz.underlying79 rfl (by kernel_rfl)
theorem HeadAt.look (hH : HeadAt w b c m n h) (i : Nat) (hi : i < h.un) (hu : h.un ≤ 1000) : (Instr.lookup 185 (.map (some m)) (.int .i64 (i : Int)) false).run Tryz.prog w = .ok (wdV (h.wd i)) w := by
  obtain ⟨M, hM, hMw⟩ := hH.2.2.1
  have := hM.look Tryz.underlying185 (zero_wd w) (s := (i : Int)) ⟨by omega, by omega⟩
  rw [hMw i hi] at this
  exact this
end
theorem hd_pool (p a : Pl) (c : Nat) (l : En) (u : Int) (m : Nat) (q : Pl) (j : Nat) (hj : j < 670) : patch (hdc p a c l u m) 0 330 (pc q) j = hdc q a c l u m j := by
  unfold patch hdc
  by_cases h : j < 330
  · rw [if_pos ⟨by omega, by omega⟩, if_pos h]; rfl
  · rw [if_neg (by omega), if_neg h, if_neg h]
theorem hd_ahead (p a : Pl) (c : Nat) (l : En) (u : Int) (m : Nat) (q : Pl) (j : Nat) (hj : j < 670) : patch (hdc p a c l u m) 330 330 (pc q) j = hdc p q c l u m j := by
  unfold patch hdc
  by_cases h : j < 330
  · rw [if_neg (by omega), if_pos h, if_pos h]
  · by_cases h2 : j < 660
    · rw [if_pos ⟨by omega, by omega⟩, if_neg h, if_pos h2]
    · rw [if_neg (by omega), if_neg h, if_neg h, if_neg h2, if_neg h2]
theorem hd_last (p a : Pl) (c : Nat) (l : En) (u : Int) (m : Nat) (e : En) (j : Nat) (hj : j < 670) : patch (hdc p a c l u m) 661 7 (enc e) j = hdc p a c e u m j := by
  unfold patch hdc
  by_cases h : j < 330
  · rw [if_neg (by omega), if_pos h, if_pos h]
  · by_cases h2 : j < 660
    · rw [if_neg (by omega), if_neg h, if_neg h, if_pos h2, if_pos h2]
    · by_cases h3 : j = 660
      · rw [if_neg (by omega), if_neg h, if_neg h, if_neg h2, if_neg h2, if_pos h3, if_pos h3]
      · by_cases h4 : j < 668
        · rw [if_pos ⟨by omega, by omega⟩, if_neg h, if_neg h2, if_neg h3, if_pos h4]
        · rw [if_neg (by omega), if_neg h, if_neg h, if_neg h2, if_neg h2, if_neg h3, if_neg h3, if_neg h4, if_neg h4]
/-- A row of notes of the call's own. -/
def ntf (l : List Nt) (j : Nat) : Value := ntc (l.getD (j / 342) zNt) (j % 342)
def OwN (w : World) (B : Nat) (v : Value) (l : List Nt) : Prop := Ow w B 90 342 v l.length (ntf l)
end Go.Proofs.YtomlpkojnipkhaaGreat

