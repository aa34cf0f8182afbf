/- clone. -/
import Derived.Test.YtjljaecjnpmdoaaWirNum
import Derived.Laws.CopyOwn
import Derived.Laws.OwnMore
import Derived.BigQuiet
import Derived.Deep.RegionHeld3
import Derived.Deep.Cut
namespace Go.Proofs.Ytjljaecjnpmdoaa
set_option linter.unusedVariables false
set_option linter.unusedSimpArgs false
open Go.RowKit Go.ChangeShapes Go.WideShapes Go.ChangeAt

section
variable {w : World} {ops : Array Oper} {rest : List Oper} {o : Oper} {a : Act} {Q : Exit → Act → World → Prop}
/-- make([]byte, n). -/
theorem wp_make_b (hgd : o.guard = none) (l c : Operand) (ho : o.op = .makeSlice 23 l c) (base n : Nat) (L C : Int) (hl : a.eval l = .int .i64 L) (hc : a.eval c = .int .i64 C) (hL : L = n) (hC : C = n) (hsz : n ≤ 140737488355328) (hbase : base ≤ w.heap.size)
    (h : ∀ w', Ow w' base 5 1 (.slice (some ⟨w.heap.size, 0, none⟩) n n) n (fun _ => .int .u8 0) → Below base w w' → wpList Try.prog ops Q rest (a.put o.dst (.slice (some ⟨w.heap.size, 0, none⟩) n n)) w') : wpList Try.prog ops Q (o :: rest) a w := by
  obtain ⟨i0, hi, hz0, hz1, hz2⟩ := info_parts info_u8
  refine wpList_make_full w hgd l c _ ho base 5 i0 (.int .u8 0) 1 Try.underlying23 hi hz0 hz1 .i64 .i64 L C n hl hc hL hC (by rw [hz2]; omega) (by simp only [maxLen]; omega) hbase ?_
  intro w' h1 h2
  refine h w' ?_ (Ow.below_ (v := .slice none 0 0) (Ow.none_ (w := w) (B := base) (e := 5) (size := 1) (f := fun _ => .int .u8 0)) h2 hbase)
  have e : (madeCells (Value.int .u8 0).cells (n * 1)).toList = (List.range (n * 1)).map (fun _ => Value.int .u8 0) := by
    rw [show (Value.int .u8 0).cells = #[Value.int .u8 0] from rfl, toList_madeCells_one]
    simp [List.map_const']
  rw [e] at h1
  exact h1
end
theorem OB.cells {w : World} {B G n c : Nat} {g : Nat → Int} (h : OB w B (.slice (some ⟨G, 0, none⟩) n c) n g) (hc : c = n) : w.heap[G]? = some (.cells ((List.range n).map (fun j => Value.int .u8 (g j))).toArray 5 (0, 0)) := by
  subst hc
  rcases h.2 with ⟨h0, _⟩ | ⟨g', cap, cur, hv, _, hh, _, _, hs, ht⟩
  · cases h0
  · injection hv with hA _ hcap
    injection hA with hA
    injection hA with hA _ _
    subst hA
    subst hcap
    rw [hh]
    have : cur.toList = (List.range (c * 1)).map (fun j => Value.int .u8 (g j)) := by
      rw [← ht, List.take_of_length_le (by simp [hs])]
    rw [Nat.mul_one] at this
    rw [← this]
theorem OB.of_cells {w : World} {B G n : Nat} {g : Nat → Int} (hB : B ≤ G) (hn : n ≤ maxLen) (h : w.heap[G]? = some (.cells ((List.range n).map (fun j => Value.int .u8 (g j))).toArray 5 (0, 0))) : OB w B (.slice (some ⟨G, 0, none⟩) n n) n g :=
  ⟨by simp, .inr ⟨G, n, _, rfl, hB, h, Nat.le_refl _, hn, by simp, by rw [List.take_of_length_le (by simp)]; simp⟩⟩
theorem copy_src {w1 : World} {A : Option Addr} {n : Nat} {g : Nat → Int} (G : Nat) (hs : By w1 A n g) : 0 < ((List.range n).map (fun j => Value.int .u8 (g j))).length → some (⟨G, 0, none⟩ : Addr) = some ⟨G, 0, none⟩ ∧ ∃ ad, A = some ad ∧ ∀ j v, ((List.range n).map (fun j => Value.int .u8 (g j)))[j]? = some v → w1.cell? (ad.add j) = some v := by
  intro h0
  obtain ⟨b, off, rfl, hlt, hcell⟩ := hs (by simpa using h0)
  refine ⟨rfl, _, rfl, fun j v hj => ?_⟩
  have hjn : j < n := by
    rcases Nat.lt_or_ge j n with h1 | h1
    · exact h1
    · simp [Nat.not_lt.2 h1] at hj
  simp [hjn] at hj
  subst hj
  rw [add_plain]
  exact hcell j hjn
theorem one_bytes (n : Nat) (g : Nat → Int) : ∀ v ∈ (List.range n).map (fun j => Value.int .u8 (g j)), v.oneCell' = true := fun v hv => by obtain ⟨j, _, rfl⟩ := List.mem_map.1 hv; rfl
theorem fit_bytes (n : Nat) (g : Nat → Int) : 0 + ((List.range n).map (fun j => Value.int .u8 (g j))).length ≤ ((List.range n).map (fun _ => Value.int .u8 0)).length := by simp
theorem len_bytes (n : Nat) (g : Nat → Int) : ((List.range n).map (fun j => Value.int .u8 (g j))).length = Nat.min n n := by rw [List.length_map, List.length_range]; exact (Nat.min_self n).symm
/-- What clone tells: a row of its own with the same bytes. -/
def Cloned (w : World) (n : Nat) (g : Nat → Int) (e : Ending) (w' : World) : Prop := ∃ G : Nat, e = .returned (.slice (some ⟨G, 0, none⟩) n n) ∧ w.heap.size ≤ G ∧ OB w' w.heap.size (.slice (some ⟨G, 0, none⟩) n n) n g ∧ Below w.heap.size w w'
set_option maxHeartbeats 4000000 in
theorem clone_any (A : Option Addr) (n c : Nat) (g : Nat → Int) (w : World) (h : By w A n g) (hn : n ≤ 1000000) :
    Calls Try.prog 48 #[.slice A n c] w (Cloned w n g) := by
  go_enter Try.func48, Try.ntmps48
  have HSC := hid (fun (w1 : World) (hb1 : Below w.heap.size w w1) => copy_src (w1 := w1) w.heap.size (h.below hb1 (Nat.le_refl _)))
  clear h
  go_wp2_with (first
    | (at_make; refine wp_make_b rfl (.tmp 5) (.tmp 5) rfl w.heap.size n _ _ rfl rfl rfl rfl (by omega) (Nat.le_refl _) ?_; intro w1 O1 hb1; have HG := hid (OB.cells O1 rfl); have SC := hid (HSC.out w1 hb1); have B1 := hid hb1; clear O1 hb1)
    | (with_reducible refine wpList_copy_splice rfl (.tmp 7) (.tmp 8) 23 23 rfl 5 Try.underlying23 (by kernel_rfl) (some ⟨w.heap.size, 0, none⟩) A n n n c rfl rfl w.heap.size 0 _ 5 HG.out ((List.range n).map (fun j => Value.int .u8 (g j))) (len_bytes n g) SC.out (fit_bytes n g) (one_bytes n g) w.heap.size w B1.out (Nat.le_refl _) ?_; intro w2 hh hb2))
  go_ret
  refine ⟨w.heap.size, rfl, Nat.le_refl _, OB.of_cells (Nat.le_refl _) (by simp only [maxLen]; omega) ?_, hb2⟩
  have := hh.out
  rw [this]
  congr 3
  unfold splice
  simp
end Go.Proofs.Ytjljaecjnpmdoaa
