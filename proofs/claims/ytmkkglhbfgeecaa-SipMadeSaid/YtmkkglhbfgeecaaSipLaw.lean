/- The laws' helper known, of chapter 2. -/
import Derived.Test.YtmkkglhbfgeecaaSipMake
import Derived.Test.YtmkkglhbfgeecaaWithin
import Derived.Deep.RegionHeld3
namespace Go.Proofs.Ytmkkglhbfgeecaa
set_option linter.unusedVariables false
open Go.RowKit Go.ChangeShapes Go.WideShapes Go.ChangeAt

theorem re_u64 {P : Program} {F : FuncId} {args : Array Value} {w : World} {R : World → Prop} {a b : Int} (h : Calls P F args w fun e w' => e = .returned (.int .u64 a) ∧ R w') (he : a = b) :
    Calls P F args w fun e w' => e = .returned (.int .u64 b) ∧ R w' := by subst he; exact h
theorem then_ {w a b : World} (h : Below w.heap.size w a) (k : Below a.heap.size a b) : Below w.heap.size w b := h.trans (k.mono h.size)
/-- A key lies in block K. -/
def KeyIn (w : World) (K : Nat) (a b : Int) : Prop := w.cell? ⟨K, 0, none⟩ = some (.int .u64 a) ∧ w.cell? ⟨K, 1, none⟩ = some (.int .u64 b) ∧ K < w.heap.size
theorem KeyIn.below {w w' : World} {K : Nat} {a b : Int} (h : KeyIn w K a b) (hb : Below w.heap.size w w') : KeyIn w' K a b :=
  ⟨(hb.cell (p := ⟨K, 0, none⟩) h.2.2).trans h.1, (hb.cell (p := ⟨K, 1, none⟩) h.2.2).trans h.2.1, Nat.lt_of_lt_of_le h.2.2 hb.size⟩
theorem KeyIn.made {w : World} {a b : Int} {T : TypeId} : KeyIn (w.alloc (.cells #[.int .u64 a, .int .u64 b] T)) w.heap.size a b :=
  ⟨by rw [cell_of_row _ _ _ _ _ _ (heap_alloc_new w _)]; rfl, by rw [cell_of_row _ _ _ _ _ _ (heap_alloc_new w _)]; rfl, by simp⟩

/-- 0, 1, 2 .. as bytes. -/
def idb (j : Nat) : Int := ((j % 256 : Nat) : Int)
theorem idb_b : IsB idb := fun j => by unfold idb; omega
theorem known15 : sumB (num idb 8) (num (fun j => idb (8 + j)) 8) idb 15 = 11613035633349379557 := by decide +kernel
theorem known0 : sumB (num idb 8) (num (fun j => idb (8 + j)) 8) (fun _ => 0) 0 = 8246050544436514353 := by decide +kernel

set_option maxRecDepth 100000 in
theorem known_any (w : World) : Calls Try.prog 5 #[] w fun e w' => e = .returned (.bool true) ∧ Below w.heap.size w w' := by
  go_enter Try.func5, Try.ntmps5
  go_wp2_with fail
  go_loopw [1, 2] (fun r j wr => ∃ (q : Nat) (A2 : Option Addr) (c2 : Nat), q ≤ 16 ∧ j = .int .i64 q ∧ r = .slice A2 q c2 ∧ q ≤ c2 ∧ Below w.heap.size w wr ∧ Ow wr w.heap.size 5 1 (.slice A2 q c2) q (fun q => .int .u8 (idb q)))
    (fun _ j _ => 16 - (intOf j).toNat)
  case atStart => exact ⟨0, none, 0, by omega, rfl, rfl, by omega, Below.refl _ _, Ow.none_⟩
  case round =>
    obtain ⟨q, A2, c2, hq, rfl, rfl, hc2, hb2, hO2⟩ := hrel
    by_cases hq8 : q < 16
    · have i2 : (q : Int) < 16 := by omega
      go_wp2_with (at_builtin
                   refine wp_app_b rfl (.tmp 9) (.tmp 12) rfl w.heap.size (.slice A2 q c2) q idb rfl (hO2.alloc _) (some ⟨wr.heap.size, 0, none⟩) 1 1 (fun j => [(q : Int)].getD j 0) rfl (row_at .u8 [(q : Int)] rfl) (by omega) (by have := hb2.size; simp; omega) ?_
                   intro A3 c3 w3 o3 hc3 hm3 hb3 hg3 ho3)
      have hb4 : Below w.heap.size w w3 := (hb2.alloc hb2.size _).trans hb3
      go_roundw
      case rel => exact ⟨q + 1, A3, c3, by omega, by go_num, rfl, hc3, hb4, o3.as_ fun j hj => by
        show Value.int .u8 _ = Value.int .u8 _
        congr 1
        split
        · rfl
        · rw [show j = q from by omega]; simp [idb]; omega⟩
      case measure => simp [intOf]; omega
    · have e : q = 16 := by omega
      subst e
      have i2 : ¬ ((16 : Nat) : Int) < 16 := by omega
      have SB := hO2.sl1
      clear hO2
      go_wp2_with fail
      refine (make_is A2 c2 idb _ SB idb_b hc2).mono ?_
      rintro e w3 ⟨rfl, hb3⟩
      have SB3 := (SB.below hb3 (Nat.le_refl _)).less (show 15 ≤ 16 by omega)
      unfold keyV
      go_wp2_with fail
      have K4 := KeyIn.made (w := w3) (a := num idb 8) (b := num (fun j => idb (8 + j)) 8) (T := 26)
      have SB4 := SB3.alloc (.cells #[.int .u64 (num idb 8), .int .u64 (num (fun j => idb (8 + j)) 8)] 26)
      have hb4 : Below w.heap.size w (w3.alloc (.cells #[.int .u64 (num idb 8), .int .u64 (num (fun j => idb (8 + j)) 8)] 26)) := (hb2.trans (hb3.mono hb2.size)).alloc (hb2.trans (hb3.mono hb2.size)).size _
      generalize w3.alloc (.cells #[.int .u64 (num idb 8), .int .u64 (num (fun j => idb (8 + j)) 8)] 26) = w4 at *
      generalize w3.heap.size = K at *
      have e1 := hid known15
      have e2 := hid known0
      generalize num idb 8 = ka at *
      generalize num (fun j => idb (8 + j)) 8 = kb at *
      have i15 : (15 : Int) ≤ c2 := by omega
      obtain ⟨k0, k1, k2⟩ := K4
      clear SB SB3 hb3
      go_region_held3 (fun w' => w'.cell? ⟨K, 0, none⟩ = some (.int .u64 ka) ∧ w'.cell? ⟨K, 1, none⟩ = some (.int .u64 kb) ∧ K < w'.heap.size)
        (first
          | go_keep
          | exact KeyIn.below (by assumption) hb6
          | exact KeyIn.below (by assumption) hb5
          | (go_split_ands; refine ⟨?_, ?_, ?_⟩; (rw [hb6.cell (by assumption)]; assumption); (rw [hb6.cell (by assumption)]; assumption); exact Nat.lt_of_lt_of_le (by assumption) hb6.size)
          | (go_split_ands; refine ⟨?_, ?_, ?_⟩; (rw [hb5.cell (by assumption)]; assumption); (rw [hb5.cell (by assumption)]; assumption); exact Nat.lt_of_lt_of_le (by assumption) hb5.size))
        ((first
          | (go_at_call 8
             with_reducible refine (re_u64 (of_any ka kb A2 15 c2 idb _ ?_ idb_b ?_ ?_) e1.out).mono ?_
             · exact SB4
             · omega
             · omega
             rintro e w5 ⟨rfl, hb5⟩)
          | (go_at_call 8
             with_reducible refine (re_u64 (of_any ka kb none 0 0 (fun _ => 0) _ ?_ ?_ ?_ ?_) e2.out).mono ?_
             · exact Sl.nil _ _ _
             · exact fun _ => ⟨Int.le_refl 0, by simp⟩
             · omega
             · omega
             rintro e w6 ⟨rfl, hb6⟩)))
      go_wp2_with fail
      go_ret
      refine ⟨rfl, then_ ?_ hb6⟩
      repeat' (first | with_reducible exact hb4 | with_reducible refine Below.drew ?_ | with_reducible refine below_drewN ?_ _ | with_reducible refine then_ ?_ hb5)
end Go.Proofs.Ytmkkglhbfgeecaa
