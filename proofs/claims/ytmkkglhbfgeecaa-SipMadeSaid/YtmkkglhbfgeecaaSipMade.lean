/- roundhouselaw2.SipMade answers true for every two rows of bytes; no condition. -/
import Derived.Test.YtmkkglhbfgeecaaSipLaw
import Derived.Test.YtmkkglhbfgeecaaZeros
import Derived.Laws.Cover1
namespace Go.Proofs.Ytmkkglhbfgeecaa.sipMade
set_option linter.unusedVariables false
set_option linter.unusedSimpArgs false
open Go.RowKit Go.ChangeShapes Go.WideShapes Go.ChangeAt

/-- The front of a row of the call's own. -/
theorem ow_less {w : World} {B : Nat} {e : TypeId} {A : Option Addr} {n c k : Nat} {f : Nat → Value} (h : Ow w B e 1 (.slice A n c) n f) (hk : k ≤ n) (h0 : 0 < n) : Ow w B e 1 (.slice A k c) k f := by
  obtain ⟨h1, h2⟩ := h
  refine ⟨by simp, ?_⟩
  rcases h2 with ⟨h2, h3⟩ | ⟨g, cap, cur, hv, hb, hg, hnc, hcm, hcs, ht⟩
  · injection h2 with _ h4 _
    omega
  · injection hv with q1 q2 q3
    subst q1 q3
    refine .inr ⟨g, _, cur, rfl, hb, hg, by omega, hcm, hcs, ?_⟩
    have : cur.toList.take (k * 1) = (cur.toList.take (n * 1)).take (k * 1) := by rw [List.take_take, Nat.min_eq_left (by omega)]
    rw [this, ht, ← List.map_take, List.take_range, Nat.min_eq_left (by omega)]
/-- A key in another block than the one that grew. -/
theorem key_grown {w w' : World} {K G : Nat} {a b : Int} (h : KeyIn w K a b) (hg : w.grownBy w' (some G)) (hne : K ≠ G) : KeyIn w' K a b := by
  obtain ⟨h0, h1, h2⟩ := h
  have hb := hg.block K h2 (fun e => hne (by injection e))
  exact ⟨(World.cell?_of_block (a := ⟨K, 0, none⟩) hb).trans h0, (World.cell?_of_block (a := ⟨K, 1, none⟩) hb).trans h1, Nat.lt_of_lt_of_le h2 hg.size⟩

set_option maxRecDepth 100000 in
set_option maxHeartbeats 4000000 in
theorem walk (W : World) (A : Option Addr) (n c : Nat) (g : Nat → Int) (hn : n ≤ c) (hc : c ≤ maxLen) (h : By W A n g) (hg : IsB g) (hl : ∀ ad, A = some ad → 0 < n → ad.block < W.heap.size) (re : c * 1 ≤ 140737488351232)
    (A2 : Option Addr) (n2 c2 : Nat) (g2 : Nat → Int) (hn2 : n2 ≤ c2) (hc2 : c2 ≤ maxLen) (h2 : By W A2 n2 g2) (hg2 : IsB g2) (hl2 : ∀ ad, A2 = some ad → 0 < n2 → ad.block < W.heap.size) (re2 : c2 * 1 ≤ 140737488351232) :
    Calls Try.prog 4 #[.slice A n c, .slice A2 n2 c2] W fun e w' => e = .returned (.bool true) ∧ Below W.heap.size W w' := by
  by_cases hbig : n2 ≤ 200
  · have t2 : decide ((n2 : Int) > 200) = false := by simp; omega
    obtain ⟨m, hm⟩ : ∃ m, m = min n 16 := ⟨_, rfl⟩
    have hm1 : m ≤ n := by omega
    have hm2 : m ≤ 16 := by omega
    have hmin : ∀ w : World, (Builtin.min_ #[3, 3] 3 #[.int .i64 (n : Int), .int .i64 16]).run Try.prog w = .ok (.int .i64 (m : Int)) w := fun w => by
      rw [run_min_int2]
      congr 2
      split <;> omega
    clear hm
    have i1 : (m : Int) ≤ c := by omega
    go_enter Try.func4, Try.ntmps4
    go_wp2_with fail
    refine (known_any _).mono ?_
    rintro e w ⟨rfl, hb1⟩
    have hs := (h.less hm1).below hb1 (Nat.le_refl _)
    have hs2 := h2.below hb1 (Nat.le_refl _)
    go_wp2_with (first
      | (at_builtin
         refine wp_app_b0 rfl (.tmp 19) (.tmp 24) rfl w.heap.size (.slice (some ⟨w.heap.size, 0, none⟩) 0 0) rfl (fun _ => Ow.new' rfl) A m c g rfl (hs.alloc _) (by omega) (by simp) ?_
         intro A1 c1 w1 o1 hc1 hm1 hb2 hg1 ho1
         have hb2' : Below w.heap.size w w1 := ((Below.refl _ _).alloc (Nat.le_refl _) _).trans hb2)
      | (at_builtin
         refine wp_zeros rfl (.tmp 25) (.const (.int .i64 16)) rfl w.heap.size (.slice A1 m c1) m g rfl o1 16 rfl (by omega) hb2'.size ?_
         intro A4 c4 w4 o4 hc4 hm4 hb4 hg4 ho4
         have hb4' : Below w.heap.size w w4 := hb2'.trans hb4
         have i16 : (16 : Int) ≤ c4 := by omega))
    obtain ⟨f, O4, hf⟩ : ∃ f : Nat → Int, Ow w4 w.heap.size 5 1 (.slice A4 16 c4) 16 (fun j => .int .u8 (f j)) ∧ IsB f := ⟨_, ow_less o4 (by omega) (by omega), fun j => by
      split
      · exact hg j
      · exact ⟨Int.le_refl 0, by simp⟩⟩
    have BK4 : Below w.heap.size w w4 := hb4'
    obtain ⟨G, rfl, hG1, hG2, _, _⟩ := O4.block_ (by omega)
    clear h hs hb2' hb4' o1 o4 hb2 hb4 hg1 hg4 ho1 ho4 h2 hl hl2 i1 hmin
    refine (make_is (some ⟨G, 0, none⟩) c4 f _ O4.sl1 hf (by omega)).mono ?_
    rintro e w5 ⟨rfl, hb5⟩
    have O5 := O4.keep hb5 (Nat.le_refl _)
    have BK5 := BK4.trans (hb5.mono BK4.size)
    have hG5 : G < w5.heap.size := Nat.lt_of_lt_of_le hG2 hb5.size
    obtain ⟨ka, hka⟩ : ∃ ka, ka = num f 8 := ⟨_, rfl⟩
    obtain ⟨kb, hkb⟩ : ∃ kb, kb = num (fun j => f (8 + j)) 8 := ⟨_, rfl⟩
    have RM : ∀ w, By w (some ⟨G, 0, none⟩) 16 f → Calls Try.prog 7 #[.slice (some ⟨G, 0, none⟩) 16 c4] w fun e w' => e = .returned (.tuple #[keyV ka kb, .bool true]) ∧ Below w.heap.size w w' := by
      rw [hka, hkb]
      exact fun w hw => rmake_is (some ⟨G, 0, none⟩) c4 f w hw hf (by omega)
    rw [← hka, ← hkb]
    have HRM := hid RM
    clear hka hkb O4 hb5 BK4 RM hG2
    unfold keyV
    go_wp2_with fail
    have K5 := KeyIn.made (w := w5) (a := ka) (b := kb) (T := 26)
    have O5a := O5.alloc (.cells #[.int .u64 ka, .int .u64 kb] 26)
    have BK5a := BK5.alloc BK5.size (.cells #[.int .u64 ka, .int .u64 kb] 26)
    have e5 : w5.heap.size < (w5.alloc (.cells #[.int .u64 ka, .int .u64 kb] 26)).heap.size := by simp
    clear O5 BK5
    generalize w5.alloc (.cells #[.int .u64 ka, .int .u64 kb] 26) = w5a at *
    generalize w5.heap.size = P at *
    refine (HRM.out _ O5a.sl1).mono ?_
    rintro e w6 ⟨rfl, hb6⟩
    have K6 := K5.below hb6
    have O6 := O5a.keep hb6 (Nat.le_refl _)
    have BK6 := BK5a.trans (hb6.mono BK5a.size)
    have hP6 : P < w6.heap.size := Nat.lt_of_lt_of_le e5 hb6.size
    have hK6 := BK6.size
    clear K5 O5a hb6 BK5a HRM e5
    unfold keyV
    go_wp2_with (at_builtin
                 refine wp_app_b rfl (.tmp 39) (.tmp 40) rfl w.heap.size (.slice (some ⟨G, 0, none⟩) 16 c4) 16 f rfl ((O6.alloc _).alloc _) (some ⟨_, 0, none⟩) 1 1 (fun j => [0].getD j 0) rfl (row_at .u8 [0] (by simp)) (by omega) (by simp; omega) ?_
                 intro A9 c9 w9 o9 hc9 hm9 hb9 hg9 ho9)
    have K7 := key_grown (G := G) (((K6.below ((Below.refl w6.heap.size w6).alloc (Nat.le_refl _) (.cells #[.int .u64 ka, .int .u64 kb] 26))).below ((Below.refl _ _).alloc (Nat.le_refl _) (.cells #[.int .u8 0] 5)))) hg9 (by omega)
    have K8 := key_grown (G := G) ((KeyIn.made (w := w6) (a := ka) (b := kb) (T := 26)).below ((Below.refl _ _).alloc (Nat.le_refl _) (.cells #[.int .u8 0] 5))) hg9 (by omega)
    have BK9 := ((BK6.alloc BK6.size (.cells #[.int .u64 ka, .int .u64 kb] 26)).alloc (by simp; omega) (.cells #[.int .u8 0] 5)).trans hb9
    clear K6 O6 BK6 hb9 hg9 ho9 o9
    generalize w6.heap.size = Q at *
    refine (make_not _ _ _ _ (by omega) (by omega)).mono ?_
    rintro e w10 ⟨rfl, hb10⟩
    have K7a := K7.below hb10
    have K8a := K8.below hb10
    have BK10 := BK9.trans (hb10.mono BK9.size)
    clear K7 K8 BK9 hb10
    unfold keyV
    have i15 : (15 : Int) ≤ c4 := by omega
    go_wp2_with fail
    refine (make_not _ 15 _ _ (by omega) (by omega)).mono ?_
    rintro e w11 ⟨rfl, hb11⟩
    have K7b := ((K7a.below ((Below.refl _ _).alloc (Nat.le_refl _) (.cells #[.int .u64 0, .int .u64 0] 26))).below hb11).below ((Below.refl w11.heap.size w11).alloc (Nat.le_refl _) (.cells #[.int .u64 0, .int .u64 0] 26))
    have K8b := ((K8a.below ((Below.refl _ _).alloc (Nat.le_refl _) (.cells #[.int .u64 0, .int .u64 0] 26))).below hb11).below ((Below.refl w11.heap.size w11).alloc (Nat.le_refl _) (.cells #[.int .u64 0, .int .u64 0] 26))
    have BK11 : Below w.heap.size w (w11.alloc (.cells #[.int .u64 0, .int .u64 0] 26)) := by
      have B10a := BK10.alloc BK10.size (.cells #[.int .u64 0, .int .u64 0] 26)
      have B11' := B10a.trans (hb11.mono B10a.size)
      exact B11'.alloc B11'.size (.cells #[.int .u64 0, .int .u64 0] 26)
    have B12 : Below W.heap.size W (w11.alloc (.cells #[.int .u64 0, .int .u64 0] 26)) := hb1.trans (BK11.mono hb1.size)
    have S12 := hs2.below BK11 (Nat.le_refl _)
    clear K7a K8a BK10 hb11 BK11 hs2 hb1
    unfold keyV
    obtain ⟨k0, k1, k2⟩ := K7b
    obtain ⟨l0, l1, l2⟩ := K8b
    go_wp2_with fail
    generalize w11.alloc (.cells #[.int .u64 0, .int .u64 0] 26) = w12 at *
    clear hG1 hG5 hP6 hK6 i15 i16
    go_region_held3 (fun w' => w'.cell? ⟨P, 0, none⟩ = some (.int .u64 ka) ∧ w'.cell? ⟨P, 1, none⟩ = some (.int .u64 kb) ∧ w'.cell? ⟨Q, 0, none⟩ = some (.int .u64 ka) ∧ w'.cell? ⟨Q, 1, none⟩ = some (.int .u64 kb) ∧ P < w'.heap.size ∧ Q < w'.heap.size ∧ By w' A2 n2 g2 ∧ Below W.heap.size W w')
      (first
        | (go_split_ands; refine ⟨?_, ?_, ?_, ?_, ?_, ?_, ?_, ?_⟩; exact (hb5.cell (p := ⟨P, 0, none⟩) (by assumption)).trans (by assumption); exact (hb5.cell (p := ⟨P, 1, none⟩) (by assumption)).trans (by assumption); exact (hb5.cell (p := ⟨Q, 0, none⟩) (by assumption)).trans (by assumption); exact (hb5.cell (p := ⟨Q, 1, none⟩) (by assumption)).trans (by assumption); exact Nat.lt_of_lt_of_le (by assumption) hb5.size; exact Nat.lt_of_lt_of_le (by assumption) hb5.size; exact Sl.below (by assumption) hb5 (Nat.le_refl _); exact then_ (by assumption) hb5)
        | (refine ⟨?_, ?_, ?_, ?_, ?_, ?_, ?_, ?_⟩; assumption; assumption; assumption; assumption; assumption; assumption; exact Sl.drew (by assumption); exact Below.drew (by assumption))
        | (go_split_ands; refine ⟨?_, ?_, ?_, ?_, ?_, ?_, ?_, ?_⟩; exact (World.cell?_alloc_lt _ _ ⟨P, 0, none⟩ (by assumption)).trans (by assumption); exact (World.cell?_alloc_lt _ _ ⟨P, 1, none⟩ (by assumption)).trans (by assumption); exact (World.cell?_alloc_lt _ _ ⟨Q, 0, none⟩ (by assumption)).trans (by assumption); exact (World.cell?_alloc_lt _ _ ⟨Q, 1, none⟩ (by assumption)).trans (by assumption); (simp; omega); (simp; omega); exact Sl.alloc (by assumption) _; exact Below.alloc (by assumption) (Below.size (by assumption)) _)
        | (go_split_ands; refine ⟨?_, ?_, ?_, ?_, ?_, ?_, ?_, ?_⟩; exact (World.cell?_alloc_lt _ _ ⟨P, 0, none⟩ (by assumption)).trans (by assumption); exact (World.cell?_alloc_lt _ _ ⟨P, 1, none⟩ (by assumption)).trans (by assumption); exact (World.cell?_alloc_lt _ _ ⟨Q, 0, none⟩ (by assumption)).trans (by assumption); exact (World.cell?_alloc_lt _ _ ⟨Q, 1, none⟩ (by assumption)).trans (by assumption); exact Nat.lt_of_lt_of_le (by assumption) (Below.drew (Below.alloc (Below.refl _ _) (Nat.le_refl _) _)).size; exact Nat.lt_of_lt_of_le (by assumption) (Below.drew (Below.alloc (Below.refl _ _) (Nat.le_refl _) _)).size; exact Sl.drew (Sl.alloc (by assumption) _); exact Below.drew (Below.alloc (by assumption) (Below.size (by assumption)) _))
        | go_keep)
      ((first
        | (go_at_call 8
           go_split_ands
           with_reducible refine (of_any ka kb A2 _ c2 g2 _ ?_ hg2 ?_ ?_).mono ?_
           · assumption
           · omega
           · omega
           rintro e w5 ⟨rfl, hb5⟩)
        | (go_at_call 9
           go_split_ands
           with_reducible refine (rof_any ka kb A2 _ c2 g2 _ ?_ hg2 ?_ ?_).mono ?_
           · assumption
           · omega
           · omega
           rintro e w5 ⟨rfl, hb5⟩)))
    all_goals
      go_split_ands
      go_wp2_with fail
      go_ret
      exact ⟨rfl, by assumption⟩
  · have t2 : decide ((n2 : Int) > 200) = true := by simp; omega
    go_enter Try.func4, Try.ntmps4
    go_wp2_with fail
    refine (known_any _).mono ?_
    rintro e w ⟨rfl, hb1⟩
    go_wp2
    go_ret
    exact ⟨rfl, hb1⟩

set_option maxRecDepth 100000 in
theorem lifted (os : Os) (started : os.Started) (H : Type) (enc : TypeId × Value → H) :
    ReturnsInHanded {} Try.checked os 4 .any (Rows.sipMadeSpec.pre6 enc Try.prog Try.f4 [] false) (Rows.sipMadeSpec.post enc Try.prog Try.f4 false true false false) :=
  law_step (s := Rows.sipMadeSpec) started (by kernel_rfl) Try.func4
    (ChangeSpec.witness6 (s := Rows.sipMadeSpec) (enc := enc) (C := Try.checked) false ⟨#[], #[.slice none 0 0, .slice none 0 0], []⟩ 8 (by kernel_rfl) (by kernel_rfl) (by kernel_rfl) (by kernel_rfl))
    rfl (by rw [Try.params4]; decide +kernel) rfl Try.underlying4
    (fun ds h => by
      rw [Try.params4] at h
      match ds, h with
      | [_, _], _ => rfl)
    (fun W base args ds ps hval hA hsz => by
      rw [Try.params4] at hA hval hsz
      obtain ⟨v0, vs0, d0, ds0, p0, q0, hargs, rfl, rfl, h0, r0⟩ := trodAll_cons hA
      obtain ⟨v1, vs1, d1, ds1, p1, q1, rfl, rfl, rfl, h1, r1⟩ := trodAll_cons r0
      obtain ⟨rfl, rfl, rfl⟩ := trodAll_nil r1
      obtain rfl : args = #[v0, v1] := by cases args; simp_all
      obtain ⟨A0, n0, c0, g0, rfl, hn0, hc0, hs0, hw0, hl0, hd0⟩ := open_row Try.underlying22 Try.underlying5 (by kernel_rfl) (hval 0 22 v0 rfl rfl) h0
      have re0 : c0 * 1 ≤ 140737488351232 := by
        rcases hd0 with ⟨_, h0⟩ | ⟨xs, ys, h1, h2⟩
        · omega
        · have := sized_slice hsz (j := 0) (t := 22) (e := 5) rfl (by rw [h1]; rfl) Try.underlying22
          rw [h2, show Try.prog.bytesOf 5 = 1 from by kernel_rfl] at this
          simpa [reachBytes] using this
      obtain ⟨A1, n1, c1, g1, rfl, hn1, hc1, hs1, hw1, hl1, hd1⟩ := open_row Try.underlying22 Try.underlying5 (by kernel_rfl) (hval 1 22 v1 rfl rfl) h1
      have re1 : c1 * 1 ≤ 140737488351232 := by
        rcases hd1 with ⟨_, h0⟩ | ⟨xs, ys, h1, h2⟩
        · omega
        · have := sized_slice hsz (j := 1) (t := 22) (e := 5) rfl (by rw [h1]; rfl) Try.underlying22
          rw [h2, show Try.prog.bytesOf 5 = 1 from by kernel_rfl] at this
          simpa [reachBytes] using this
      exact walk W A0 n0 c0 g0 hn0 hc0 hs0 (fun j => bounds_u8 (hw0 j)) hl0 re0 A1 n1 c1 g1 hn1 hc1 hs1 (fun j => bounds_u8 (hw1 j)) hl1 re1)

theorem proved : Rows.SipMadeSaid :=
  OpenClaim.holds_of_wide 4 Try.f4 rfl rfl rfl rfl rfl rfl rfl ⟨rfl, rfl, rfl, rfl, rfl⟩ rfl rfl rfl rfl rfl (by kernel_rfl) Try.func4 (by kernel_rfl)
    (of_decide_eq_true (by kernel_rfl)) (by unfold Func.isWrapper; first | (rw [if_pos (by decide +kernel)]; kernel_rfl) | (rw [if_neg (by decide +kernel)]; exact ⟨rfl, rfl⟩))
    (fun os started H enc _ => lifted os started H enc)
end Go.Proofs.Ytmkkglhbfgeecaa.sipMade
