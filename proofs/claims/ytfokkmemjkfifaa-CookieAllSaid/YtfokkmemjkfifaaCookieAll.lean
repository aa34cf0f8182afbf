/- roundhouselaw5.CookieAll answers true for every epoch, number, kind and flow; no condition. -/
import Derived.Test.YtfokkmemjkfifaaCookLaw
namespace Go.Proofs.Ytfokkmemjkfifaa.cookieAll
set_option linter.unusedVariables false
set_option linter.unusedSimpArgs false
open Go.RowKit Go.ChangeShapes Go.WideShapes Go.ChangeAt

def Hs (w : World) (H : Nat) (p : Nat → Bool) : Prop := H < w.heap.size ∧ (∀ j, j < 64 → w.cell? ⟨H, j, none⟩ = some (.bool (p j))) ∧ ∀ j, w.frozen? ⟨H, j, none⟩ = false
theorem Hs.below {w w' : World} {H : Nat} {p : Nat → Bool} (h : Hs w H p) (hb : Below w.heap.size w w') : Hs w' H p :=
  ⟨Nat.lt_of_lt_of_le h.1 hb.size, fun j hj => (hb.cell (p := ⟨H, j, none⟩) h.1).trans (h.2.1 j hj), fun j => (World.frozen?_of_block (a := ⟨H, j, none⟩) (hb.block H h.1)).trans (h.2.2 j)⟩
theorem Hs.alloc {w : World} {H : Nat} {p : Nat → Bool} (h : Hs w H p) (o : Obj) : Hs (w.alloc o) H p := h.below ((Below.refl _ _).alloc (Nat.le_refl _) o)
theorem Hs.drew {w : World} {H : Nat} {p : Nat → Bool} (h : Hs w H p) : Hs w.drew H p := h
theorem Hs.store {w : World} {H : Nat} {p : Nat → Bool} (h : Hs w H p) (q : Nat) (hq : q < 64) : Hs (w.setCell ⟨H, q, none⟩ (.bool true)) H (fun j => if j = q then true else p j) := by
  refine ⟨by simpa [World.setCell] using h.1, fun j hj => ?_, fun j => by rw [World.frozen?_setCell]; exact h.2.2 j⟩
  by_cases e : j = q
  · subst e
    rw [World.cell?_setCell_same _ _ _ (h.2.1 j hj)]
    simp
  · rw [World.cell?_setCell_other _ _ _ _ (by intro h; injection h; omega), h.2.1 j hj]
    simp [e]
theorem wp_has {P : Program} {c : Code} {Q : Exit → Act → World → Prop} {act : Act} {w : World} {T : TypeId} {arr : Array Value} (ha : arr = Array.replicate 64 (.bool false))
    (h : ∀ w', Hs w' w.heap.size (fun _ => false) → Below w.heap.size w w' → c.wp P Q act w') : c.wp P Q act (w.alloc (.cells arr T)) := by
  subst ha
  have hn : (w.alloc (.cells (Array.replicate 64 (.bool false)) T)).heap[w.heap.size]? = some (.cells (Array.replicate 64 (.bool false)) T (0, 0)) := heap_alloc_new w _
  refine h _ ⟨by simp, fun j hj => ?_, fun j => frozen_of_row _ _ _ _ _ hn⟩ ((Below.refl _ _).alloc (Nat.le_refl _) _)
  rw [cell_of_row _ w.heap.size j _ T (0, 0) hn]
  simp [hj]

set_option maxRecDepth 100000 in
set_option maxHeartbeats 8000000 in
theorem walk (W : World) (ep : Int) (rep : -9223372036854775808 ≤ ep ∧ ep ≤ 9223372036854775807)
    (a : Int) (ra : -9223372036854775808 ≤ a ∧ a ≤ 9223372036854775807) (b : Bool) (f0 : Int) (rf0 : -9223372036854775808 ≤ f0 ∧ f0 ≤ 9223372036854775807)
    (g0 : Int) (rg0 : -9223372036854775808 ≤ g0 ∧ g0 ≤ 9223372036854775807) :
    Calls Try.prog 11 #[.int .i64 ep, .int .i64 a, .bool b, .int .i64 f0, .int .i64 g0] W fun e w' => e = .returned (.bool true) ∧ Below W.heap.size W w' := by
  obtain ⟨r, hr⟩ : ∃ r, r = rgE ep a := ⟨_, rfl⟩
  have hE := rgE_ep ep a
  rw [← hr] at hE
  have LR := fun w => re_v (lring_any ep a rep ra w) (show _ = rgV r by rw [hr])
  obtain ⟨f, hf⟩ : ∃ f, f = flN f0 g0 := ⟨_, rfl⟩
  have hI : f.I := by rw [hf]; exact flN_I _ _
  have LF := fun w => re_v (lflow_any f0 g0 w rf0 rg0) (show _ = flV f by rw [hf])
  obtain ⟨C, hC⟩ : ∃ C : Int → Int, C = fun s => cok (tB b) r.c (kdB b) f s (r.e % 4) := ⟨_, rfl⟩
  obtain ⟨M, hM⟩ : ∃ M, M = W7 r.c (kdB b) f 64 (r.e % 4) % 64 := ⟨_, rfl⟩
  have hMb : 0 ≤ M ∧ M < 64 := by omega
  have MK := fun s hs w => re_i64 (make_b b r f s hI hs w) (show _ = C s by rw [hC])
  have hpt : ∀ s, 0 ≤ s ∧ s < 64 → C s / tB b % 64 = xr s M ∧ 0 ≤ C s := fun s hs => by
    have := cok_parts (tB b) r.c (kdB b) f s (r.e % 4) (tB_T b) hs (by omega)
    rw [hC, hM]
    exact ⟨this.2.1, this.2.2.2.1⟩
  have kv := fun w => lkind_any b w
  clear hC hM hr hf
  replace hpt := hid hpt
  cases b
  · have hpt2 : ∀ s, 0 ≤ s ∧ s < 64 → C s / 256 % 64 = xr s M ∧ 0 ≤ C s := hpt.out
    replace hpt2 := hid hpt2
    clear hpt
    unfold rgV flV kdB at *
    simp only [if_true, Bool.false_eq_true, if_false, Option.getD_some, Option.isSome_some, Option.getD_none, Option.isSome_none] at *
    replace LR := hid LR
    replace LF := hid LF
    replace MK := hid MK
    replace kv := hid kv
    go_enter Try.func11, Try.ntmps11
    go_wp2_with fail
    refine (known_any _).mono ?_
    rintro e' w ⟨rfl, hb1⟩
    have B := hb1
    clear hb1
    go_wp2_with fail
    refine (LR.out _).mono ?_
    rintro e' w1 ⟨rfl, hb⟩
    replace B := B.trans (hb.mono B.size)
    clear hb
    go_upto_region 7 with fail
    have CA := Ce.made (w := w1) (l := [.int .i64 r.e, .int .u64 r.p.a, .int .u64 r.p.b, .int .u64 r.c.a, .int .u64 r.c.b, .int .u64 r.n.a, .int .u64 r.n.b]) (T := 27) (g := w1.heap.size) rfl
    replace B := B.alloc B.size (.cells #[.int .i64 r.e, .int .u64 r.p.a, .int .u64 r.p.b, .int .u64 r.c.a, .int .u64 r.c.b, .int .u64 r.n.a, .int .u64 r.n.b] 27)
    generalize w1.alloc (.cells #[.int .i64 r.e, .int .u64 r.p.a, .int .u64 r.p.b, .int .u64 r.c.a, .int .u64 r.c.b, .int .u64 r.n.a, .int .u64 r.n.b] 27) = w2 at *
    generalize w1.heap.size = A at *
    have hAW : W.heap.size ≤ w2.heap.size := B.size
    go_wp2_with fail
    refine wp_has (by rfl) ?_
    intro w3 hH hb
    have hAH : A < w2.heap.size := CA.1
    have B3 := B.trans (hb.mono B.size)
    replace CA := CA.below hb
    obtain ⟨kA, qA, zA⟩ := CA
    have d0 := qA 0 _ rfl
    have d1 := qA 1 _ rfl
    have d2 := qA 2 _ rfl
    have d3 := qA 3 _ rfl
    have d4 := qA 4 _ rfl
    have d5 := qA 5 _ rfl
    have d6 := qA 6 _ rfl
    clear hb B qA zA
    generalize w2.heap.size = H at *
    go_loopw [14, 15] (fun i _ wr => ∃ (s : Nat) (p : Nat → Bool), s ≤ 64 ∧ i = .int .i64 s ∧ wr.cell? ⟨A, 0, none⟩ = some (.int .i64 r.e) ∧ wr.cell? ⟨A, 1, none⟩ = some (.int .u64 r.p.a) ∧ wr.cell? ⟨A, 2, none⟩ = some (.int .u64 r.p.b) ∧ wr.cell? ⟨A, 3, none⟩ = some (.int .u64 r.c.a) ∧ wr.cell? ⟨A, 4, none⟩ = some (.int .u64 r.c.b) ∧ wr.cell? ⟨A, 5, none⟩ = some (.int .u64 r.n.a) ∧ wr.cell? ⟨A, 6, none⟩ = some (.int .u64 r.n.b) ∧ A < wr.heap.size ∧ Hs wr H p ∧ Hid (∀ j : Nat, j < 64 → p j = true → ∃ t : Nat, t < s ∧ xr t M = j) ∧ Below W.heap.size W wr) (fun i _ _ => 64 - (intOf i).toNat)
    case atStart => exact ⟨0, fun _ => false, by omega, rfl, d0, d1, d2, d3, d4, d5, d6, kA, hH, hid (fun j _ h => by simp at h), B3⟩
    case round =>
      obtain ⟨s, p, hs, rfl, e0, e1, e2, e3, e4, e5, e6, eA, eH, hp, eB⟩ := hrel
      clear d0 d1 d2 d3 d4 d5 d6 kA hH B3
      by_cases hlt : s < 64
      · have i1 : (s : Int) < 64 := by omega
        have hsb : 0 ≤ (s : Int) ∧ (s : Int) < 64 := ⟨by omega, by omega⟩
        have MKs := hid (MK.out s hsb)
        obtain ⟨c1, c2⟩ := hpt2.out s hsb
        have hxb := xr_bd s M hsb hMb
        obtain ⟨q, hq⟩ := Int.eq_ofNat_of_zero_le hxb.1
        rw [hq] at c1 hxb
        have hq64 : q < 64 := by omega
        have hpq : p q = false := by
          cases hpq : p q with
          | false => rfl
          | true =>
            obtain ⟨t, ht, hx⟩ := hp.out q hq64 hpq
            have := xr_inj (s : Int) (t : Int) M (by omega) (by omega) (by rw [hq, hx])
            omega
        have HQ := hid hq
        generalize C s = c at *
        have a0 : bits .and .i64 (c / 256) 63 = (q : Int) := by rw [mand63, c1]
        have j1 : ¬ c < 0 := by omega
        have j2 : (0 : Int) ≤ q := by omega
        have j3 : (q : Int) < 64 := by omega
        clear hq hxb c1 hsb
        go_wp2_with fail
        first
         | (go_region_held3 (fun w' => w'.cell? ⟨A, 0, none⟩ = some (.int .i64 r.e) ∧ w'.cell? ⟨A, 1, none⟩ = some (.int .u64 r.p.a) ∧ w'.cell? ⟨A, 2, none⟩ = some (.int .u64 r.p.b) ∧ w'.cell? ⟨A, 3, none⟩ = some (.int .u64 r.c.a) ∧ w'.cell? ⟨A, 4, none⟩ = some (.int .u64 r.c.b) ∧ w'.cell? ⟨A, 5, none⟩ = some (.int .u64 r.n.a) ∧ w'.cell? ⟨A, 6, none⟩ = some (.int .u64 r.n.b) ∧ A < w'.heap.size ∧ Hs w' H p ∧ Below W.heap.size W w')
          (first
            | (go_split_ands; refine ⟨?_, ?_, ?_, ?_, ?_, ?_, ?_, ?_, ?_, ?_⟩; exact (hb5.cell (p := ⟨A, 0, none⟩) (by assumption)).trans (by assumption); exact (hb5.cell (p := ⟨A, 1, none⟩) (by assumption)).trans (by assumption); exact (hb5.cell (p := ⟨A, 2, none⟩) (by assumption)).trans (by assumption); exact (hb5.cell (p := ⟨A, 3, none⟩) (by assumption)).trans (by assumption); exact (hb5.cell (p := ⟨A, 4, none⟩) (by assumption)).trans (by assumption); exact (hb5.cell (p := ⟨A, 5, none⟩) (by assumption)).trans (by assumption); exact (hb5.cell (p := ⟨A, 6, none⟩) (by assumption)).trans (by assumption); exact Nat.lt_of_lt_of_le (by assumption) hb5.size; exact Hs.below (by assumption) hb5; exact Below.trans (by assumption) (hb5.mono (by first | exact Nat.le_of_lt (by assumption) | exact Below.size (by assumption))))
            | (refine ⟨?_, ?_, ?_, ?_, ?_, ?_, ?_, ?_, ?_, ?_⟩; assumption; assumption; assumption; assumption; assumption; assumption; assumption; assumption; exact Hs.drew (by assumption); exact Below.drew (by assumption))
            | (go_split_ands; refine ⟨?_, ?_, ?_, ?_, ?_, ?_, ?_, ?_, ?_, ?_⟩; exact (World.cell?_alloc_lt _ _ ⟨A, 0, none⟩ (by assumption)).trans (by assumption); exact (World.cell?_alloc_lt _ _ ⟨A, 1, none⟩ (by assumption)).trans (by assumption); exact (World.cell?_alloc_lt _ _ ⟨A, 2, none⟩ (by assumption)).trans (by assumption); exact (World.cell?_alloc_lt _ _ ⟨A, 3, none⟩ (by assumption)).trans (by assumption); exact (World.cell?_alloc_lt _ _ ⟨A, 4, none⟩ (by assumption)).trans (by assumption); exact (World.cell?_alloc_lt _ _ ⟨A, 5, none⟩ (by assumption)).trans (by assumption); exact (World.cell?_alloc_lt _ _ ⟨A, 6, none⟩ (by assumption)).trans (by assumption); (simp; omega); exact Hs.alloc (by assumption) _; exact Below.alloc (by assumption) (by first | exact Nat.le_of_lt (by assumption) | exact Below.size (by assumption)) _)
            | (go_split_ands; refine ⟨?_, ?_, ?_, ?_, ?_, ?_, ?_, ?_, ?_, ?_⟩; exact (World.cell?_alloc_lt _ _ ⟨A, 0, none⟩ (by assumption)).trans (by assumption); exact (World.cell?_alloc_lt _ _ ⟨A, 1, none⟩ (by assumption)).trans (by assumption); exact (World.cell?_alloc_lt _ _ ⟨A, 2, none⟩ (by assumption)).trans (by assumption); exact (World.cell?_alloc_lt _ _ ⟨A, 3, none⟩ (by assumption)).trans (by assumption); exact (World.cell?_alloc_lt _ _ ⟨A, 4, none⟩ (by assumption)).trans (by assumption); exact (World.cell?_alloc_lt _ _ ⟨A, 5, none⟩ (by assumption)).trans (by assumption); exact (World.cell?_alloc_lt _ _ ⟨A, 6, none⟩ (by assumption)).trans (by assumption); exact Nat.lt_of_lt_of_le (by assumption) (Below.drew (Below.alloc (Below.refl _ _) (Nat.le_refl _) _)).size; exact Hs.drew (Hs.alloc (by assumption) _); exact Below.drew (Below.alloc (by assumption) (Below.size (by assumption)) _))
            | (go_split_ands; refine ⟨?_, ?_, ?_, ?_, ?_, ?_, ?_, ?_, ?_, ?_⟩; assumption; assumption; assumption; assumption; assumption; assumption; assumption; assumption; assumption; assumption)
            | go_keep)
          ((first
            | (go_at_call 37
               go_split_ands
               with_reducible refine (kv.out _).mono ?_
               rintro e w5 ⟨rfl, rfl⟩)
            | (go_at_call 19
               go_split_ands
               with_reducible refine (LF.out _).mono ?_
               rintro e w5 ⟨rfl, hb5⟩)
            | (go_at_call 18
               go_split_ands
               with_reducible refine (MKs.out _).mono ?_
               rintro e w5 ⟨rfl, hb5⟩))))
         | fail "the region"
        skip
        go_split_ands
        have hH5 : Hs w5 H p := by assumption
        have cq : w5.cell? ⟨H, q, none⟩ = some (.bool false) := by rw [hH5.2.1 q hq64, hpq]
        have fq := hH5.2.2 q
        have hne : A ≠ H := by omega
        go_wp2_with fail
        go_roundw
        case rel => exact ⟨s + 1, fun j => if j = q then true else p j, by omega, by go_num, (World.cell?_setCell_other _ _ _ _ (by intro h; injection h; omega)).trans (show w5.cell? ⟨A, 0, none⟩ = some (.int .i64 r.e) by assumption), (World.cell?_setCell_other _ _ _ _ (by intro h; injection h; omega)).trans (show w5.cell? ⟨A, 1, none⟩ = some (.int .u64 r.p.a) by assumption), (World.cell?_setCell_other _ _ _ _ (by intro h; injection h; omega)).trans (show w5.cell? ⟨A, 2, none⟩ = some (.int .u64 r.p.b) by assumption), (World.cell?_setCell_other _ _ _ _ (by intro h; injection h; omega)).trans (show w5.cell? ⟨A, 3, none⟩ = some (.int .u64 r.c.a) by assumption), (World.cell?_setCell_other _ _ _ _ (by intro h; injection h; omega)).trans (show w5.cell? ⟨A, 4, none⟩ = some (.int .u64 r.c.b) by assumption), (World.cell?_setCell_other _ _ _ _ (by intro h; injection h; omega)).trans (show w5.cell? ⟨A, 5, none⟩ = some (.int .u64 r.n.a) by assumption), (World.cell?_setCell_other _ _ _ _ (by intro h; injection h; omega)).trans (show w5.cell? ⟨A, 6, none⟩ = some (.int .u64 r.n.b) by assumption), by simp; assumption, hH5.store q hq64, hid (fun j hj h => by
          simp only at h
          by_cases e : j = q
          · exact ⟨s, by omega, by rw [HQ.out, e]⟩
          · rw [if_neg e] at h
            obtain ⟨t, ht, hx⟩ := hp.out j hj h
            exact ⟨t, by omega, hx⟩), Below.setCell (by assumption) (by omega) _⟩
        case measure => simp [intOf]; omega
      · have e : s = 64 := by omega
        subst e
        have i1 : ¬ ((64 : Nat) : Int) < 64 := by omega
        go_wp2_with fail
        go_ret
        exact ⟨rfl, eB⟩
  · have hpt2 : ∀ s, 0 ≤ s ∧ s < 64 → C s / 4096 % 64 = xr s M ∧ 0 ≤ C s := hpt.out
    replace hpt2 := hid hpt2
    clear hpt
    unfold rgV flV kdB at *
    simp only [if_true, Bool.false_eq_true, if_false, Option.getD_some, Option.isSome_some, Option.getD_none, Option.isSome_none] at *
    replace LR := hid LR
    replace LF := hid LF
    replace MK := hid MK
    replace kv := hid kv
    go_enter Try.func11, Try.ntmps11
    go_wp2_with fail
    refine (known_any _).mono ?_
    rintro e' w ⟨rfl, hb1⟩
    have B := hb1
    clear hb1
    go_wp2_with fail
    refine (LR.out _).mono ?_
    rintro e' w1 ⟨rfl, hb⟩
    replace B := B.trans (hb.mono B.size)
    clear hb
    go_upto_region 7 with fail
    have CA := Ce.made (w := w1) (l := [.int .i64 r.e, .int .u64 r.p.a, .int .u64 r.p.b, .int .u64 r.c.a, .int .u64 r.c.b, .int .u64 r.n.a, .int .u64 r.n.b]) (T := 27) (g := w1.heap.size) rfl
    replace B := B.alloc B.size (.cells #[.int .i64 r.e, .int .u64 r.p.a, .int .u64 r.p.b, .int .u64 r.c.a, .int .u64 r.c.b, .int .u64 r.n.a, .int .u64 r.n.b] 27)
    generalize w1.alloc (.cells #[.int .i64 r.e, .int .u64 r.p.a, .int .u64 r.p.b, .int .u64 r.c.a, .int .u64 r.c.b, .int .u64 r.n.a, .int .u64 r.n.b] 27) = w2 at *
    generalize w1.heap.size = A at *
    have hAW : W.heap.size ≤ w2.heap.size := B.size
    go_wp2_with fail
    refine wp_has (by rfl) ?_
    intro w3 hH hb
    have hAH : A < w2.heap.size := CA.1
    have B3 := B.trans (hb.mono B.size)
    replace CA := CA.below hb
    obtain ⟨kA, qA, zA⟩ := CA
    have d0 := qA 0 _ rfl
    have d1 := qA 1 _ rfl
    have d2 := qA 2 _ rfl
    have d3 := qA 3 _ rfl
    have d4 := qA 4 _ rfl
    have d5 := qA 5 _ rfl
    have d6 := qA 6 _ rfl
    clear hb B qA zA
    generalize w2.heap.size = H at *
    go_loopw [14, 15] (fun i _ wr => ∃ (s : Nat) (p : Nat → Bool), s ≤ 64 ∧ i = .int .i64 s ∧ wr.cell? ⟨A, 0, none⟩ = some (.int .i64 r.e) ∧ wr.cell? ⟨A, 1, none⟩ = some (.int .u64 r.p.a) ∧ wr.cell? ⟨A, 2, none⟩ = some (.int .u64 r.p.b) ∧ wr.cell? ⟨A, 3, none⟩ = some (.int .u64 r.c.a) ∧ wr.cell? ⟨A, 4, none⟩ = some (.int .u64 r.c.b) ∧ wr.cell? ⟨A, 5, none⟩ = some (.int .u64 r.n.a) ∧ wr.cell? ⟨A, 6, none⟩ = some (.int .u64 r.n.b) ∧ A < wr.heap.size ∧ Hs wr H p ∧ Hid (∀ j : Nat, j < 64 → p j = true → ∃ t : Nat, t < s ∧ xr t M = j) ∧ Below W.heap.size W wr) (fun i _ _ => 64 - (intOf i).toNat)
    case atStart => exact ⟨0, fun _ => false, by omega, rfl, d0, d1, d2, d3, d4, d5, d6, kA, hH, hid (fun j _ h => by simp at h), B3⟩
    case round =>
      obtain ⟨s, p, hs, rfl, e0, e1, e2, e3, e4, e5, e6, eA, eH, hp, eB⟩ := hrel
      clear d0 d1 d2 d3 d4 d5 d6 kA hH B3
      by_cases hlt : s < 64
      · have i1 : (s : Int) < 64 := by omega
        have hsb : 0 ≤ (s : Int) ∧ (s : Int) < 64 := ⟨by omega, by omega⟩
        have MKs := hid (MK.out s hsb)
        obtain ⟨c1, c2⟩ := hpt2.out s hsb
        have hxb := xr_bd s M hsb hMb
        obtain ⟨q, hq⟩ := Int.eq_ofNat_of_zero_le hxb.1
        rw [hq] at c1 hxb
        have hq64 : q < 64 := by omega
        have hpq : p q = false := by
          cases hpq : p q with
          | false => rfl
          | true =>
            obtain ⟨t, ht, hx⟩ := hp.out q hq64 hpq
            have := xr_inj (s : Int) (t : Int) M (by omega) (by omega) (by rw [hq, hx])
            omega
        have HQ := hid hq
        generalize C s = c at *
        have a0 : bits .and .i64 (c / 4096) 63 = (q : Int) := by rw [mand63, c1]
        have j1 : ¬ c < 0 := by omega
        have j2 : (0 : Int) ≤ q := by omega
        have j3 : (q : Int) < 64 := by omega
        clear hq hxb c1 hsb
        go_wp2_with fail
        first
         | (go_region_held3 (fun w' => w'.cell? ⟨A, 0, none⟩ = some (.int .i64 r.e) ∧ w'.cell? ⟨A, 1, none⟩ = some (.int .u64 r.p.a) ∧ w'.cell? ⟨A, 2, none⟩ = some (.int .u64 r.p.b) ∧ w'.cell? ⟨A, 3, none⟩ = some (.int .u64 r.c.a) ∧ w'.cell? ⟨A, 4, none⟩ = some (.int .u64 r.c.b) ∧ w'.cell? ⟨A, 5, none⟩ = some (.int .u64 r.n.a) ∧ w'.cell? ⟨A, 6, none⟩ = some (.int .u64 r.n.b) ∧ A < w'.heap.size ∧ Hs w' H p ∧ Below W.heap.size W w')
          (first
            | (go_split_ands; refine ⟨?_, ?_, ?_, ?_, ?_, ?_, ?_, ?_, ?_, ?_⟩; exact (hb5.cell (p := ⟨A, 0, none⟩) (by assumption)).trans (by assumption); exact (hb5.cell (p := ⟨A, 1, none⟩) (by assumption)).trans (by assumption); exact (hb5.cell (p := ⟨A, 2, none⟩) (by assumption)).trans (by assumption); exact (hb5.cell (p := ⟨A, 3, none⟩) (by assumption)).trans (by assumption); exact (hb5.cell (p := ⟨A, 4, none⟩) (by assumption)).trans (by assumption); exact (hb5.cell (p := ⟨A, 5, none⟩) (by assumption)).trans (by assumption); exact (hb5.cell (p := ⟨A, 6, none⟩) (by assumption)).trans (by assumption); exact Nat.lt_of_lt_of_le (by assumption) hb5.size; exact Hs.below (by assumption) hb5; exact Below.trans (by assumption) (hb5.mono (by first | exact Nat.le_of_lt (by assumption) | exact Below.size (by assumption))))
            | (refine ⟨?_, ?_, ?_, ?_, ?_, ?_, ?_, ?_, ?_, ?_⟩; assumption; assumption; assumption; assumption; assumption; assumption; assumption; assumption; exact Hs.drew (by assumption); exact Below.drew (by assumption))
            | (go_split_ands; refine ⟨?_, ?_, ?_, ?_, ?_, ?_, ?_, ?_, ?_, ?_⟩; exact (World.cell?_alloc_lt _ _ ⟨A, 0, none⟩ (by assumption)).trans (by assumption); exact (World.cell?_alloc_lt _ _ ⟨A, 1, none⟩ (by assumption)).trans (by assumption); exact (World.cell?_alloc_lt _ _ ⟨A, 2, none⟩ (by assumption)).trans (by assumption); exact (World.cell?_alloc_lt _ _ ⟨A, 3, none⟩ (by assumption)).trans (by assumption); exact (World.cell?_alloc_lt _ _ ⟨A, 4, none⟩ (by assumption)).trans (by assumption); exact (World.cell?_alloc_lt _ _ ⟨A, 5, none⟩ (by assumption)).trans (by assumption); exact (World.cell?_alloc_lt _ _ ⟨A, 6, none⟩ (by assumption)).trans (by assumption); (simp; omega); exact Hs.alloc (by assumption) _; exact Below.alloc (by assumption) (by first | exact Nat.le_of_lt (by assumption) | exact Below.size (by assumption)) _)
            | (go_split_ands; refine ⟨?_, ?_, ?_, ?_, ?_, ?_, ?_, ?_, ?_, ?_⟩; exact (World.cell?_alloc_lt _ _ ⟨A, 0, none⟩ (by assumption)).trans (by assumption); exact (World.cell?_alloc_lt _ _ ⟨A, 1, none⟩ (by assumption)).trans (by assumption); exact (World.cell?_alloc_lt _ _ ⟨A, 2, none⟩ (by assumption)).trans (by assumption); exact (World.cell?_alloc_lt _ _ ⟨A, 3, none⟩ (by assumption)).trans (by assumption); exact (World.cell?_alloc_lt _ _ ⟨A, 4, none⟩ (by assumption)).trans (by assumption); exact (World.cell?_alloc_lt _ _ ⟨A, 5, none⟩ (by assumption)).trans (by assumption); exact (World.cell?_alloc_lt _ _ ⟨A, 6, none⟩ (by assumption)).trans (by assumption); exact Nat.lt_of_lt_of_le (by assumption) (Below.drew (Below.alloc (Below.refl _ _) (Nat.le_refl _) _)).size; exact Hs.drew (Hs.alloc (by assumption) _); exact Below.drew (Below.alloc (by assumption) (Below.size (by assumption)) _))
            | (go_split_ands; refine ⟨?_, ?_, ?_, ?_, ?_, ?_, ?_, ?_, ?_, ?_⟩; assumption; assumption; assumption; assumption; assumption; assumption; assumption; assumption; assumption; assumption)
            | go_keep)
          ((first
            | (go_at_call 37
               go_split_ands
               with_reducible refine (kv.out _).mono ?_
               rintro e w5 ⟨rfl, rfl⟩)
            | (go_at_call 19
               go_split_ands
               with_reducible refine (LF.out _).mono ?_
               rintro e w5 ⟨rfl, hb5⟩)
            | (go_at_call 18
               go_split_ands
               with_reducible refine (MKs.out _).mono ?_
               rintro e w5 ⟨rfl, hb5⟩))))
         | fail "the region"
        skip
        go_split_ands
        have hH5 : Hs w5 H p := by assumption
        have cq : w5.cell? ⟨H, q, none⟩ = some (.bool false) := by rw [hH5.2.1 q hq64, hpq]
        have fq := hH5.2.2 q
        have hne : A ≠ H := by omega
        go_wp2_with fail
        go_roundw
        case rel => exact ⟨s + 1, fun j => if j = q then true else p j, by omega, by go_num, (World.cell?_setCell_other _ _ _ _ (by intro h; injection h; omega)).trans (show w5.cell? ⟨A, 0, none⟩ = some (.int .i64 r.e) by assumption), (World.cell?_setCell_other _ _ _ _ (by intro h; injection h; omega)).trans (show w5.cell? ⟨A, 1, none⟩ = some (.int .u64 r.p.a) by assumption), (World.cell?_setCell_other _ _ _ _ (by intro h; injection h; omega)).trans (show w5.cell? ⟨A, 2, none⟩ = some (.int .u64 r.p.b) by assumption), (World.cell?_setCell_other _ _ _ _ (by intro h; injection h; omega)).trans (show w5.cell? ⟨A, 3, none⟩ = some (.int .u64 r.c.a) by assumption), (World.cell?_setCell_other _ _ _ _ (by intro h; injection h; omega)).trans (show w5.cell? ⟨A, 4, none⟩ = some (.int .u64 r.c.b) by assumption), (World.cell?_setCell_other _ _ _ _ (by intro h; injection h; omega)).trans (show w5.cell? ⟨A, 5, none⟩ = some (.int .u64 r.n.a) by assumption), (World.cell?_setCell_other _ _ _ _ (by intro h; injection h; omega)).trans (show w5.cell? ⟨A, 6, none⟩ = some (.int .u64 r.n.b) by assumption), by simp; assumption, hH5.store q hq64, hid (fun j hj h => by
          simp only at h
          by_cases e : j = q
          · exact ⟨s, by omega, by rw [HQ.out, e]⟩
          · rw [if_neg e] at h
            obtain ⟨t, ht, hx⟩ := hp.out j hj h
            exact ⟨t, by omega, hx⟩), Below.setCell (by assumption) (by omega) _⟩
        case measure => simp [intOf]; omega
      · have e : s = 64 := by omega
        subst e
        have i1 : ¬ ((64 : Nat) : Int) < 64 := by omega
        go_wp2_with fail
        go_ret
        exact ⟨rfl, eB⟩

set_option maxRecDepth 100000 in
theorem lifted (os : Os) (started : os.Started) (H : Type) (enc : TypeId × Value → H) :
    ReturnsInHanded {} Try.checked os 11 .any (Rows.cookieAllSpec.pre6 enc Try.prog Try.f11 [] false) (Rows.cookieAllSpec.post enc Try.prog Try.f11 false true false false) :=
  law_step (s := Rows.cookieAllSpec) started (by kernel_rfl) Try.func11
    (ChangeSpec.witness6 (s := Rows.cookieAllSpec) (enc := enc) (C := Try.checked) false ⟨#[], #[.int .i64 0, .int .i64 0, .bool false, .int .i64 0, .int .i64 0], []⟩ 8 (by kernel_rfl) (by kernel_rfl) (by kernel_rfl) (by kernel_rfl))
    rfl (by rw [Try.params11]; decide +kernel) rfl Try.underlying4
    (fun ds h => by
      rw [Try.params11] at h
      match ds, h with
      | [_, _, _, _, _], _ => rfl)
    (fun W base args ds ps hval hA hsz => by
      rw [Try.params11] at hA hval hsz
      obtain ⟨v0, vs0, d0, ds0, p0, q0, hargs, rfl, rfl, h0, r0⟩ := trodAll_cons hA
      obtain ⟨v1, vs1, d1, ds1, p1, q1, rfl, rfl, rfl, h1, r1⟩ := trodAll_cons r0
      obtain ⟨v2, vs2, d2, ds2, p2, q2, rfl, rfl, rfl, h2, r2⟩ := trodAll_cons r1
      obtain ⟨v3, vs3, d3, ds3, p3, q3, rfl, rfl, rfl, h3, r3⟩ := trodAll_cons r2
      obtain ⟨v4, vs4, d4, ds4, p4, q4, rfl, rfl, rfl, h4, r4⟩ := trodAll_cons r3
      obtain ⟨rfl, rfl, rfl⟩ := trodAll_nil r4
      obtain rfl : args = #[v0, v1, v2, v3, v4] := by cases args; simp_all
      obtain ⟨a0, rfl, rfl, rfl, w0⟩ := open_int Try.underlying3 (hval 0 3 v0 rfl rfl) h0
      obtain ⟨a1, rfl, rfl, rfl, w1⟩ := open_int Try.underlying3 (hval 1 3 v1 rfl rfl) h1
      obtain ⟨a2, rfl, rfl, rfl⟩ := open_bool Try.underlying4 (hval 2 4 v2 rfl rfl) h2
      obtain ⟨a3, rfl, rfl, rfl, w3⟩ := open_int Try.underlying3 (hval 3 3 v3 rfl rfl) h3
      obtain ⟨a4, rfl, rfl, rfl, w4⟩ := open_int Try.underlying3 (hval 4 3 v4 rfl rfl) h4
      exact walk W a0 (bounds_i64 w0) a1 (bounds_i64 w1) a2 a3 (bounds_i64 w3) a4 (bounds_i64 w4))

theorem proved : Rows.CookieAllSaid :=
  OpenClaim.holds_of_wide 11 Try.f11 rfl rfl rfl rfl rfl rfl rfl ⟨rfl, rfl, rfl, rfl, rfl⟩ rfl rfl rfl rfl rfl (by kernel_rfl) Try.func11 (by kernel_rfl)
    (of_decide_eq_true (by kernel_rfl)) (by unfold Func.isWrapper; first | (rw [if_pos (by decide +kernel)]; kernel_rfl) | (rw [if_neg (by decide +kernel)]; exact ⟨rfl, rfl⟩))
    (fun os started H enc _ => lifted os started H enc)
end Go.Proofs.Ytfokkmemjkfifaa.cookieAll
