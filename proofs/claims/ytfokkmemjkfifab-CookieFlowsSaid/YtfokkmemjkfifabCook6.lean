/- Cookies made, of both packages. -/
import Derived.Test.YtfokkmemjkfifabCook5
namespace Go.Proofs.Ytfokkmemjkfifab
set_option linter.unusedVariables false
set_option linter.unusedSimpArgs false
open Go.RowKit Go.ChangeShapes Go.WideShapes Go.ChangeAt
theorem cmake1 (r : Rg) (f : Fl) (s : Int) (hf : f.I) (hs : 0 ≤ s ∧ s < 64) (w : World) :
    Calls Try.prog 8 #[rgV r, .int .i64 1, flV f, .int .i64 s] w fun e' w' => e' = .returned (.int .i64 (cok 4096 r.c 1 f s (r.e % 4))) ∧ Below w.heap.size w w' := by
  have hkI : I64 1 := ⟨by omega, by omega⟩
  have MA := fun w => made1 r.c 1 f s (r.e % 4) hf hkI ⟨by omega, by omega⟩ ⟨by omega, by omega⟩ w
  have hm := xr_bd (s % 64) (W7 r.c 1 f 64 (r.e % 4) % 64) (by omega) (by omega)
  have TG := fun w => together1 (r.e % 4) (xr (s % 64) (W7 r.c 1 f 64 (r.e % 4) % 64)) (W7 r.c 1 f s (r.e % 4) % 4096) (by omega) hm (by omega) w
  have hc : Hid (r.e % 4 * (64 * 4096) + xr (s % 64) (W7 r.c 1 f 64 (r.e % 4) % 64) * 4096 + W7 r.c 1 f s (r.e % 4) % 4096 = cok 4096 r.c 1 f s (r.e % 4)) := by
    unfold Hid cok
    rw [show s % 64 = s from by omega]
  rw [shV1] at MA TG
  unfold rgV flV kyV ptV at *
  replace MA := hid MA
  replace TG := hid TG
  clear hm hs
  go_enter Try.func8, Try.ntmps8
  go_wp2_with fail
  have CA := Ce.made (w := w) (l := [.int .i64 r.e, .int .u64 r.p.a, .int .u64 r.p.b, .int .u64 r.c.a, .int .u64 r.c.b, .int .u64 r.n.a, .int .u64 r.n.b]) (T := 27) (g := w.heap.size) rfl
  replace CA := CA.alloc (.cells #[.int .i64 f.a, .int .i64 f.p, .int .i64 f.ta, .int .i64 f.tp] 30)
  have CF := Ce.made (w := (w.alloc (.cells #[.int .i64 r.e, .int .u64 r.p.a, .int .u64 r.p.b, .int .u64 r.c.a, .int .u64 r.c.b, .int .u64 r.n.a, .int .u64 r.n.b] 27))) (l := [.int .i64 f.a, .int .i64 f.p, .int .i64 f.ta, .int .i64 f.tp]) (T := 30) (g := w.heap.size + 1) (by simp)
  have B : Below w.heap.size w ((w.alloc (.cells #[.int .i64 r.e, .int .u64 r.p.a, .int .u64 r.p.b, .int .u64 r.c.a, .int .u64 r.c.b, .int .u64 r.n.a, .int .u64 r.n.b] 27)).alloc (.cells #[.int .i64 f.a, .int .i64 f.p, .int .i64 f.ta, .int .i64 f.tp] 30)) := (((Below.refl w.heap.size w).alloc (by first | exact Nat.le_refl _ | (simp; done) | (simp; omega)) (.cells #[.int .i64 r.e, .int .u64 r.p.a, .int .u64 r.p.b, .int .u64 r.c.a, .int .u64 r.c.b, .int .u64 r.n.a, .int .u64 r.n.b] 27)).alloc (by first | exact Nat.le_refl _ | (simp; done) | (simp; omega)) (.cells #[.int .i64 f.a, .int .i64 f.p, .int .i64 f.ta, .int .i64 f.tp] 30))
  generalize (w.alloc (.cells #[.int .i64 r.e, .int .u64 r.p.a, .int .u64 r.p.b, .int .u64 r.c.a, .int .u64 r.c.b, .int .u64 r.n.a, .int .u64 r.n.b] 27)).alloc (.cells #[.int .i64 f.a, .int .i64 f.p, .int .i64 f.ta, .int .i64 f.tp] 30) = w1 at *
  generalize w.heap.size + 1 = F at *
  generalize hK : w.heap.size = A at *
  refine (shapeOf_any 1 4096 _ (by exact .inl ⟨rfl, rfl⟩)).mono ?_
  rintro e' w2 ⟨rfl, hb⟩
  replace B := B.trans (hb.mono (Nat.le_of_lt CA.1))
  replace CA := CA.below hb
  replace CF := CF.below hb
  clear hb
  rw [shV1]
  obtain ⟨kA, qA, zA⟩ := id CA
  have cA0 := qA 0 _ rfl
  have cA1 := qA 1 _ rfl
  have cA2 := qA 2 _ rfl
  have cA3 := qA 3 _ rfl
  have cA4 := qA 4 _ rfl
  have cA5 := qA 5 _ rfl
  have cA6 := qA 6 _ rfl
  clear qA zA
  obtain ⟨kF, qF, zF⟩ := id CF
  have cF0 := qF 0 _ rfl
  have cF1 := qF 1 _ rfl
  have cF2 := qF 2 _ rfl
  have cF3 := qF 3 _ rfl
  clear qF zF
  go_wp2_with fail
  clear kA cA0 cA1 cA2 cA3 cA4 cA5 cA6
  clear kF cF0 cF1 cF2 cF3
  have CS := Ce.made (w := w2) (l := [.int .u64 18, .int .u64 2, .int .u64 12, .int .u64 6, .int .u64 0, .int .u64 12]) (T := 50) (g := w2.heap.size) rfl
  replace B := B.alloc (Nat.le_of_lt CA.1) (.cells #[.int .u64 18, .int .u64 2, .int .u64 12, .int .u64 6, .int .u64 0, .int .u64 12] 50)
  replace CA := CA.alloc (.cells #[.int .u64 18, .int .u64 2, .int .u64 12, .int .u64 6, .int .u64 0, .int .u64 12] 50)
  replace CF := CF.alloc (.cells #[.int .u64 18, .int .u64 2, .int .u64 12, .int .u64 6, .int .u64 0, .int .u64 12] 50)
  generalize w2.alloc (.cells #[.int .u64 18, .int .u64 2, .int .u64 12, .int .u64 6, .int .u64 0, .int .u64 12] 50) = w3 at *
  generalize w2.heap.size = S at *
  obtain ⟨kA, qA, zA⟩ := id CA
  have cA0 := qA 0 _ rfl
  have cA1 := qA 1 _ rfl
  have cA2 := qA 2 _ rfl
  have cA3 := qA 3 _ rfl
  have cA4 := qA 4 _ rfl
  have cA5 := qA 5 _ rfl
  have cA6 := qA 6 _ rfl
  clear qA zA
  obtain ⟨kF, qF, zF⟩ := id CF
  have cF0 := qF 0 _ rfl
  have cF1 := qF 1 _ rfl
  have cF2 := qF 2 _ rfl
  have cF3 := qF 3 _ rfl
  clear qF zF
  obtain ⟨kS, qS, zS⟩ := id CS
  have cS0 := qS 0 _ rfl
  have cS1 := qS 1 _ rfl
  have cS2 := qS 2 _ rfl
  have cS3 := qS 3 _ rfl
  have cS4 := qS 4 _ rfl
  have cS5 := qS 5 _ rfl
  clear qS zS
  go_region_held3 (fun w' => w'.cell? ⟨A, 0, none⟩ = some (.int .i64 r.e) ∧ w'.cell? ⟨A, 1, none⟩ = some (.int .u64 r.p.a) ∧ w'.cell? ⟨A, 2, none⟩ = some (.int .u64 r.p.b) ∧ w'.cell? ⟨A, 3, none⟩ = some (.int .u64 r.c.a) ∧ w'.cell? ⟨A, 4, none⟩ = some (.int .u64 r.c.b) ∧ w'.cell? ⟨A, 5, none⟩ = some (.int .u64 r.n.a) ∧ w'.cell? ⟨A, 6, none⟩ = some (.int .u64 r.n.b) ∧ w'.cell? ⟨F, 0, none⟩ = some (.int .i64 f.a) ∧ w'.cell? ⟨F, 1, none⟩ = some (.int .i64 f.p) ∧ w'.cell? ⟨F, 2, none⟩ = some (.int .i64 f.ta) ∧ w'.cell? ⟨F, 3, none⟩ = some (.int .i64 f.tp) ∧ w'.cell? ⟨S, 0, none⟩ = some (.int .u64 18) ∧ w'.cell? ⟨S, 1, none⟩ = some (.int .u64 2) ∧ w'.cell? ⟨S, 2, none⟩ = some (.int .u64 12) ∧ w'.cell? ⟨S, 3, none⟩ = some (.int .u64 6) ∧ w'.cell? ⟨S, 4, none⟩ = some (.int .u64 0) ∧ w'.cell? ⟨S, 5, none⟩ = some (.int .u64 12) ∧ A < w'.heap.size ∧ F < w'.heap.size ∧ S < w'.heap.size ∧ Below A w w')
    (first
      | (go_split_ands; refine ⟨?_, ?_, ?_, ?_, ?_, ?_, ?_, ?_, ?_, ?_, ?_, ?_, ?_, ?_, ?_, ?_, ?_, ?_, ?_, ?_, ?_⟩; exact (hb5.cell (p := ⟨A, 0, none⟩) (by assumption)).trans (by assumption); exact (hb5.cell (p := ⟨A, 1, none⟩) (by assumption)).trans (by assumption); exact (hb5.cell (p := ⟨A, 2, none⟩) (by assumption)).trans (by assumption); exact (hb5.cell (p := ⟨A, 3, none⟩) (by assumption)).trans (by assumption); exact (hb5.cell (p := ⟨A, 4, none⟩) (by assumption)).trans (by assumption); exact (hb5.cell (p := ⟨A, 5, none⟩) (by assumption)).trans (by assumption); exact (hb5.cell (p := ⟨A, 6, none⟩) (by assumption)).trans (by assumption); exact (hb5.cell (p := ⟨F, 0, none⟩) (by assumption)).trans (by assumption); exact (hb5.cell (p := ⟨F, 1, none⟩) (by assumption)).trans (by assumption); exact (hb5.cell (p := ⟨F, 2, none⟩) (by assumption)).trans (by assumption); exact (hb5.cell (p := ⟨F, 3, none⟩) (by assumption)).trans (by assumption); exact (hb5.cell (p := ⟨S, 0, none⟩) (by assumption)).trans (by assumption); exact (hb5.cell (p := ⟨S, 1, none⟩) (by assumption)).trans (by assumption); exact (hb5.cell (p := ⟨S, 2, none⟩) (by assumption)).trans (by assumption); exact (hb5.cell (p := ⟨S, 3, none⟩) (by assumption)).trans (by assumption); exact (hb5.cell (p := ⟨S, 4, none⟩) (by assumption)).trans (by assumption); exact (hb5.cell (p := ⟨S, 5, none⟩) (by assumption)).trans (by assumption); exact Nat.lt_of_lt_of_le (by assumption) hb5.size; exact Nat.lt_of_lt_of_le (by assumption) hb5.size; exact Nat.lt_of_lt_of_le (by assumption) hb5.size; exact Below.trans (by assumption) (hb5.mono (by first | exact Nat.le_of_lt (by assumption) | exact Below.size (by assumption))))
      | (refine ⟨?_, ?_, ?_, ?_, ?_, ?_, ?_, ?_, ?_, ?_, ?_, ?_, ?_, ?_, ?_, ?_, ?_, ?_, ?_, ?_, ?_⟩; assumption; assumption; assumption; assumption; assumption; assumption; assumption; assumption; assumption; assumption; assumption; assumption; assumption; assumption; assumption; assumption; assumption; assumption; assumption; assumption; exact Below.drew (by assumption))
      | (go_split_ands; refine ⟨?_, ?_, ?_, ?_, ?_, ?_, ?_, ?_, ?_, ?_, ?_, ?_, ?_, ?_, ?_, ?_, ?_, ?_, ?_, ?_, ?_⟩; exact (World.cell?_alloc_lt _ _ ⟨A, 0, none⟩ (by assumption)).trans (by assumption); exact (World.cell?_alloc_lt _ _ ⟨A, 1, none⟩ (by assumption)).trans (by assumption); exact (World.cell?_alloc_lt _ _ ⟨A, 2, none⟩ (by assumption)).trans (by assumption); exact (World.cell?_alloc_lt _ _ ⟨A, 3, none⟩ (by assumption)).trans (by assumption); exact (World.cell?_alloc_lt _ _ ⟨A, 4, none⟩ (by assumption)).trans (by assumption); exact (World.cell?_alloc_lt _ _ ⟨A, 5, none⟩ (by assumption)).trans (by assumption); exact (World.cell?_alloc_lt _ _ ⟨A, 6, none⟩ (by assumption)).trans (by assumption); exact (World.cell?_alloc_lt _ _ ⟨F, 0, none⟩ (by assumption)).trans (by assumption); exact (World.cell?_alloc_lt _ _ ⟨F, 1, none⟩ (by assumption)).trans (by assumption); exact (World.cell?_alloc_lt _ _ ⟨F, 2, none⟩ (by assumption)).trans (by assumption); exact (World.cell?_alloc_lt _ _ ⟨F, 3, none⟩ (by assumption)).trans (by assumption); exact (World.cell?_alloc_lt _ _ ⟨S, 0, none⟩ (by assumption)).trans (by assumption); exact (World.cell?_alloc_lt _ _ ⟨S, 1, none⟩ (by assumption)).trans (by assumption); exact (World.cell?_alloc_lt _ _ ⟨S, 2, none⟩ (by assumption)).trans (by assumption); exact (World.cell?_alloc_lt _ _ ⟨S, 3, none⟩ (by assumption)).trans (by assumption); exact (World.cell?_alloc_lt _ _ ⟨S, 4, none⟩ (by assumption)).trans (by assumption); exact (World.cell?_alloc_lt _ _ ⟨S, 5, none⟩ (by assumption)).trans (by assumption); (simp; omega); (simp; omega); (simp; omega); exact Below.alloc (by assumption) (by first | exact Nat.le_of_lt (by assumption) | exact Below.size (by assumption)) _)
      | (go_split_ands; refine ⟨?_, ?_, ?_, ?_, ?_, ?_, ?_, ?_, ?_, ?_, ?_, ?_, ?_, ?_, ?_, ?_, ?_, ?_, ?_, ?_, ?_⟩; exact (World.cell?_alloc_lt _ _ ⟨A, 0, none⟩ (by assumption)).trans (by assumption); exact (World.cell?_alloc_lt _ _ ⟨A, 1, none⟩ (by assumption)).trans (by assumption); exact (World.cell?_alloc_lt _ _ ⟨A, 2, none⟩ (by assumption)).trans (by assumption); exact (World.cell?_alloc_lt _ _ ⟨A, 3, none⟩ (by assumption)).trans (by assumption); exact (World.cell?_alloc_lt _ _ ⟨A, 4, none⟩ (by assumption)).trans (by assumption); exact (World.cell?_alloc_lt _ _ ⟨A, 5, none⟩ (by assumption)).trans (by assumption); exact (World.cell?_alloc_lt _ _ ⟨A, 6, none⟩ (by assumption)).trans (by assumption); exact (World.cell?_alloc_lt _ _ ⟨F, 0, none⟩ (by assumption)).trans (by assumption); exact (World.cell?_alloc_lt _ _ ⟨F, 1, none⟩ (by assumption)).trans (by assumption); exact (World.cell?_alloc_lt _ _ ⟨F, 2, none⟩ (by assumption)).trans (by assumption); exact (World.cell?_alloc_lt _ _ ⟨F, 3, none⟩ (by assumption)).trans (by assumption); exact (World.cell?_alloc_lt _ _ ⟨S, 0, none⟩ (by assumption)).trans (by assumption); exact (World.cell?_alloc_lt _ _ ⟨S, 1, none⟩ (by assumption)).trans (by assumption); exact (World.cell?_alloc_lt _ _ ⟨S, 2, none⟩ (by assumption)).trans (by assumption); exact (World.cell?_alloc_lt _ _ ⟨S, 3, none⟩ (by assumption)).trans (by assumption); exact (World.cell?_alloc_lt _ _ ⟨S, 4, none⟩ (by assumption)).trans (by assumption); exact (World.cell?_alloc_lt _ _ ⟨S, 5, none⟩ (by assumption)).trans (by assumption); exact Nat.lt_of_lt_of_le (by assumption) (Below.drew (Below.alloc (Below.refl _ _) (Nat.le_refl _) _)).size; exact Nat.lt_of_lt_of_le (by assumption) (Below.drew (Below.alloc (Below.refl _ _) (Nat.le_refl _) _)).size; exact Nat.lt_of_lt_of_le (by assumption) (Below.drew (Below.alloc (Below.refl _ _) (Nat.le_refl _) _)).size; exact Below.drew (Below.alloc (by assumption) (Below.size (by assumption)) _))
      | (go_split_ands; refine ⟨?_, ?_, ?_, ?_, ?_, ?_, ?_, ?_, ?_, ?_, ?_, ?_, ?_, ?_, ?_, ?_, ?_, ?_, ?_, ?_, ?_⟩; assumption; assumption; assumption; assumption; assumption; assumption; assumption; assumption; assumption; assumption; assumption; assumption; assumption; assumption; assumption; assumption; assumption; assumption; assumption; assumption; assumption)
      | go_keep)
    ((first
      | (go_at_call 21
         go_split_ands
         with_reducible refine (short_any _ _).mono ?_
         rintro e w5 ⟨rfl, rfl⟩)
      | (go_at_call 20
         go_split_ands
         with_reducible refine (MA.out _).mono ?_
         rintro e w5 ⟨rfl, hb5⟩)
      | (go_at_call 19
         go_split_ands
         with_reducible refine (TG.out _).mono ?_
         rintro e w5 ⟨rfl, hb5⟩)))
  all_goals
    go_split_ands
    go_wp2_with fail
    go_ret
    exact ⟨ret_i64 hc.out, by first | assumption | (rw [hK]; assumption)⟩
theorem rmake1 (r : Rg) (f : Fl) (s : Int) (hf : f.I) (hs : 0 ≤ s ∧ s < 64) (w : World) :
    Calls Try.prog 11 #[rgV r, .int .i64 1, flV f, .int .i64 s] w fun e' w' => e' = .returned (.int .i64 (cok 4096 r.c 1 f s (r.e % 4))) ∧ Below w.heap.size w w' := by
  have MA := fun w => cook1 r.c 1 f s (r.e % 4) hf rfl hs (by omega) w
  unfold rgV flV kyV at *
  replace MA := hid MA
  clear hs
  go_enter Try.func11, Try.ntmps11
  go_wp2_with fail
  have CA := Ce.made (w := w) (l := [.int .i64 r.e, .int .u64 r.p.a, .int .u64 r.p.b, .int .u64 r.c.a, .int .u64 r.c.b, .int .u64 r.n.a, .int .u64 r.n.b]) (T := 27) (g := w.heap.size) rfl
  replace CA := CA.alloc (.cells #[.int .i64 f.a, .int .i64 f.p, .int .i64 f.ta, .int .i64 f.tp] 30)
  have CF := Ce.made (w := (w.alloc (.cells #[.int .i64 r.e, .int .u64 r.p.a, .int .u64 r.p.b, .int .u64 r.c.a, .int .u64 r.c.b, .int .u64 r.n.a, .int .u64 r.n.b] 27))) (l := [.int .i64 f.a, .int .i64 f.p, .int .i64 f.ta, .int .i64 f.tp]) (T := 30) (g := w.heap.size + 1) (by simp)
  have B : Below w.heap.size w ((w.alloc (.cells #[.int .i64 r.e, .int .u64 r.p.a, .int .u64 r.p.b, .int .u64 r.c.a, .int .u64 r.c.b, .int .u64 r.n.a, .int .u64 r.n.b] 27)).alloc (.cells #[.int .i64 f.a, .int .i64 f.p, .int .i64 f.ta, .int .i64 f.tp] 30)) := (((Below.refl w.heap.size w).alloc (by first | exact Nat.le_refl _ | (simp; done) | (simp; omega)) (.cells #[.int .i64 r.e, .int .u64 r.p.a, .int .u64 r.p.b, .int .u64 r.c.a, .int .u64 r.c.b, .int .u64 r.n.a, .int .u64 r.n.b] 27)).alloc (by first | exact Nat.le_refl _ | (simp; done) | (simp; omega)) (.cells #[.int .i64 f.a, .int .i64 f.p, .int .i64 f.ta, .int .i64 f.tp] 30))
  generalize (w.alloc (.cells #[.int .i64 r.e, .int .u64 r.p.a, .int .u64 r.p.b, .int .u64 r.c.a, .int .u64 r.c.b, .int .u64 r.n.a, .int .u64 r.n.b] 27)).alloc (.cells #[.int .i64 f.a, .int .i64 f.p, .int .i64 f.ta, .int .i64 f.tp] 30) = w1 at *
  generalize w.heap.size + 1 = F at *
  generalize hK : w.heap.size = A at *
  obtain ⟨kA, qA, zA⟩ := id CA
  have cA0 := qA 0 _ rfl
  have cA1 := qA 1 _ rfl
  have cA2 := qA 2 _ rfl
  have cA3 := qA 3 _ rfl
  have cA4 := qA 4 _ rfl
  have cA5 := qA 5 _ rfl
  have cA6 := qA 6 _ rfl
  clear qA zA
  obtain ⟨kF, qF, zF⟩ := id CF
  have cF0 := qF 0 _ rfl
  have cF1 := qF 1 _ rfl
  have cF2 := qF 2 _ rfl
  have cF3 := qF 3 _ rfl
  clear qF zF
  go_region_held3 (fun w' => w'.cell? ⟨A, 0, none⟩ = some (.int .i64 r.e) ∧ w'.cell? ⟨A, 1, none⟩ = some (.int .u64 r.p.a) ∧ w'.cell? ⟨A, 2, none⟩ = some (.int .u64 r.p.b) ∧ w'.cell? ⟨A, 3, none⟩ = some (.int .u64 r.c.a) ∧ w'.cell? ⟨A, 4, none⟩ = some (.int .u64 r.c.b) ∧ w'.cell? ⟨A, 5, none⟩ = some (.int .u64 r.n.a) ∧ w'.cell? ⟨A, 6, none⟩ = some (.int .u64 r.n.b) ∧ w'.cell? ⟨F, 0, none⟩ = some (.int .i64 f.a) ∧ w'.cell? ⟨F, 1, none⟩ = some (.int .i64 f.p) ∧ w'.cell? ⟨F, 2, none⟩ = some (.int .i64 f.ta) ∧ w'.cell? ⟨F, 3, none⟩ = some (.int .i64 f.tp) ∧ A < w'.heap.size ∧ F < w'.heap.size ∧ Below A w w')
    (first
      | (go_split_ands; refine ⟨?_, ?_, ?_, ?_, ?_, ?_, ?_, ?_, ?_, ?_, ?_, ?_, ?_, ?_⟩; exact (hb5.cell (p := ⟨A, 0, none⟩) (by assumption)).trans (by assumption); exact (hb5.cell (p := ⟨A, 1, none⟩) (by assumption)).trans (by assumption); exact (hb5.cell (p := ⟨A, 2, none⟩) (by assumption)).trans (by assumption); exact (hb5.cell (p := ⟨A, 3, none⟩) (by assumption)).trans (by assumption); exact (hb5.cell (p := ⟨A, 4, none⟩) (by assumption)).trans (by assumption); exact (hb5.cell (p := ⟨A, 5, none⟩) (by assumption)).trans (by assumption); exact (hb5.cell (p := ⟨A, 6, none⟩) (by assumption)).trans (by assumption); exact (hb5.cell (p := ⟨F, 0, none⟩) (by assumption)).trans (by assumption); exact (hb5.cell (p := ⟨F, 1, none⟩) (by assumption)).trans (by assumption); exact (hb5.cell (p := ⟨F, 2, none⟩) (by assumption)).trans (by assumption); exact (hb5.cell (p := ⟨F, 3, none⟩) (by assumption)).trans (by assumption); exact Nat.lt_of_lt_of_le (by assumption) hb5.size; exact Nat.lt_of_lt_of_le (by assumption) hb5.size; exact Below.trans (by assumption) (hb5.mono (by first | exact Nat.le_of_lt (by assumption) | exact Below.size (by assumption))))
      | (refine ⟨?_, ?_, ?_, ?_, ?_, ?_, ?_, ?_, ?_, ?_, ?_, ?_, ?_, ?_⟩; assumption; assumption; assumption; assumption; assumption; assumption; assumption; assumption; assumption; assumption; assumption; assumption; assumption; exact Below.drew (by assumption))
      | (go_split_ands; refine ⟨?_, ?_, ?_, ?_, ?_, ?_, ?_, ?_, ?_, ?_, ?_, ?_, ?_, ?_⟩; exact (World.cell?_alloc_lt _ _ ⟨A, 0, none⟩ (by assumption)).trans (by assumption); exact (World.cell?_alloc_lt _ _ ⟨A, 1, none⟩ (by assumption)).trans (by assumption); exact (World.cell?_alloc_lt _ _ ⟨A, 2, none⟩ (by assumption)).trans (by assumption); exact (World.cell?_alloc_lt _ _ ⟨A, 3, none⟩ (by assumption)).trans (by assumption); exact (World.cell?_alloc_lt _ _ ⟨A, 4, none⟩ (by assumption)).trans (by assumption); exact (World.cell?_alloc_lt _ _ ⟨A, 5, none⟩ (by assumption)).trans (by assumption); exact (World.cell?_alloc_lt _ _ ⟨A, 6, none⟩ (by assumption)).trans (by assumption); exact (World.cell?_alloc_lt _ _ ⟨F, 0, none⟩ (by assumption)).trans (by assumption); exact (World.cell?_alloc_lt _ _ ⟨F, 1, none⟩ (by assumption)).trans (by assumption); exact (World.cell?_alloc_lt _ _ ⟨F, 2, none⟩ (by assumption)).trans (by assumption); exact (World.cell?_alloc_lt _ _ ⟨F, 3, none⟩ (by assumption)).trans (by assumption); (simp; omega); (simp; omega); exact Below.alloc (by assumption) (by first | exact Nat.le_of_lt (by assumption) | exact Below.size (by assumption)) _)
      | (go_split_ands; refine ⟨?_, ?_, ?_, ?_, ?_, ?_, ?_, ?_, ?_, ?_, ?_, ?_, ?_, ?_⟩; exact (World.cell?_alloc_lt _ _ ⟨A, 0, none⟩ (by assumption)).trans (by assumption); exact (World.cell?_alloc_lt _ _ ⟨A, 1, none⟩ (by assumption)).trans (by assumption); exact (World.cell?_alloc_lt _ _ ⟨A, 2, none⟩ (by assumption)).trans (by assumption); exact (World.cell?_alloc_lt _ _ ⟨A, 3, none⟩ (by assumption)).trans (by assumption); exact (World.cell?_alloc_lt _ _ ⟨A, 4, none⟩ (by assumption)).trans (by assumption); exact (World.cell?_alloc_lt _ _ ⟨A, 5, none⟩ (by assumption)).trans (by assumption); exact (World.cell?_alloc_lt _ _ ⟨A, 6, none⟩ (by assumption)).trans (by assumption); exact (World.cell?_alloc_lt _ _ ⟨F, 0, none⟩ (by assumption)).trans (by assumption); exact (World.cell?_alloc_lt _ _ ⟨F, 1, none⟩ (by assumption)).trans (by assumption); exact (World.cell?_alloc_lt _ _ ⟨F, 2, none⟩ (by assumption)).trans (by assumption); exact (World.cell?_alloc_lt _ _ ⟨F, 3, none⟩ (by assumption)).trans (by assumption); exact Nat.lt_of_lt_of_le (by assumption) (Below.drew (Below.alloc (Below.refl _ _) (Nat.le_refl _) _)).size; exact Nat.lt_of_lt_of_le (by assumption) (Below.drew (Below.alloc (Below.refl _ _) (Nat.le_refl _) _)).size; exact Below.drew (Below.alloc (by assumption) (Below.size (by assumption)) _))
      | (go_split_ands; refine ⟨?_, ?_, ?_, ?_, ?_, ?_, ?_, ?_, ?_, ?_, ?_, ?_, ?_, ?_⟩; assumption; assumption; assumption; assumption; assumption; assumption; assumption; assumption; assumption; assumption; assumption; assumption; assumption; assumption)
      | go_keep)
    ((first
      | (go_at_call 31
         go_split_ands
         with_reducible refine (four_any _ _).mono ?_
         rintro e w5 ⟨rfl, rfl⟩)
      | (go_at_call 30
         go_split_ands
         with_reducible refine (MA.out _).mono ?_
         rintro e w5 ⟨rfl, hb5⟩)))
  all_goals
    go_split_ands
    go_wp2_with fail
    go_ret
    exact ⟨rfl, by first | assumption | (rw [hK]; assumption)⟩
theorem cmake2 (r : Rg) (f : Fl) (s : Int) (hf : f.I) (hs : 0 ≤ s ∧ s < 64) (w : World) :
    Calls Try.prog 8 #[rgV r, .int .i64 2, flV f, .int .i64 s] w fun e' w' => e' = .returned (.int .i64 (cok 256 r.c 2 f s (r.e % 4))) ∧ Below w.heap.size w w' := by
  have hkI : I64 2 := ⟨by omega, by omega⟩
  have MA := fun w => made2 r.c 2 f s (r.e % 4) hf hkI ⟨by omega, by omega⟩ ⟨by omega, by omega⟩ w
  have hm := xr_bd (s % 64) (W7 r.c 2 f 64 (r.e % 4) % 64) (by omega) (by omega)
  have TG := fun w => together2 (r.e % 4) (xr (s % 64) (W7 r.c 2 f 64 (r.e % 4) % 64)) (W7 r.c 2 f s (r.e % 4) % 256) (by omega) hm (by omega) w
  have hc : Hid (r.e % 4 * (64 * 256) + xr (s % 64) (W7 r.c 2 f 64 (r.e % 4) % 64) * 256 + W7 r.c 2 f s (r.e % 4) % 256 = cok 256 r.c 2 f s (r.e % 4)) := by
    unfold Hid cok
    rw [show s % 64 = s from by omega]
  rw [shV2] at MA TG
  unfold rgV flV kyV ptV at *
  replace MA := hid MA
  replace TG := hid TG
  clear hm hs
  go_enter Try.func8, Try.ntmps8
  go_wp2_with fail
  have CA := Ce.made (w := w) (l := [.int .i64 r.e, .int .u64 r.p.a, .int .u64 r.p.b, .int .u64 r.c.a, .int .u64 r.c.b, .int .u64 r.n.a, .int .u64 r.n.b]) (T := 27) (g := w.heap.size) rfl
  replace CA := CA.alloc (.cells #[.int .i64 f.a, .int .i64 f.p, .int .i64 f.ta, .int .i64 f.tp] 30)
  have CF := Ce.made (w := (w.alloc (.cells #[.int .i64 r.e, .int .u64 r.p.a, .int .u64 r.p.b, .int .u64 r.c.a, .int .u64 r.c.b, .int .u64 r.n.a, .int .u64 r.n.b] 27))) (l := [.int .i64 f.a, .int .i64 f.p, .int .i64 f.ta, .int .i64 f.tp]) (T := 30) (g := w.heap.size + 1) (by simp)
  have B : Below w.heap.size w ((w.alloc (.cells #[.int .i64 r.e, .int .u64 r.p.a, .int .u64 r.p.b, .int .u64 r.c.a, .int .u64 r.c.b, .int .u64 r.n.a, .int .u64 r.n.b] 27)).alloc (.cells #[.int .i64 f.a, .int .i64 f.p, .int .i64 f.ta, .int .i64 f.tp] 30)) := (((Below.refl w.heap.size w).alloc (by first | exact Nat.le_refl _ | (simp; done) | (simp; omega)) (.cells #[.int .i64 r.e, .int .u64 r.p.a, .int .u64 r.p.b, .int .u64 r.c.a, .int .u64 r.c.b, .int .u64 r.n.a, .int .u64 r.n.b] 27)).alloc (by first | exact Nat.le_refl _ | (simp; done) | (simp; omega)) (.cells #[.int .i64 f.a, .int .i64 f.p, .int .i64 f.ta, .int .i64 f.tp] 30))
  generalize (w.alloc (.cells #[.int .i64 r.e, .int .u64 r.p.a, .int .u64 r.p.b, .int .u64 r.c.a, .int .u64 r.c.b, .int .u64 r.n.a, .int .u64 r.n.b] 27)).alloc (.cells #[.int .i64 f.a, .int .i64 f.p, .int .i64 f.ta, .int .i64 f.tp] 30) = w1 at *
  generalize w.heap.size + 1 = F at *
  generalize hK : w.heap.size = A at *
  refine (shapeOf_any 2 256 _ (by exact .inr ⟨rfl, rfl⟩)).mono ?_
  rintro e' w2 ⟨rfl, hb⟩
  replace B := B.trans (hb.mono (Nat.le_of_lt CA.1))
  replace CA := CA.below hb
  replace CF := CF.below hb
  clear hb
  rw [shV2]
  obtain ⟨kA, qA, zA⟩ := id CA
  have cA0 := qA 0 _ rfl
  have cA1 := qA 1 _ rfl
  have cA2 := qA 2 _ rfl
  have cA3 := qA 3 _ rfl
  have cA4 := qA 4 _ rfl
  have cA5 := qA 5 _ rfl
  have cA6 := qA 6 _ rfl
  clear qA zA
  obtain ⟨kF, qF, zF⟩ := id CF
  have cF0 := qF 0 _ rfl
  have cF1 := qF 1 _ rfl
  have cF2 := qF 2 _ rfl
  have cF3 := qF 3 _ rfl
  clear qF zF
  go_wp2_with fail
  clear kA cA0 cA1 cA2 cA3 cA4 cA5 cA6
  clear kF cF0 cF1 cF2 cF3
  have CS := Ce.made (w := w2) (l := [.int .u64 14, .int .u64 2, .int .u64 8, .int .u64 6, .int .u64 0, .int .u64 8]) (T := 50) (g := w2.heap.size) rfl
  replace B := B.alloc (Nat.le_of_lt CA.1) (.cells #[.int .u64 14, .int .u64 2, .int .u64 8, .int .u64 6, .int .u64 0, .int .u64 8] 50)
  replace CA := CA.alloc (.cells #[.int .u64 14, .int .u64 2, .int .u64 8, .int .u64 6, .int .u64 0, .int .u64 8] 50)
  replace CF := CF.alloc (.cells #[.int .u64 14, .int .u64 2, .int .u64 8, .int .u64 6, .int .u64 0, .int .u64 8] 50)
  generalize w2.alloc (.cells #[.int .u64 14, .int .u64 2, .int .u64 8, .int .u64 6, .int .u64 0, .int .u64 8] 50) = w3 at *
  generalize w2.heap.size = S at *
  obtain ⟨kA, qA, zA⟩ := id CA
  have cA0 := qA 0 _ rfl
  have cA1 := qA 1 _ rfl
  have cA2 := qA 2 _ rfl
  have cA3 := qA 3 _ rfl
  have cA4 := qA 4 _ rfl
  have cA5 := qA 5 _ rfl
  have cA6 := qA 6 _ rfl
  clear qA zA
  obtain ⟨kF, qF, zF⟩ := id CF
  have cF0 := qF 0 _ rfl
  have cF1 := qF 1 _ rfl
  have cF2 := qF 2 _ rfl
  have cF3 := qF 3 _ rfl
  clear qF zF
  obtain ⟨kS, qS, zS⟩ := id CS
  have cS0 := qS 0 _ rfl
  have cS1 := qS 1 _ rfl
  have cS2 := qS 2 _ rfl
  have cS3 := qS 3 _ rfl
  have cS4 := qS 4 _ rfl
  have cS5 := qS 5 _ rfl
  clear qS zS
  go_region_held3 (fun w' => w'.cell? ⟨A, 0, none⟩ = some (.int .i64 r.e) ∧ w'.cell? ⟨A, 1, none⟩ = some (.int .u64 r.p.a) ∧ w'.cell? ⟨A, 2, none⟩ = some (.int .u64 r.p.b) ∧ w'.cell? ⟨A, 3, none⟩ = some (.int .u64 r.c.a) ∧ w'.cell? ⟨A, 4, none⟩ = some (.int .u64 r.c.b) ∧ w'.cell? ⟨A, 5, none⟩ = some (.int .u64 r.n.a) ∧ w'.cell? ⟨A, 6, none⟩ = some (.int .u64 r.n.b) ∧ w'.cell? ⟨F, 0, none⟩ = some (.int .i64 f.a) ∧ w'.cell? ⟨F, 1, none⟩ = some (.int .i64 f.p) ∧ w'.cell? ⟨F, 2, none⟩ = some (.int .i64 f.ta) ∧ w'.cell? ⟨F, 3, none⟩ = some (.int .i64 f.tp) ∧ w'.cell? ⟨S, 0, none⟩ = some (.int .u64 14) ∧ w'.cell? ⟨S, 1, none⟩ = some (.int .u64 2) ∧ w'.cell? ⟨S, 2, none⟩ = some (.int .u64 8) ∧ w'.cell? ⟨S, 3, none⟩ = some (.int .u64 6) ∧ w'.cell? ⟨S, 4, none⟩ = some (.int .u64 0) ∧ w'.cell? ⟨S, 5, none⟩ = some (.int .u64 8) ∧ A < w'.heap.size ∧ F < w'.heap.size ∧ S < w'.heap.size ∧ Below A w w')
    (first
      | (go_split_ands; refine ⟨?_, ?_, ?_, ?_, ?_, ?_, ?_, ?_, ?_, ?_, ?_, ?_, ?_, ?_, ?_, ?_, ?_, ?_, ?_, ?_, ?_⟩; exact (hb5.cell (p := ⟨A, 0, none⟩) (by assumption)).trans (by assumption); exact (hb5.cell (p := ⟨A, 1, none⟩) (by assumption)).trans (by assumption); exact (hb5.cell (p := ⟨A, 2, none⟩) (by assumption)).trans (by assumption); exact (hb5.cell (p := ⟨A, 3, none⟩) (by assumption)).trans (by assumption); exact (hb5.cell (p := ⟨A, 4, none⟩) (by assumption)).trans (by assumption); exact (hb5.cell (p := ⟨A, 5, none⟩) (by assumption)).trans (by assumption); exact (hb5.cell (p := ⟨A, 6, none⟩) (by assumption)).trans (by assumption); exact (hb5.cell (p := ⟨F, 0, none⟩) (by assumption)).trans (by assumption); exact (hb5.cell (p := ⟨F, 1, none⟩) (by assumption)).trans (by assumption); exact (hb5.cell (p := ⟨F, 2, none⟩) (by assumption)).trans (by assumption); exact (hb5.cell (p := ⟨F, 3, none⟩) (by assumption)).trans (by assumption); exact (hb5.cell (p := ⟨S, 0, none⟩) (by assumption)).trans (by assumption); exact (hb5.cell (p := ⟨S, 1, none⟩) (by assumption)).trans (by assumption); exact (hb5.cell (p := ⟨S, 2, none⟩) (by assumption)).trans (by assumption); exact (hb5.cell (p := ⟨S, 3, none⟩) (by assumption)).trans (by assumption); exact (hb5.cell (p := ⟨S, 4, none⟩) (by assumption)).trans (by assumption); exact (hb5.cell (p := ⟨S, 5, none⟩) (by assumption)).trans (by assumption); exact Nat.lt_of_lt_of_le (by assumption) hb5.size; exact Nat.lt_of_lt_of_le (by assumption) hb5.size; exact Nat.lt_of_lt_of_le (by assumption) hb5.size; exact Below.trans (by assumption) (hb5.mono (by first | exact Nat.le_of_lt (by assumption) | exact Below.size (by assumption))))
      | (refine ⟨?_, ?_, ?_, ?_, ?_, ?_, ?_, ?_, ?_, ?_, ?_, ?_, ?_, ?_, ?_, ?_, ?_, ?_, ?_, ?_, ?_⟩; assumption; assumption; assumption; assumption; assumption; assumption; assumption; assumption; assumption; assumption; assumption; assumption; assumption; assumption; assumption; assumption; assumption; assumption; assumption; assumption; exact Below.drew (by assumption))
      | (go_split_ands; refine ⟨?_, ?_, ?_, ?_, ?_, ?_, ?_, ?_, ?_, ?_, ?_, ?_, ?_, ?_, ?_, ?_, ?_, ?_, ?_, ?_, ?_⟩; exact (World.cell?_alloc_lt _ _ ⟨A, 0, none⟩ (by assumption)).trans (by assumption); exact (World.cell?_alloc_lt _ _ ⟨A, 1, none⟩ (by assumption)).trans (by assumption); exact (World.cell?_alloc_lt _ _ ⟨A, 2, none⟩ (by assumption)).trans (by assumption); exact (World.cell?_alloc_lt _ _ ⟨A, 3, none⟩ (by assumption)).trans (by assumption); exact (World.cell?_alloc_lt _ _ ⟨A, 4, none⟩ (by assumption)).trans (by assumption); exact (World.cell?_alloc_lt _ _ ⟨A, 5, none⟩ (by assumption)).trans (by assumption); exact (World.cell?_alloc_lt _ _ ⟨A, 6, none⟩ (by assumption)).trans (by assumption); exact (World.cell?_alloc_lt _ _ ⟨F, 0, none⟩ (by assumption)).trans (by assumption); exact (World.cell?_alloc_lt _ _ ⟨F, 1, none⟩ (by assumption)).trans (by assumption); exact (World.cell?_alloc_lt _ _ ⟨F, 2, none⟩ (by assumption)).trans (by assumption); exact (World.cell?_alloc_lt _ _ ⟨F, 3, none⟩ (by assumption)).trans (by assumption); exact (World.cell?_alloc_lt _ _ ⟨S, 0, none⟩ (by assumption)).trans (by assumption); exact (World.cell?_alloc_lt _ _ ⟨S, 1, none⟩ (by assumption)).trans (by assumption); exact (World.cell?_alloc_lt _ _ ⟨S, 2, none⟩ (by assumption)).trans (by assumption); exact (World.cell?_alloc_lt _ _ ⟨S, 3, none⟩ (by assumption)).trans (by assumption); exact (World.cell?_alloc_lt _ _ ⟨S, 4, none⟩ (by assumption)).trans (by assumption); exact (World.cell?_alloc_lt _ _ ⟨S, 5, none⟩ (by assumption)).trans (by assumption); (simp; omega); (simp; omega); (simp; omega); exact Below.alloc (by assumption) (by first | exact Nat.le_of_lt (by assumption) | exact Below.size (by assumption)) _)
      | (go_split_ands; refine ⟨?_, ?_, ?_, ?_, ?_, ?_, ?_, ?_, ?_, ?_, ?_, ?_, ?_, ?_, ?_, ?_, ?_, ?_, ?_, ?_, ?_⟩; exact (World.cell?_alloc_lt _ _ ⟨A, 0, none⟩ (by assumption)).trans (by assumption); exact (World.cell?_alloc_lt _ _ ⟨A, 1, none⟩ (by assumption)).trans (by assumption); exact (World.cell?_alloc_lt _ _ ⟨A, 2, none⟩ (by assumption)).trans (by assumption); exact (World.cell?_alloc_lt _ _ ⟨A, 3, none⟩ (by assumption)).trans (by assumption); exact (World.cell?_alloc_lt _ _ ⟨A, 4, none⟩ (by assumption)).trans (by assumption); exact (World.cell?_alloc_lt _ _ ⟨A, 5, none⟩ (by assumption)).trans (by assumption); exact (World.cell?_alloc_lt _ _ ⟨A, 6, none⟩ (by assumption)).trans (by assumption); exact (World.cell?_alloc_lt _ _ ⟨F, 0, none⟩ (by assumption)).trans (by assumption); exact (World.cell?_alloc_lt _ _ ⟨F, 1, none⟩ (by assumption)).trans (by assumption); exact (World.cell?_alloc_lt _ _ ⟨F, 2, none⟩ (by assumption)).trans (by assumption); exact (World.cell?_alloc_lt _ _ ⟨F, 3, none⟩ (by assumption)).trans (by assumption); exact (World.cell?_alloc_lt _ _ ⟨S, 0, none⟩ (by assumption)).trans (by assumption); exact (World.cell?_alloc_lt _ _ ⟨S, 1, none⟩ (by assumption)).trans (by assumption); exact (World.cell?_alloc_lt _ _ ⟨S, 2, none⟩ (by assumption)).trans (by assumption); exact (World.cell?_alloc_lt _ _ ⟨S, 3, none⟩ (by assumption)).trans (by assumption); exact (World.cell?_alloc_lt _ _ ⟨S, 4, none⟩ (by assumption)).trans (by assumption); exact (World.cell?_alloc_lt _ _ ⟨S, 5, none⟩ (by assumption)).trans (by assumption); exact Nat.lt_of_lt_of_le (by assumption) (Below.drew (Below.alloc (Below.refl _ _) (Nat.le_refl _) _)).size; exact Nat.lt_of_lt_of_le (by assumption) (Below.drew (Below.alloc (Below.refl _ _) (Nat.le_refl _) _)).size; exact Nat.lt_of_lt_of_le (by assumption) (Below.drew (Below.alloc (Below.refl _ _) (Nat.le_refl _) _)).size; exact Below.drew (Below.alloc (by assumption) (Below.size (by assumption)) _))
      | (go_split_ands; refine ⟨?_, ?_, ?_, ?_, ?_, ?_, ?_, ?_, ?_, ?_, ?_, ?_, ?_, ?_, ?_, ?_, ?_, ?_, ?_, ?_, ?_⟩; assumption; assumption; assumption; assumption; assumption; assumption; assumption; assumption; assumption; assumption; assumption; assumption; assumption; assumption; assumption; assumption; assumption; assumption; assumption; assumption; assumption)
      | go_keep)
    ((first
      | (go_at_call 21
         go_split_ands
         with_reducible refine (short_any _ _).mono ?_
         rintro e w5 ⟨rfl, rfl⟩)
      | (go_at_call 20
         go_split_ands
         with_reducible refine (MA.out _).mono ?_
         rintro e w5 ⟨rfl, hb5⟩)
      | (go_at_call 19
         go_split_ands
         with_reducible refine (TG.out _).mono ?_
         rintro e w5 ⟨rfl, hb5⟩)))
  all_goals
    go_split_ands
    go_wp2_with fail
    go_ret
    exact ⟨ret_i64 hc.out, by first | assumption | (rw [hK]; assumption)⟩
theorem rmake2 (r : Rg) (f : Fl) (s : Int) (hf : f.I) (hs : 0 ≤ s ∧ s < 64) (w : World) :
    Calls Try.prog 11 #[rgV r, .int .i64 2, flV f, .int .i64 s] w fun e' w' => e' = .returned (.int .i64 (cok 256 r.c 2 f s (r.e % 4))) ∧ Below w.heap.size w w' := by
  have MA := fun w => cook2 r.c 2 f s (r.e % 4) hf rfl hs (by omega) w
  unfold rgV flV kyV at *
  replace MA := hid MA
  clear hs
  go_enter Try.func11, Try.ntmps11
  go_wp2_with fail
  have CA := Ce.made (w := w) (l := [.int .i64 r.e, .int .u64 r.p.a, .int .u64 r.p.b, .int .u64 r.c.a, .int .u64 r.c.b, .int .u64 r.n.a, .int .u64 r.n.b]) (T := 27) (g := w.heap.size) rfl
  replace CA := CA.alloc (.cells #[.int .i64 f.a, .int .i64 f.p, .int .i64 f.ta, .int .i64 f.tp] 30)
  have CF := Ce.made (w := (w.alloc (.cells #[.int .i64 r.e, .int .u64 r.p.a, .int .u64 r.p.b, .int .u64 r.c.a, .int .u64 r.c.b, .int .u64 r.n.a, .int .u64 r.n.b] 27))) (l := [.int .i64 f.a, .int .i64 f.p, .int .i64 f.ta, .int .i64 f.tp]) (T := 30) (g := w.heap.size + 1) (by simp)
  have B : Below w.heap.size w ((w.alloc (.cells #[.int .i64 r.e, .int .u64 r.p.a, .int .u64 r.p.b, .int .u64 r.c.a, .int .u64 r.c.b, .int .u64 r.n.a, .int .u64 r.n.b] 27)).alloc (.cells #[.int .i64 f.a, .int .i64 f.p, .int .i64 f.ta, .int .i64 f.tp] 30)) := (((Below.refl w.heap.size w).alloc (by first | exact Nat.le_refl _ | (simp; done) | (simp; omega)) (.cells #[.int .i64 r.e, .int .u64 r.p.a, .int .u64 r.p.b, .int .u64 r.c.a, .int .u64 r.c.b, .int .u64 r.n.a, .int .u64 r.n.b] 27)).alloc (by first | exact Nat.le_refl _ | (simp; done) | (simp; omega)) (.cells #[.int .i64 f.a, .int .i64 f.p, .int .i64 f.ta, .int .i64 f.tp] 30))
  generalize (w.alloc (.cells #[.int .i64 r.e, .int .u64 r.p.a, .int .u64 r.p.b, .int .u64 r.c.a, .int .u64 r.c.b, .int .u64 r.n.a, .int .u64 r.n.b] 27)).alloc (.cells #[.int .i64 f.a, .int .i64 f.p, .int .i64 f.ta, .int .i64 f.tp] 30) = w1 at *
  generalize w.heap.size + 1 = F at *
  generalize hK : w.heap.size = A at *
  obtain ⟨kA, qA, zA⟩ := id CA
  have cA0 := qA 0 _ rfl
  have cA1 := qA 1 _ rfl
  have cA2 := qA 2 _ rfl
  have cA3 := qA 3 _ rfl
  have cA4 := qA 4 _ rfl
  have cA5 := qA 5 _ rfl
  have cA6 := qA 6 _ rfl
  clear qA zA
  obtain ⟨kF, qF, zF⟩ := id CF
  have cF0 := qF 0 _ rfl
  have cF1 := qF 1 _ rfl
  have cF2 := qF 2 _ rfl
  have cF3 := qF 3 _ rfl
  clear qF zF
  go_region_held3 (fun w' => w'.cell? ⟨A, 0, none⟩ = some (.int .i64 r.e) ∧ w'.cell? ⟨A, 1, none⟩ = some (.int .u64 r.p.a) ∧ w'.cell? ⟨A, 2, none⟩ = some (.int .u64 r.p.b) ∧ w'.cell? ⟨A, 3, none⟩ = some (.int .u64 r.c.a) ∧ w'.cell? ⟨A, 4, none⟩ = some (.int .u64 r.c.b) ∧ w'.cell? ⟨A, 5, none⟩ = some (.int .u64 r.n.a) ∧ w'.cell? ⟨A, 6, none⟩ = some (.int .u64 r.n.b) ∧ w'.cell? ⟨F, 0, none⟩ = some (.int .i64 f.a) ∧ w'.cell? ⟨F, 1, none⟩ = some (.int .i64 f.p) ∧ w'.cell? ⟨F, 2, none⟩ = some (.int .i64 f.ta) ∧ w'.cell? ⟨F, 3, none⟩ = some (.int .i64 f.tp) ∧ A < w'.heap.size ∧ F < w'.heap.size ∧ Below A w w')
    (first
      | (go_split_ands; refine ⟨?_, ?_, ?_, ?_, ?_, ?_, ?_, ?_, ?_, ?_, ?_, ?_, ?_, ?_⟩; exact (hb5.cell (p := ⟨A, 0, none⟩) (by assumption)).trans (by assumption); exact (hb5.cell (p := ⟨A, 1, none⟩) (by assumption)).trans (by assumption); exact (hb5.cell (p := ⟨A, 2, none⟩) (by assumption)).trans (by assumption); exact (hb5.cell (p := ⟨A, 3, none⟩) (by assumption)).trans (by assumption); exact (hb5.cell (p := ⟨A, 4, none⟩) (by assumption)).trans (by assumption); exact (hb5.cell (p := ⟨A, 5, none⟩) (by assumption)).trans (by assumption); exact (hb5.cell (p := ⟨A, 6, none⟩) (by assumption)).trans (by assumption); exact (hb5.cell (p := ⟨F, 0, none⟩) (by assumption)).trans (by assumption); exact (hb5.cell (p := ⟨F, 1, none⟩) (by assumption)).trans (by assumption); exact (hb5.cell (p := ⟨F, 2, none⟩) (by assumption)).trans (by assumption); exact (hb5.cell (p := ⟨F, 3, none⟩) (by assumption)).trans (by assumption); exact Nat.lt_of_lt_of_le (by assumption) hb5.size; exact Nat.lt_of_lt_of_le (by assumption) hb5.size; exact Below.trans (by assumption) (hb5.mono (by first | exact Nat.le_of_lt (by assumption) | exact Below.size (by assumption))))
      | (refine ⟨?_, ?_, ?_, ?_, ?_, ?_, ?_, ?_, ?_, ?_, ?_, ?_, ?_, ?_⟩; assumption; assumption; assumption; assumption; assumption; assumption; assumption; assumption; assumption; assumption; assumption; assumption; assumption; exact Below.drew (by assumption))
      | (go_split_ands; refine ⟨?_, ?_, ?_, ?_, ?_, ?_, ?_, ?_, ?_, ?_, ?_, ?_, ?_, ?_⟩; exact (World.cell?_alloc_lt _ _ ⟨A, 0, none⟩ (by assumption)).trans (by assumption); exact (World.cell?_alloc_lt _ _ ⟨A, 1, none⟩ (by assumption)).trans (by assumption); exact (World.cell?_alloc_lt _ _ ⟨A, 2, none⟩ (by assumption)).trans (by assumption); exact (World.cell?_alloc_lt _ _ ⟨A, 3, none⟩ (by assumption)).trans (by assumption); exact (World.cell?_alloc_lt _ _ ⟨A, 4, none⟩ (by assumption)).trans (by assumption); exact (World.cell?_alloc_lt _ _ ⟨A, 5, none⟩ (by assumption)).trans (by assumption); exact (World.cell?_alloc_lt _ _ ⟨A, 6, none⟩ (by assumption)).trans (by assumption); exact (World.cell?_alloc_lt _ _ ⟨F, 0, none⟩ (by assumption)).trans (by assumption); exact (World.cell?_alloc_lt _ _ ⟨F, 1, none⟩ (by assumption)).trans (by assumption); exact (World.cell?_alloc_lt _ _ ⟨F, 2, none⟩ (by assumption)).trans (by assumption); exact (World.cell?_alloc_lt _ _ ⟨F, 3, none⟩ (by assumption)).trans (by assumption); (simp; omega); (simp; omega); exact Below.alloc (by assumption) (by first | exact Nat.le_of_lt (by assumption) | exact Below.size (by assumption)) _)
      | (go_split_ands; refine ⟨?_, ?_, ?_, ?_, ?_, ?_, ?_, ?_, ?_, ?_, ?_, ?_, ?_, ?_⟩; exact (World.cell?_alloc_lt _ _ ⟨A, 0, none⟩ (by assumption)).trans (by assumption); exact (World.cell?_alloc_lt _ _ ⟨A, 1, none⟩ (by assumption)).trans (by assumption); exact (World.cell?_alloc_lt _ _ ⟨A, 2, none⟩ (by assumption)).trans (by assumption); exact (World.cell?_alloc_lt _ _ ⟨A, 3, none⟩ (by assumption)).trans (by assumption); exact (World.cell?_alloc_lt _ _ ⟨A, 4, none⟩ (by assumption)).trans (by assumption); exact (World.cell?_alloc_lt _ _ ⟨A, 5, none⟩ (by assumption)).trans (by assumption); exact (World.cell?_alloc_lt _ _ ⟨A, 6, none⟩ (by assumption)).trans (by assumption); exact (World.cell?_alloc_lt _ _ ⟨F, 0, none⟩ (by assumption)).trans (by assumption); exact (World.cell?_alloc_lt _ _ ⟨F, 1, none⟩ (by assumption)).trans (by assumption); exact (World.cell?_alloc_lt _ _ ⟨F, 2, none⟩ (by assumption)).trans (by assumption); exact (World.cell?_alloc_lt _ _ ⟨F, 3, none⟩ (by assumption)).trans (by assumption); exact Nat.lt_of_lt_of_le (by assumption) (Below.drew (Below.alloc (Below.refl _ _) (Nat.le_refl _) _)).size; exact Nat.lt_of_lt_of_le (by assumption) (Below.drew (Below.alloc (Below.refl _ _) (Nat.le_refl _) _)).size; exact Below.drew (Below.alloc (by assumption) (Below.size (by assumption)) _))
      | (go_split_ands; refine ⟨?_, ?_, ?_, ?_, ?_, ?_, ?_, ?_, ?_, ?_, ?_, ?_, ?_, ?_⟩; assumption; assumption; assumption; assumption; assumption; assumption; assumption; assumption; assumption; assumption; assumption; assumption; assumption; assumption)
      | go_keep)
    ((first
      | (go_at_call 31
         go_split_ands
         with_reducible refine (four_any _ _).mono ?_
         rintro e w5 ⟨rfl, rfl⟩)
      | (go_at_call 30
         go_split_ands
         with_reducible refine (MA.out _).mono ?_
         rintro e w5 ⟨rfl, hb5⟩)))
  all_goals
    go_split_ands
    go_wp2_with fail
    go_ret
    exact ⟨rfl, by first | assumption | (rw [hK]; assumption)⟩

end Go.Proofs.Ytfokkmemjkfifab
