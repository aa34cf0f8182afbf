/- Cookies made, of both packages. Cookies read, of both packages. Stamps that carry: laid together, parted. Stamps brought back, ahead of each other. -/
import Derived.Test.YteapnfdpkjbfhaaGreatGa
import Derived.Test.YteapnfdpkjbfhaaGreatGk
namespace Go.Proofs.YteapnfdpkjbfhaaGreat
set_option linter.unusedVariables false
set_option linter.unusedSimpArgs false
open Go.RowKit Go.ChangeShapes Go.WideShapes Go.ChangeAt
theorem cmake1 (r : Rg) (f : Fl) (s : Int) (hf : f.I) (hs : 0 ≤ s ∧ s < 64) (w : World) :
 Calls Tryz.prog 89 #[rgV r, .int .i64 1, flV f, .int .i64 s] w fun e' w' => e' = .returned (.int .i64 (cok 4096 r.c 1 f s (r.e % 4))) ∧ Below w.heap.size w w' := by
 have hkI : I64 1 := ⟨by omega, by omega⟩
 have MA := fun w => made1 r.c 1 f s (r.e % 4) hf hkI ⟨by omega, by omega⟩ ⟨by omega, by omega⟩ w
 have hm := xr_bd (s % 64) (W7 r.c 1 f 64 (r.e % 4) % 64) (by omega) (by omega)
 have TG := fun w => together1 (r.e % 4) (xr (s % 64) (W7 r.c 1 f 64 (r.e % 4) % 64)) (W7 r.c 1 f s (r.e % 4) % 4096) (by omega) hm (by omega) w
 have hc : Hid (r.e % 4 * (64 * 4096) + xr (s % 64) (W7 r.c 1 f 64 (r.e % 4) % 64) * 4096 + W7 r.c 1 f s (r.e % 4) % 4096 = cok 4096 r.c 1 f s (r.e % 4)) := by
  unfold Hid cok
  rw [show s % 64 = s from by omega]
 rw [shV1] at MA TG
 unfold rgV flV kyV ptV at *
 replace MA := hid MA
 replace TG := hid TG
 clear hm hs
 go_enter Tryz.func89, Tryz.ntmps89
 go_wp2_with fail
 have CA := Ce.made (w := w) (l := [.int .i64 r.e, .int .u64 r.p.a, .int .u64 r.p.b, .int .u64 r.c.a, .int .u64 r.c.b, .int .u64 r.n.a, .int .u64 r.n.b]) (T := 31) (g := w.heap.size) rfl
 replace CA := CA.alloc (.cells #[.int .i64 f.a, .int .i64 f.p, .int .i64 f.ta, .int .i64 f.tp] 77)
 have CF := Ce.made (w := (w.alloc (.cells #[.int .i64 r.e, .int .u64 r.p.a, .int .u64 r.p.b, .int .u64 r.c.a, .int .u64 r.c.b, .int .u64 r.n.a, .int .u64 r.n.b] 31))) (l := [.int .i64 f.a, .int .i64 f.p, .int .i64 f.ta, .int .i64 f.tp]) (T := 77) (g := w.heap.size + 1) (by simp)
 have B : Below w.heap.size w ((w.alloc (.cells #[.int .i64 r.e, .int .u64 r.p.a, .int .u64 r.p.b, .int .u64 r.c.a, .int .u64 r.c.b, .int .u64 r.n.a, .int .u64 r.n.b] 31)).alloc (.cells #[.int .i64 f.a, .int .i64 f.p, .int .i64 f.ta, .int .i64 f.tp] 77)) := (((Below.refl w.heap.size w).alloc (by first | exact Nat.le_refl _ | (simp; done) | (simp; omega)) (.cells #[.int .i64 r.e, .int .u64 r.p.a, .int .u64 r.p.b, .int .u64 r.c.a, .int .u64 r.c.b, .int .u64 r.n.a, .int .u64 r.n.b] 31)).alloc (by first | exact Nat.le_refl _ | (simp; done) | (simp; omega)) (.cells #[.int .i64 f.a, .int .i64 f.p, .int .i64 f.ta, .int .i64 f.tp] 77))
 generalize (w.alloc (.cells #[.int .i64 r.e, .int .u64 r.p.a, .int .u64 r.p.b, .int .u64 r.c.a, .int .u64 r.c.b, .int .u64 r.n.a, .int .u64 r.n.b] 31)).alloc (.cells #[.int .i64 f.a, .int .i64 f.p, .int .i64 f.ta, .int .i64 f.tp] 77) = w1 at *
 generalize w.heap.size + 1 = F at *
 generalize hK : w.heap.size = A at *
 refine (shapeOf_any 1 4096 _ (by exact .inl ⟨rfl, rfl⟩)).mono ?_
 rintro e' w2 ⟨rfl, hb⟩
 replace B := B.trans (hb.mono (Nat.le_of_lt CA.1))
 replace CA := CA.below hb
 replace CF := CF.below hb
 clear hb
 rw [shV1]
 obtain ⟨kA, qA, zA⟩ := id CA
 have cA0 := qA 0 _ rfl
 have cA1 := qA 1 _ rfl
 have cA2 := qA 2 _ rfl
 have cA3 := qA 3 _ rfl
 have cA4 := qA 4 _ rfl
 have cA5 := qA 5 _ rfl
 have cA6 := qA 6 _ rfl
 clear qA zA
 obtain ⟨kF, qF, zF⟩ := id CF
 have cF0 := qF 0 _ rfl
 have cF1 := qF 1 _ rfl
 have cF2 := qF 2 _ rfl
 have cF3 := qF 3 _ rfl
 clear qF zF
 go_wp2_with fail
 clear kA cA0 cA1 cA2 cA3 cA4 cA5 cA6
 clear kF cF0 cF1 cF2 cF3
 have CS := Ce.made (w := w2) (l := [.int .u64 18, .int .u64 2, .int .u64 12, .int .u64 6, .int .u64 0, .int .u64 12]) (T := 180) (g := w2.heap.size) rfl
 replace B := B.alloc (Nat.le_of_lt CA.1) (.cells #[.int .u64 18, .int .u64 2, .int .u64 12, .int .u64 6, .int .u64 0, .int .u64 12] 180)
 replace CA := CA.alloc (.cells #[.int .u64 18, .int .u64 2, .int .u64 12, .int .u64 6, .int .u64 0, .int .u64 12] 180)
 replace CF := CF.alloc (.cells #[.int .u64 18, .int .u64 2, .int .u64 12, .int .u64 6, .int .u64 0, .int .u64 12] 180)
 generalize w2.alloc (.cells #[.int .u64 18, .int .u64 2, .int .u64 12, .int .u64 6, .int .u64 0, .int .u64 12] 180) = w3 at *
 generalize w2.heap.size = S at *
 obtain ⟨kA, qA, zA⟩ := id CA
 have cA0 := qA 0 _ rfl
 have cA1 := qA 1 _ rfl
 have cA2 := qA 2 _ rfl
 have cA3 := qA 3 _ rfl
 have cA4 := qA 4 _ rfl
 have cA5 := qA 5 _ rfl
 have cA6 := qA 6 _ rfl
 clear qA zA
 obtain ⟨kF, qF, zF⟩ := id CF
 have cF0 := qF 0 _ rfl
 have cF1 := qF 1 _ rfl
 have cF2 := qF 2 _ rfl
 have cF3 := qF 3 _ rfl
 clear qF zF
 obtain ⟨kS, qS, zS⟩ := id CS
 have cS0 := qS 0 _ rfl
 have cS1 := qS 1 _ rfl
 have cS2 := qS 2 _ rfl
 have cS3 := qS 3 _ rfl
 have cS4 := qS 4 _ rfl
 have cS5 := qS 5 _ rfl
 clear qS zS
 go_region_held3 (fun w' => w'.cell? ⟨A, 0, none⟩ = some (.int .i64 r.e) ∧ w'.cell? ⟨A, 1, none⟩ = some (.int .u64 r.p.a) ∧ w'.cell? ⟨A, 2, none⟩ = some (.int .u64 r.p.b) ∧ w'.cell? ⟨A, 3, none⟩ = some (.int .u64 r.c.a) ∧ w'.cell? ⟨A, 4, none⟩ = some (.int .u64 r.c.b) ∧ w'.cell? ⟨A, 5, none⟩ = some (.int .u64 r.n.a) ∧ w'.cell? ⟨A, 6, none⟩ = some (.int .u64 r.n.b) ∧ w'.cell? ⟨F, 0, none⟩ = some (.int .i64 f.a) ∧ w'.cell? ⟨F, 1, none⟩ = some (.int .i64 f.p) ∧ w'.cell? ⟨F, 2, none⟩ = some (.int .i64 f.ta) ∧ w'.cell? ⟨F, 3, none⟩ = some (.int .i64 f.tp) ∧ w'.cell? ⟨S, 0, none⟩ = some (.int .u64 18) ∧ w'.cell? ⟨S, 1, none⟩ = some (.int .u64 2) ∧ w'.cell? ⟨S, 2, none⟩ = some (.int .u64 12) ∧ w'.cell? ⟨S, 3, none⟩ = some (.int .u64 6) ∧ w'.cell? ⟨S, 4, none⟩ = some (.int .u64 0) ∧ w'.cell? ⟨S, 5, none⟩ = some (.int .u64 12) ∧ A < w'.heap.size ∧ F < w'.heap.size ∧ S < w'.heap.size ∧ Below A w w')
  (first
   | (go_split_ands; refine ⟨?_, ?_, ?_, ?_, ?_, ?_, ?_, ?_, ?_, ?_, ?_, ?_, ?_, ?_, ?_, ?_, ?_, ?_, ?_, ?_, ?_⟩; (iterate 17 (exact (hb5.cell (by assumption)).trans (by assumption))); (iterate 3 (exact Nat.lt_of_lt_of_le (by assumption) hb5.size)); exact Below.trans (by assumption) (hb5.mono (by first | exact Nat.le_of_lt (by assumption) | exact Below.size (by assumption))))
   | (refine ⟨?_, ?_, ?_, ?_, ?_, ?_, ?_, ?_, ?_, ?_, ?_, ?_, ?_, ?_, ?_, ?_, ?_, ?_, ?_, ?_, ?_⟩; (iterate 20 (assumption)); exact Below.drew (by assumption))
   | (go_split_ands; refine ⟨?_, ?_, ?_, ?_, ?_, ?_, ?_, ?_, ?_, ?_, ?_, ?_, ?_, ?_, ?_, ?_, ?_, ?_, ?_, ?_, ?_⟩; (iterate 17 (exact (World.cell?_alloc_lt _ _ _ (by assumption)).trans (by assumption))); (simp; omega); (simp; omega); (simp; omega); exact Below.alloc (by assumption) (by first | exact Nat.le_of_lt (by assumption) | exact Below.size (by assumption)) _)
   | (go_split_ands; refine ⟨?_, ?_, ?_, ?_, ?_, ?_, ?_, ?_, ?_, ?_, ?_, ?_, ?_, ?_, ?_, ?_, ?_, ?_, ?_, ?_, ?_⟩; (iterate 17 (exact (World.cell?_alloc_lt _ _ _ (by assumption)).trans (by assumption))); (iterate 3 (exact Nat.lt_of_lt_of_le (by assumption) (Below.drew (Below.alloc (Below.refl _ _) (Nat.le_refl _) _)).size)); exact Below.drew (Below.alloc (by assumption) (Below.size (by assumption)) _))
   | (go_split_ands; refine ⟨?_, ?_, ?_, ?_, ?_, ?_, ?_, ?_, ?_, ?_, ?_, ?_, ?_, ?_, ?_, ?_, ?_, ?_, ?_, ?_, ?_⟩; (iterate 20 (assumption)); assumption)
   | go_keep)
  ((first
    | (go_at_call 122
       go_split_ands
       with_reducible refine (short_any _ _).mono ?_
       rintro e w5 ⟨rfl, rfl⟩)
    | (go_at_call 121
       go_split_ands
       with_reducible refine (MA.out _).mono ?_
       rintro e w5 ⟨rfl, hb5⟩)
    | (go_at_call 120
       go_split_ands
       with_reducible refine (TG.out _).mono ?_
       rintro e w5 ⟨rfl, hb5⟩)))
 all_goals
  go_split_ands
  go_wp2_with fail
  go_ret
  exact ⟨ret_i64 hc.out, by first | assumption | (rw [hK]; assumption)⟩
theorem cmake2 (r : Rg) (f : Fl) (s : Int) (hf : f.I) (hs : 0 ≤ s ∧ s < 64) (w : World) :
 Calls Tryz.prog 89 #[rgV r, .int .i64 2, flV f, .int .i64 s] w fun e' w' => e' = .returned (.int .i64 (cok 256 r.c 2 f s (r.e % 4))) ∧ Below w.heap.size w w' := by
 have hkI : I64 2 := ⟨by omega, by omega⟩
 have MA := fun w => made2 r.c 2 f s (r.e % 4) hf hkI ⟨by omega, by omega⟩ ⟨by omega, by omega⟩ w
 have hm := xr_bd (s % 64) (W7 r.c 2 f 64 (r.e % 4) % 64) (by omega) (by omega)
 have TG := fun w => together2 (r.e % 4) (xr (s % 64) (W7 r.c 2 f 64 (r.e % 4) % 64)) (W7 r.c 2 f s (r.e % 4) % 256) (by omega) hm (by omega) w
 have hc : Hid (r.e % 4 * (64 * 256) + xr (s % 64) (W7 r.c 2 f 64 (r.e % 4) % 64) * 256 + W7 r.c 2 f s (r.e % 4) % 256 = cok 256 r.c 2 f s (r.e % 4)) := by
  unfold Hid cok
  rw [show s % 64 = s from by omega]
 rw [shV2] at MA TG
 unfold rgV flV kyV ptV at *
 replace MA := hid MA
 replace TG := hid TG
 clear hm hs
 go_enter Tryz.func89, Tryz.ntmps89
 go_wp2_with fail
 have CA := Ce.made (w := w) (l := [.int .i64 r.e, .int .u64 r.p.a, .int .u64 r.p.b, .int .u64 r.c.a, .int .u64 r.c.b, .int .u64 r.n.a, .int .u64 r.n.b]) (T := 31) (g := w.heap.size) rfl
 replace CA := CA.alloc (.cells #[.int .i64 f.a, .int .i64 f.p, .int .i64 f.ta, .int .i64 f.tp] 77)
 have CF := Ce.made (w := (w.alloc (.cells #[.int .i64 r.e, .int .u64 r.p.a, .int .u64 r.p.b, .int .u64 r.c.a, .int .u64 r.c.b, .int .u64 r.n.a, .int .u64 r.n.b] 31))) (l := [.int .i64 f.a, .int .i64 f.p, .int .i64 f.ta, .int .i64 f.tp]) (T := 77) (g := w.heap.size + 1) (by simp)
 have B : Below w.heap.size w ((w.alloc (.cells #[.int .i64 r.e, .int .u64 r.p.a, .int .u64 r.p.b, .int .u64 r.c.a, .int .u64 r.c.b, .int .u64 r.n.a, .int .u64 r.n.b] 31)).alloc (.cells #[.int .i64 f.a, .int .i64 f.p, .int .i64 f.ta, .int .i64 f.tp] 77)) := (((Below.refl w.heap.size w).alloc (by first | exact Nat.le_refl _ | (simp; done) | (simp; omega)) (.cells #[.int .i64 r.e, .int .u64 r.p.a, .int .u64 r.p.b, .int .u64 r.c.a, .int .u64 r.c.b, .int .u64 r.n.a, .int .u64 r.n.b] 31)).alloc (by first | exact Nat.le_refl _ | (simp; done) | (simp; omega)) (.cells #[.int .i64 f.a, .int .i64 f.p, .int .i64 f.ta, .int .i64 f.tp] 77))
 generalize (w.alloc (.cells #[.int .i64 r.e, .int .u64 r.p.a, .int .u64 r.p.b, .int .u64 r.c.a, .int .u64 r.c.b, .int .u64 r.n.a, .int .u64 r.n.b] 31)).alloc (.cells #[.int .i64 f.a, .int .i64 f.p, .int .i64 f.ta, .int .i64 f.tp] 77) = w1 at *
 generalize w.heap.size + 1 = F at *
 generalize hK : w.heap.size = A at *
 refine (shapeOf_any 2 256 _ (by exact .inr ⟨rfl, rfl⟩)).mono ?_
 rintro e' w2 ⟨rfl, hb⟩
 replace B := B.trans (hb.mono (Nat.le_of_lt CA.1))
 replace CA := CA.below hb
 replace CF := CF.below hb
 clear hb
 rw [shV2]
 obtain ⟨kA, qA, zA⟩ := id CA
 have cA0 := qA 0 _ rfl
 have cA1 := qA 1 _ rfl
 have cA2 := qA 2 _ rfl
 have cA3 := qA 3 _ rfl
 have cA4 := qA 4 _ rfl
 have cA5 := qA 5 _ rfl
 have cA6 := qA 6 _ rfl
 clear qA zA
 obtain ⟨kF, qF, zF⟩ := id CF
 have cF0 := qF 0 _ rfl
 have cF1 := qF 1 _ rfl
 have cF2 := qF 2 _ rfl
 have cF3 := qF 3 _ rfl
 clear qF zF
 go_wp2_with fail
 clear kA cA0 cA1 cA2 cA3 cA4 cA5 cA6
 clear kF cF0 cF1 cF2 cF3
 have CS := Ce.made (w := w2) (l := [.int .u64 14, .int .u64 2, .int .u64 8, .int .u64 6, .int .u64 0, .int .u64 8]) (T := 180) (g := w2.heap.size) rfl
 replace B := B.alloc (Nat.le_of_lt CA.1) (.cells #[.int .u64 14, .int .u64 2, .int .u64 8, .int .u64 6, .int .u64 0, .int .u64 8] 180)
 replace CA := CA.alloc (.cells #[.int .u64 14, .int .u64 2, .int .u64 8, .int .u64 6, .int .u64 0, .int .u64 8] 180)
 replace CF := CF.alloc (.cells #[.int .u64 14, .int .u64 2, .int .u64 8, .int .u64 6, .int .u64 0, .int .u64 8] 180)
 generalize w2.alloc (.cells #[.int .u64 14, .int .u64 2, .int .u64 8, .int .u64 6, .int .u64 0, .int .u64 8] 180) = w3 at *
 generalize w2.heap.size = S at *
 obtain ⟨kA, qA, zA⟩ := id CA
 have cA0 := qA 0 _ rfl
 have cA1 := qA 1 _ rfl
 have cA2 := qA 2 _ rfl
 have cA3 := qA 3 _ rfl
 have cA4 := qA 4 _ rfl
 have cA5 := qA 5 _ rfl
 have cA6 := qA 6 _ rfl
 clear qA zA
 obtain ⟨kF, qF, zF⟩ := id CF
 have cF0 := qF 0 _ rfl
 have cF1 := qF 1 _ rfl
 have cF2 := qF 2 _ rfl
 have cF3 := qF 3 _ rfl
 clear qF zF
 obtain ⟨kS, qS, zS⟩ := id CS
 have cS0 := qS 0 _ rfl
 have cS1 := qS 1 _ rfl
 have cS2 := qS 2 _ rfl
 have cS3 := qS 3 _ rfl
 have cS4 := qS 4 _ rfl
 have cS5 := qS 5 _ rfl
 clear qS zS
 go_region_held3 (fun w' => w'.cell? ⟨A, 0, none⟩ = some (.int .i64 r.e) ∧ w'.cell? ⟨A, 1, none⟩ = some (.int .u64 r.p.a) ∧ w'.cell? ⟨A, 2, none⟩ = some (.int .u64 r.p.b) ∧ w'.cell? ⟨A, 3, none⟩ = some (.int .u64 r.c.a) ∧ w'.cell? ⟨A, 4, none⟩ = some (.int .u64 r.c.b) ∧ w'.cell? ⟨A, 5, none⟩ = some (.int .u64 r.n.a) ∧ w'.cell? ⟨A, 6, none⟩ = some (.int .u64 r.n.b) ∧ w'.cell? ⟨F, 0, none⟩ = some (.int .i64 f.a) ∧ w'.cell? ⟨F, 1, none⟩ = some (.int .i64 f.p) ∧ w'.cell? ⟨F, 2, none⟩ = some (.int .i64 f.ta) ∧ w'.cell? ⟨F, 3, none⟩ = some (.int .i64 f.tp) ∧ w'.cell? ⟨S, 0, none⟩ = some (.int .u64 14) ∧ w'.cell? ⟨S, 1, none⟩ = some (.int .u64 2) ∧ w'.cell? ⟨S, 2, none⟩ = some (.int .u64 8) ∧ w'.cell? ⟨S, 3, none⟩ = some (.int .u64 6) ∧ w'.cell? ⟨S, 4, none⟩ = some (.int .u64 0) ∧ w'.cell? ⟨S, 5, none⟩ = some (.int .u64 8) ∧ A < w'.heap.size ∧ F < w'.heap.size ∧ S < w'.heap.size ∧ Below A w w')
  (first
   | (go_split_ands; refine ⟨?_, ?_, ?_, ?_, ?_, ?_, ?_, ?_, ?_, ?_, ?_, ?_, ?_, ?_, ?_, ?_, ?_, ?_, ?_, ?_, ?_⟩; (iterate 17 (exact (hb5.cell (by assumption)).trans (by assumption))); (iterate 3 (exact Nat.lt_of_lt_of_le (by assumption) hb5.size)); exact Below.trans (by assumption) (hb5.mono (by first | exact Nat.le_of_lt (by assumption) | exact Below.size (by assumption))))
   | (refine ⟨?_, ?_, ?_, ?_, ?_, ?_, ?_, ?_, ?_, ?_, ?_, ?_, ?_, ?_, ?_, ?_, ?_, ?_, ?_, ?_, ?_⟩; (iterate 20 (assumption)); exact Below.drew (by assumption))
   | (go_split_ands; refine ⟨?_, ?_, ?_, ?_, ?_, ?_, ?_, ?_, ?_, ?_, ?_, ?_, ?_, ?_, ?_, ?_, ?_, ?_, ?_, ?_, ?_⟩; (iterate 17 (exact (World.cell?_alloc_lt _ _ _ (by assumption)).trans (by assumption))); (simp; omega); (simp; omega); (simp; omega); exact Below.alloc (by assumption) (by first | exact Nat.le_of_lt (by assumption) | exact Below.size (by assumption)) _)
   | (go_split_ands; refine ⟨?_, ?_, ?_, ?_, ?_, ?_, ?_, ?_, ?_, ?_, ?_, ?_, ?_, ?_, ?_, ?_, ?_, ?_, ?_, ?_, ?_⟩; (iterate 17 (exact (World.cell?_alloc_lt _ _ _ (by assumption)).trans (by assumption))); (iterate 3 (exact Nat.lt_of_lt_of_le (by assumption) (Below.drew (Below.alloc (Below.refl _ _) (Nat.le_refl _) _)).size)); exact Below.drew (Below.alloc (by assumption) (Below.size (by assumption)) _))
   | (go_split_ands; refine ⟨?_, ?_, ?_, ?_, ?_, ?_, ?_, ?_, ?_, ?_, ?_, ?_, ?_, ?_, ?_, ?_, ?_, ?_, ?_, ?_, ?_⟩; (iterate 20 (assumption)); assumption)
   | go_keep)
  ((first
    | (go_at_call 122
       go_split_ands
       with_reducible refine (short_any _ _).mono ?_
       rintro e w5 ⟨rfl, rfl⟩)
    | (go_at_call 121
       go_split_ands
       with_reducible refine (MA.out _).mono ?_
       rintro e w5 ⟨rfl, hb5⟩)
    | (go_at_call 120
       go_split_ands
       with_reducible refine (TG.out _).mono ?_
       rintro e w5 ⟨rfl, hb5⟩)))
 all_goals
  go_split_ands
  go_wp2_with fail
  go_ret
  exact ⟨ret_i64 hc.out, by first | assumption | (rw [hK]; assumption)⟩
end Go.Proofs.YteapnfdpkjbfhaaGreat
namespace Go.Proofs.YteapnfdpkjbfhaaGreat
set_option linter.unusedVariables false
set_option linter.unusedSimpArgs false
open Go.RowKit Go.ChangeShapes Go.WideShapes Go.ChangeAt
theorem cok_iff (T : Int) (k : Ky) (kd : Int) (f : Fl) (c : Int) (hT : T = 4096 ∨ T = 256) (h0 : 0 ≤ c) (h1 : c < 256 * T) : cok T k kd f (slotOf T k kd f c) (c / (64 * T)) = c ↔ W7 k kd f (slotOf T k kd f c) (c / (64 * T)) % T = c % T := by
 have hm : xr (slotOf T k kd f c) (W7 k kd f 64 (c / (64 * T)) % 64) = c / T % 64 := by
  unfold slotOf
  rw [xr_back _ _ (by omega)]
 unfold cok
 rw [hm]
 generalize W7 k kd f (slotOf T k kd f c) (c / (64 * T)) = x
 rcases hT with rfl | rfl <;> omega
def rdO (o : Option Int) : Value := .tuple #[.int .i64 (o.getD 0), .bool o.isSome]
set_option maxHeartbeats 2000000 in
theorem read_k (kd T s1 s2 M : Int) (hkt : KT kd T) (hT : T = 4096 ∨ T = 256) (HSH : shV T = .agg #[.int .u64 s1, .int .u64 2, .int .u64 s2, .int .u64 6, .int .u64 0, .int .u64 s2]) (hM : 256 * T = M) (hkI : I64 kd) (r : Rg) (f : Fl) (c : Int) (hf : f.I) (hr : Ep r.e)
 (AP : ∀ w, Calls Tryz.prog 145 #[shV T, .int .i64 c] w fun e' w' => e' = .returned (ptV (c / (64 * T) % 4) (c / T % 64) (c % T)) ∧ Below w.heap.size w w')
 (MD : ∀ (k : Ky) (x e : Int), I64 x → I64 e → ∀ w, Calls Tryz.prog 121 #[shV T, kyV k, .int .i64 kd, flV f, .int .i64 x, .int .i64 e] w fun e' w' => e' = .returned (ptV e (xr (x % 64) (W7 k kd f 64 e % 64)) (W7 k kd f x e % T)) ∧ Below w.heap.size w w') (w : World) :
 Calls Tryz.prog 111 #[rgV r, .int .i64 kd, flV f, .int .i64 c] w fun e' w' => e' = .returned (rdO (readC T r kd f c)) ∧ Below w.heap.size w w' := by
 have BY := fun w => beyond_any T w hT
 have KY := fun e w => key_any r e hr w
 have MK := fun k e he w => mask_any k kd f e hf hkI he w
 have HI := cok_iff T (f := f) (kd := kd) (c := c) (hT := hT)
 obtain ⟨o, ho⟩ : ∃ o, o = readC T r kd f c := ⟨_, rfl⟩
 rw [← ho]
 unfold readC at ho
 rw [HSH] at BY AP MD
 rw [hM] at BY HI
 unfold rgV flV kyV ptV rdO kyO kyV at *
 replace BY := hid BY
 replace AP := hid AP
 replace KY := hid KY
 replace MK := hid MK
 replace MD := hid MD
 replace HI := hid HI
 by_cases h0 : c < 0
 ·rw [if_pos (Or.inl h0)] at ho
  subst ho
  go_enter Tryz.func111, Tryz.ntmps111
  go_wp2_with fail
  have CA := Ce.made (w := w) (l := [.int .i64 r.e, .int .u64 r.p.a, .int .u64 r.p.b, .int .u64 r.c.a, .int .u64 r.c.b, .int .u64 r.n.a, .int .u64 r.n.b]) (T := 31) (g := w.heap.size) rfl
  replace CA := CA.alloc (.cells #[.int .i64 f.a, .int .i64 f.p, .int .i64 f.ta, .int .i64 f.tp] 77)
  have CF := Ce.made (w := (w.alloc (.cells #[.int .i64 r.e, .int .u64 r.p.a, .int .u64 r.p.b, .int .u64 r.c.a, .int .u64 r.c.b, .int .u64 r.n.a, .int .u64 r.n.b] 31))) (l := [.int .i64 f.a, .int .i64 f.p, .int .i64 f.ta, .int .i64 f.tp]) (T := 77) (g := w.heap.size + 1) (by simp)
  have B : Below w.heap.size w ((w.alloc (.cells #[.int .i64 r.e, .int .u64 r.p.a, .int .u64 r.p.b, .int .u64 r.c.a, .int .u64 r.c.b, .int .u64 r.n.a, .int .u64 r.n.b] 31)).alloc (.cells #[.int .i64 f.a, .int .i64 f.p, .int .i64 f.ta, .int .i64 f.tp] 77)) := (((Below.refl w.heap.size w).alloc (by first | exact Nat.le_refl _ | (simp; done) | (simp; omega)) (.cells #[.int .i64 r.e, .int .u64 r.p.a, .int .u64 r.p.b, .int .u64 r.c.a, .int .u64 r.c.b, .int .u64 r.n.a, .int .u64 r.n.b] 31)).alloc (by first | exact Nat.le_refl _ | (simp; done) | (simp; omega)) (.cells #[.int .i64 f.a, .int .i64 f.p, .int .i64 f.ta, .int .i64 f.tp] 77))
  generalize (w.alloc (.cells #[.int .i64 r.e, .int .u64 r.p.a, .int .u64 r.p.b, .int .u64 r.c.a, .int .u64 r.c.b, .int .u64 r.n.a, .int .u64 r.n.b] 31)).alloc (.cells #[.int .i64 f.a, .int .i64 f.p, .int .i64 f.ta, .int .i64 f.tp] 77) = w1 at *
  generalize w.heap.size + 1 = F at *
  generalize hK : w.heap.size = A at *
  refine (shapeOf_any kd T _ hkt).mono ?_
  rintro e' w2 ⟨rfl, hb⟩
  replace B := B.trans (hb.mono (Nat.le_of_lt CA.1))
  replace CA := CA.below hb
  replace CF := CF.below hb
  clear hb
  rw [HSH]
  obtain ⟨kA, qA, zA⟩ := id CA
  have cA0 := qA 0 _ rfl
  have cA1 := qA 1 _ rfl
  have cA2 := qA 2 _ rfl
  have cA3 := qA 3 _ rfl
  have cA4 := qA 4 _ rfl
  have cA5 := qA 5 _ rfl
  have cA6 := qA 6 _ rfl
  clear qA zA
  obtain ⟨kF, qF, zF⟩ := id CF
  have cF0 := qF 0 _ rfl
  have cF1 := qF 1 _ rfl
  have cF2 := qF 2 _ rfl
  have cF3 := qF 3 _ rfl
  clear qF zF
  go_wp2_with fail
  clear kA cA0 cA1 cA2 cA3 cA4 cA5 cA6
  clear kF cF0 cF1 cF2 cF3
  have CS := Ce.made (w := w2) (l := [.int .u64 s1, .int .u64 2, .int .u64 s2, .int .u64 6, .int .u64 0, .int .u64 s2]) (T := 180) (g := w2.heap.size) rfl
  replace B := B.alloc (Nat.le_of_lt CA.1) (.cells #[.int .u64 s1, .int .u64 2, .int .u64 s2, .int .u64 6, .int .u64 0, .int .u64 s2] 180)
  replace CA := CA.alloc (.cells #[.int .u64 s1, .int .u64 2, .int .u64 s2, .int .u64 6, .int .u64 0, .int .u64 s2] 180)
  replace CF := CF.alloc (.cells #[.int .u64 s1, .int .u64 2, .int .u64 s2, .int .u64 6, .int .u64 0, .int .u64 s2] 180)
  generalize w2.alloc (.cells #[.int .u64 s1, .int .u64 2, .int .u64 s2, .int .u64 6, .int .u64 0, .int .u64 s2] 180) = w3 at *
  generalize w2.heap.size = S at *
  obtain ⟨kA, qA, zA⟩ := id CA
  have cA0 := qA 0 _ rfl
  have cA1 := qA 1 _ rfl
  have cA2 := qA 2 _ rfl
  have cA3 := qA 3 _ rfl
  have cA4 := qA 4 _ rfl
  have cA5 := qA 5 _ rfl
  have cA6 := qA 6 _ rfl
  clear qA zA
  obtain ⟨kF, qF, zF⟩ := id CF
  have cF0 := qF 0 _ rfl
  have cF1 := qF 1 _ rfl
  have cF2 := qF 2 _ rfl
  have cF3 := qF 3 _ rfl
  clear qF zF
  obtain ⟨kS, qS, zS⟩ := id CS
  have cS0 := qS 0 _ rfl
  have cS1 := qS 1 _ rfl
  have cS2 := qS 2 _ rfl
  have cS3 := qS 3 _ rfl
  have cS4 := qS 4 _ rfl
  have cS5 := qS 5 _ rfl
  clear qS zS
  go_wp2
  refine bodyPost_ret (by simp [results, Tryz.results111, go_sem]) rfl ⟨rfl, ?_⟩
  rw [hK]
  exact B
 ·by_cases h1 : M ≤ c
  ·rw [if_pos (Or.inr (by omega))] at ho
   subst ho
   have g0 : 0 ≤ c := by omega
   go_enter Tryz.func111, Tryz.ntmps111
   go_wp2_with fail
   have CA := Ce.made (w := w) (l := [.int .i64 r.e, .int .u64 r.p.a, .int .u64 r.p.b, .int .u64 r.c.a, .int .u64 r.c.b, .int .u64 r.n.a, .int .u64 r.n.b]) (T := 31) (g := w.heap.size) rfl
   replace CA := CA.alloc (.cells #[.int .i64 f.a, .int .i64 f.p, .int .i64 f.ta, .int .i64 f.tp] 77)
   have CF := Ce.made (w := (w.alloc (.cells #[.int .i64 r.e, .int .u64 r.p.a, .int .u64 r.p.b, .int .u64 r.c.a, .int .u64 r.c.b, .int .u64 r.n.a, .int .u64 r.n.b] 31))) (l := [.int .i64 f.a, .int .i64 f.p, .int .i64 f.ta, .int .i64 f.tp]) (T := 77) (g := w.heap.size + 1) (by simp)
   have B : Below w.heap.size w ((w.alloc (.cells #[.int .i64 r.e, .int .u64 r.p.a, .int .u64 r.p.b, .int .u64 r.c.a, .int .u64 r.c.b, .int .u64 r.n.a, .int .u64 r.n.b] 31)).alloc (.cells #[.int .i64 f.a, .int .i64 f.p, .int .i64 f.ta, .int .i64 f.tp] 77)) := (((Below.refl w.heap.size w).alloc (by first | exact Nat.le_refl _ | (simp; done) | (simp; omega)) (.cells #[.int .i64 r.e, .int .u64 r.p.a, .int .u64 r.p.b, .int .u64 r.c.a, .int .u64 r.c.b, .int .u64 r.n.a, .int .u64 r.n.b] 31)).alloc (by first | exact Nat.le_refl _ | (simp; done) | (simp; omega)) (.cells #[.int .i64 f.a, .int .i64 f.p, .int .i64 f.ta, .int .i64 f.tp] 77))
   generalize (w.alloc (.cells #[.int .i64 r.e, .int .u64 r.p.a, .int .u64 r.p.b, .int .u64 r.c.a, .int .u64 r.c.b, .int .u64 r.n.a, .int .u64 r.n.b] 31)).alloc (.cells #[.int .i64 f.a, .int .i64 f.p, .int .i64 f.ta, .int .i64 f.tp] 77) = w1 at *
   generalize w.heap.size + 1 = F at *
   generalize hK : w.heap.size = A at *
   refine (shapeOf_any kd T _ hkt).mono ?_
   rintro e' w2 ⟨rfl, hb⟩
   replace B := B.trans (hb.mono (Nat.le_of_lt CA.1))
   replace CA := CA.below hb
   replace CF := CF.below hb
   clear hb
   rw [HSH]
   obtain ⟨kA, qA, zA⟩ := id CA
   have cA0 := qA 0 _ rfl
   have cA1 := qA 1 _ rfl
   have cA2 := qA 2 _ rfl
   have cA3 := qA 3 _ rfl
   have cA4 := qA 4 _ rfl
   have cA5 := qA 5 _ rfl
   have cA6 := qA 6 _ rfl
   clear qA zA
   obtain ⟨kF, qF, zF⟩ := id CF
   have cF0 := qF 0 _ rfl
   have cF1 := qF 1 _ rfl
   have cF2 := qF 2 _ rfl
   have cF3 := qF 3 _ rfl
   clear qF zF
   go_wp2_with fail
   clear kA cA0 cA1 cA2 cA3 cA4 cA5 cA6
   clear kF cF0 cF1 cF2 cF3
   have CS := Ce.made (w := w2) (l := [.int .u64 s1, .int .u64 2, .int .u64 s2, .int .u64 6, .int .u64 0, .int .u64 s2]) (T := 180) (g := w2.heap.size) rfl
   replace B := B.alloc (Nat.le_of_lt CA.1) (.cells #[.int .u64 s1, .int .u64 2, .int .u64 s2, .int .u64 6, .int .u64 0, .int .u64 s2] 180)
   replace CA := CA.alloc (.cells #[.int .u64 s1, .int .u64 2, .int .u64 s2, .int .u64 6, .int .u64 0, .int .u64 s2] 180)
   replace CF := CF.alloc (.cells #[.int .u64 s1, .int .u64 2, .int .u64 s2, .int .u64 6, .int .u64 0, .int .u64 s2] 180)
   generalize w2.alloc (.cells #[.int .u64 s1, .int .u64 2, .int .u64 s2, .int .u64 6, .int .u64 0, .int .u64 s2] 180) = w3 at *
   generalize w2.heap.size = S at *
   obtain ⟨kA, qA, zA⟩ := id CA
   have cA0 := qA 0 _ rfl
   have cA1 := qA 1 _ rfl
   have cA2 := qA 2 _ rfl
   have cA3 := qA 3 _ rfl
   have cA4 := qA 4 _ rfl
   have cA5 := qA 5 _ rfl
   have cA6 := qA 6 _ rfl
   clear qA zA
   obtain ⟨kF, qF, zF⟩ := id CF
   have cF0 := qF 0 _ rfl
   have cF1 := qF 1 _ rfl
   have cF2 := qF 2 _ rfl
   have cF3 := qF 3 _ rfl
   clear qF zF
   obtain ⟨kS, qS, zS⟩ := id CS
   have cS0 := qS 0 _ rfl
   have cS1 := qS 1 _ rfl
   have cS2 := qS 2 _ rfl
   have cS3 := qS 3 _ rfl
   have cS4 := qS 4 _ rfl
   have cS5 := qS 5 _ rfl
   clear qS zS
   go_wp2_with fail
   refine (BY.out _).mono ?_
   rintro e' w4 ⟨rfl, hb⟩
   clear kA cA0 cA1 cA2 cA3 cA4 cA5 cA6
   clear kF cF0 cF1 cF2 cF3
   clear kS cS0 cS1 cS2 cS3 cS4 cS5
   replace B := B.trans (hb.mono (Nat.le_of_lt CA.1))
   replace CA := CA.below hb
   replace CF := CF.below hb
   replace CS := CS.below hb
   clear hb
   obtain ⟨kA, qA, zA⟩ := id CA
   have cA0 := qA 0 _ rfl
   have cA1 := qA 1 _ rfl
   have cA2 := qA 2 _ rfl
   have cA3 := qA 3 _ rfl
   have cA4 := qA 4 _ rfl
   have cA5 := qA 5 _ rfl
   have cA6 := qA 6 _ rfl
   clear qA zA
   obtain ⟨kF, qF, zF⟩ := id CF
   have cF0 := qF 0 _ rfl
   have cF1 := qF 1 _ rfl
   have cF2 := qF 2 _ rfl
   have cF3 := qF 3 _ rfl
   clear qF zF
   obtain ⟨kS, qS, zS⟩ := id CS
   have cS0 := qS 0 _ rfl
   have cS1 := qS 1 _ rfl
   have cS2 := qS 2 _ rfl
   have cS3 := qS 3 _ rfl
   have cS4 := qS 4 _ rfl
   have cS5 := qS 5 _ rfl
   clear qS zS
   go_wp2
   refine bodyPost_ret (by simp [results, Tryz.results111, go_sem]) rfl ⟨rfl, ?_⟩
   rw [hK]
   exact B
  ·rw [if_neg (by omega)] at ho
   have g0 : 0 ≤ c := by omega
   have g1 : ¬ M ≤ c := h1
   obtain ⟨e, he⟩ : ∃ e, e = c / (64 * T) := ⟨_, rfl⟩
   obtain ⟨m, hm⟩ : ∃ m, m = c / T % 64 := ⟨_, rfl⟩
   obtain ⟨t, ht⟩ : ∃ t, t = c % T := ⟨_, rfl⟩
   have he4 : c / (64 * T) % 4 = e := by rw [he]; clear he hm ht; rcases hT with rfl | rfl <;> omega
   have heb : I64 e := ⟨by omega, by omega⟩
   replace HI := fun k => HI.out k g0 (by omega)
   replace AP := AP.out
   have hmb : m % 64 = m := by omega
   rw [he4, ← hm, ← ht] at AP
   unfold slotOf at ho HI
   rw [← he, ← hm] at ho HI
   rw [← ht] at HI
   replace AP := hid AP
   replace HI := hid HI
   have KE := KY.out e
   clear KY h1
   have HE := hid he
   have HM := hid hm
   have HT := hid ht
   have HE4 := hid he4
   clear he hm ht he4
   cases hk : keyOf r e with
   | none =>
     rw [hk] at ho KE
     subst ho
     have KY := hid KE
     clear KE
     go_enter Tryz.func111, Tryz.ntmps111
     go_wp2_with fail
     have CA := Ce.made (w := w) (l := [.int .i64 r.e, .int .u64 r.p.a, .int .u64 r.p.b, .int .u64 r.c.a, .int .u64 r.c.b, .int .u64 r.n.a, .int .u64 r.n.b]) (T := 31) (g := w.heap.size) rfl
     replace CA := CA.alloc (.cells #[.int .i64 f.a, .int .i64 f.p, .int .i64 f.ta, .int .i64 f.tp] 77)
     have CF := Ce.made (w := (w.alloc (.cells #[.int .i64 r.e, .int .u64 r.p.a, .int .u64 r.p.b, .int .u64 r.c.a, .int .u64 r.c.b, .int .u64 r.n.a, .int .u64 r.n.b] 31))) (l := [.int .i64 f.a, .int .i64 f.p, .int .i64 f.ta, .int .i64 f.tp]) (T := 77) (g := w.heap.size + 1) (by simp)
     have B : Below w.heap.size w ((w.alloc (.cells #[.int .i64 r.e, .int .u64 r.p.a, .int .u64 r.p.b, .int .u64 r.c.a, .int .u64 r.c.b, .int .u64 r.n.a, .int .u64 r.n.b] 31)).alloc (.cells #[.int .i64 f.a, .int .i64 f.p, .int .i64 f.ta, .int .i64 f.tp] 77)) := (((Below.refl w.heap.size w).alloc (by first | exact Nat.le_refl _ | (simp; done) | (simp; omega)) (.cells #[.int .i64 r.e, .int .u64 r.p.a, .int .u64 r.p.b, .int .u64 r.c.a, .int .u64 r.c.b, .int .u64 r.n.a, .int .u64 r.n.b] 31)).alloc (by first | exact Nat.le_refl _ | (simp; done) | (simp; omega)) (.cells #[.int .i64 f.a, .int .i64 f.p, .int .i64 f.ta, .int .i64 f.tp] 77))
     generalize (w.alloc (.cells #[.int .i64 r.e, .int .u64 r.p.a, .int .u64 r.p.b, .int .u64 r.c.a, .int .u64 r.c.b, .int .u64 r.n.a, .int .u64 r.n.b] 31)).alloc (.cells #[.int .i64 f.a, .int .i64 f.p, .int .i64 f.ta, .int .i64 f.tp] 77) = w1 at *
     generalize w.heap.size + 1 = F at *
     generalize hK : w.heap.size = A at *
     refine (shapeOf_any kd T _ hkt).mono ?_
     rintro e' w2 ⟨rfl, hb⟩
     replace B := B.trans (hb.mono (Nat.le_of_lt CA.1))
     replace CA := CA.below hb
     replace CF := CF.below hb
     clear hb
     rw [HSH]
     obtain ⟨kA, qA, zA⟩ := id CA
     have cA0 := qA 0 _ rfl
     have cA1 := qA 1 _ rfl
     have cA2 := qA 2 _ rfl
     have cA3 := qA 3 _ rfl
     have cA4 := qA 4 _ rfl
     have cA5 := qA 5 _ rfl
     have cA6 := qA 6 _ rfl
     clear qA zA
     obtain ⟨kF, qF, zF⟩ := id CF
     have cF0 := qF 0 _ rfl
     have cF1 := qF 1 _ rfl
     have cF2 := qF 2 _ rfl
     have cF3 := qF 3 _ rfl
     clear qF zF
     go_wp2_with fail
     clear kA cA0 cA1 cA2 cA3 cA4 cA5 cA6
     clear kF cF0 cF1 cF2 cF3
     have CS := Ce.made (w := w2) (l := [.int .u64 s1, .int .u64 2, .int .u64 s2, .int .u64 6, .int .u64 0, .int .u64 s2]) (T := 180) (g := w2.heap.size) rfl
     replace B := B.alloc (Nat.le_of_lt CA.1) (.cells #[.int .u64 s1, .int .u64 2, .int .u64 s2, .int .u64 6, .int .u64 0, .int .u64 s2] 180)
     replace CA := CA.alloc (.cells #[.int .u64 s1, .int .u64 2, .int .u64 s2, .int .u64 6, .int .u64 0, .int .u64 s2] 180)
     replace CF := CF.alloc (.cells #[.int .u64 s1, .int .u64 2, .int .u64 s2, .int .u64 6, .int .u64 0, .int .u64 s2] 180)
     generalize w2.alloc (.cells #[.int .u64 s1, .int .u64 2, .int .u64 s2, .int .u64 6, .int .u64 0, .int .u64 s2] 180) = w3 at *
     generalize w2.heap.size = S at *
     obtain ⟨kA, qA, zA⟩ := id CA
     have cA0 := qA 0 _ rfl
     have cA1 := qA 1 _ rfl
     have cA2 := qA 2 _ rfl
     have cA3 := qA 3 _ rfl
     have cA4 := qA 4 _ rfl
     have cA5 := qA 5 _ rfl
     have cA6 := qA 6 _ rfl
     clear qA zA
     obtain ⟨kF, qF, zF⟩ := id CF
     have cF0 := qF 0 _ rfl
     have cF1 := qF 1 _ rfl
     have cF2 := qF 2 _ rfl
     have cF3 := qF 3 _ rfl
     clear qF zF
     obtain ⟨kS, qS, zS⟩ := id CS
     have cS0 := qS 0 _ rfl
     have cS1 := qS 1 _ rfl
     have cS2 := qS 2 _ rfl
     have cS3 := qS 3 _ rfl
     have cS4 := qS 4 _ rfl
     have cS5 := qS 5 _ rfl
     clear qS zS
     go_wp2_with fail
     refine (BY.out _).mono ?_
     rintro e' w4 ⟨rfl, hb⟩
     clear kA cA0 cA1 cA2 cA3 cA4 cA5 cA6
     clear kF cF0 cF1 cF2 cF3
     clear kS cS0 cS1 cS2 cS3 cS4 cS5
     replace B := B.trans (hb.mono (Nat.le_of_lt CA.1))
     replace CA := CA.below hb
     replace CF := CF.below hb
     replace CS := CS.below hb
     clear hb
     obtain ⟨kA, qA, zA⟩ := id CA
     have cA0 := qA 0 _ rfl
     have cA1 := qA 1 _ rfl
     have cA2 := qA 2 _ rfl
     have cA3 := qA 3 _ rfl
     have cA4 := qA 4 _ rfl
     have cA5 := qA 5 _ rfl
     have cA6 := qA 6 _ rfl
     clear qA zA
     obtain ⟨kF, qF, zF⟩ := id CF
     have cF0 := qF 0 _ rfl
     have cF1 := qF 1 _ rfl
     have cF2 := qF 2 _ rfl
     have cF3 := qF 3 _ rfl
     clear qF zF
     obtain ⟨kS, qS, zS⟩ := id CS
     have cS0 := qS 0 _ rfl
     have cS1 := qS 1 _ rfl
     have cS2 := qS 2 _ rfl
     have cS3 := qS 3 _ rfl
     have cS4 := qS 4 _ rfl
     have cS5 := qS 5 _ rfl
     clear qS zS
     go_wp2_with fail
     refine (AP.out _).mono ?_
     rintro e' w5 ⟨rfl, hb⟩
     replace B := B.trans (hb.mono (Nat.le_of_lt CA.1))
     replace CA := CA.below hb
     replace CF := CF.below hb
     replace CS := CS.below hb
     clear hb
     clear kA cA0 cA1 cA2 cA3 cA4 cA5 cA6
     clear kF cF0 cF1 cF2 cF3
     clear kS cS0 cS1 cS2 cS3 cS4 cS5
     obtain ⟨kA, qA, zA⟩ := id CA
     have cA0 := qA 0 _ rfl
     have cA1 := qA 1 _ rfl
     have cA2 := qA 2 _ rfl
     have cA3 := qA 3 _ rfl
     have cA4 := qA 4 _ rfl
     have cA5 := qA 5 _ rfl
     have cA6 := qA 6 _ rfl
     clear qA zA
     obtain ⟨kF, qF, zF⟩ := id CF
     have cF0 := qF 0 _ rfl
     have cF1 := qF 1 _ rfl
     have cF2 := qF 2 _ rfl
     have cF3 := qF 3 _ rfl
     clear qF zF
     obtain ⟨kS, qS, zS⟩ := id CS
     have cS0 := qS 0 _ rfl
     have cS1 := qS 1 _ rfl
     have cS2 := qS 2 _ rfl
     have cS3 := qS 3 _ rfl
     have cS4 := qS 4 _ rfl
     have cS5 := qS 5 _ rfl
     clear qS zS
     go_wp2_with fail
     clear kA cA0 cA1 cA2 cA3 cA4 cA5 cA6
     clear kF cF0 cF1 cF2 cF3
     clear kS cS0 cS1 cS2 cS3 cS4 cS5
     have CG := Ce.made (w := w5) (l := [.int .i64 e, .int .i64 m, .int .i64 t]) (T := 184) (g := w5.heap.size) rfl
     replace B := B.alloc (Nat.le_of_lt CA.1) (.cells #[.int .i64 e, .int .i64 m, .int .i64 t] 184)
     replace CA := CA.alloc (.cells #[.int .i64 e, .int .i64 m, .int .i64 t] 184)
     replace CF := CF.alloc (.cells #[.int .i64 e, .int .i64 m, .int .i64 t] 184)
     replace CS := CS.alloc (.cells #[.int .i64 e, .int .i64 m, .int .i64 t] 184)
     generalize w5.alloc (.cells #[.int .i64 e, .int .i64 m, .int .i64 t] 184) = w6 at *
     generalize w5.heap.size = G at *
     obtain ⟨kA, qA, zA⟩ := id CA
     have cA0 := qA 0 _ rfl
     have cA1 := qA 1 _ rfl
     have cA2 := qA 2 _ rfl
     have cA3 := qA 3 _ rfl
     have cA4 := qA 4 _ rfl
     have cA5 := qA 5 _ rfl
     have cA6 := qA 6 _ rfl
     clear qA zA
     obtain ⟨kF, qF, zF⟩ := id CF
     have cF0 := qF 0 _ rfl
     have cF1 := qF 1 _ rfl
     have cF2 := qF 2 _ rfl
     have cF3 := qF 3 _ rfl
     clear qF zF
     obtain ⟨kS, qS, zS⟩ := id CS
     have cS0 := qS 0 _ rfl
     have cS1 := qS 1 _ rfl
     have cS2 := qS 2 _ rfl
     have cS3 := qS 3 _ rfl
     have cS4 := qS 4 _ rfl
     have cS5 := qS 5 _ rfl
     clear qS zS
     obtain ⟨kG, qG, zG⟩ := id CG
     have cG0 := qG 0 _ rfl
     have cG1 := qG 1 _ rfl
     have cG2 := qG 2 _ rfl
     clear qG zG
     go_wp2_with fail
     refine (KY.out _).mono ?_
     rintro e' w7 ⟨rfl, hb⟩
     replace B := B.trans (hb.mono (Nat.le_of_lt CA.1))
     replace CA := CA.below hb
     replace CF := CF.below hb
     replace CS := CS.below hb
     replace CG := CG.below hb
     clear hb
     clear kA cA0 cA1 cA2 cA3 cA4 cA5 cA6
     clear kF cF0 cF1 cF2 cF3
     clear kS cS0 cS1 cS2 cS3 cS4 cS5
     clear kG cG0 cG1 cG2
     obtain ⟨kA, qA, zA⟩ := id CA
     have cA0 := qA 0 _ rfl
     have cA1 := qA 1 _ rfl
     have cA2 := qA 2 _ rfl
     have cA3 := qA 3 _ rfl
     have cA4 := qA 4 _ rfl
     have cA5 := qA 5 _ rfl
     have cA6 := qA 6 _ rfl
     clear qA zA
     obtain ⟨kF, qF, zF⟩ := id CF
     have cF0 := qF 0 _ rfl
     have cF1 := qF 1 _ rfl
     have cF2 := qF 2 _ rfl
     have cF3 := qF 3 _ rfl
     clear qF zF
     obtain ⟨kS, qS, zS⟩ := id CS
     have cS0 := qS 0 _ rfl
     have cS1 := qS 1 _ rfl
     have cS2 := qS 2 _ rfl
     have cS3 := qS 3 _ rfl
     have cS4 := qS 4 _ rfl
     have cS5 := qS 5 _ rfl
     clear qS zS
     obtain ⟨kG, qG, zG⟩ := id CG
     have cG0 := qG 0 _ rfl
     have cG1 := qG 1 _ rfl
     have cG2 := qG 2 _ rfl
     clear qG zG
     go_wp2_with fail
     refine bodyPost_ret (by simp [results, Tryz.results111, go_sem]) rfl ⟨rfl, ?_⟩
     rw [hK]
     exact B.alloc (Nat.le_of_lt CA.1) _
   | some k =>
     rw [hk] at ho KE
     simp only at ho
     obtain ⟨sl, hsl⟩ : ∃ sl, sl = xr m (W7 k kd f 64 e % 64) := ⟨_, rfl⟩
     rw [← hsl] at ho
     have hslb : 0 ≤ sl ∧ sl < 64 := by rw [hsl]; exact xr_bd _ _ ⟨by omega, by omega⟩ ⟨by omega, by omega⟩
     have HI2 := HI.out k
     rw [← hsl] at HI2
     have hx : bits .xor .i64 m (wrap64 (W7 k kd f 64 e)) % 64 = sl := by
      rw [xor64, show wrap64 (W7 k kd f 64 e) % 64 = W7 k kd f 64 e % 64 from w64_mod _ 6 (by omega), hmb, hsl]
     have hback : xr (sl % 64) (W7 k kd f 64 e % 64) = m := by
      rw [show sl % 64 = sl from by omega, hsl, xr_back _ _ (by omega)]
     have MK2 := hid (MK.out k e heb)
     have MD2 := MD.out k sl e ⟨by omega, by omega⟩ heb
     rw [hback] at MD2
     obtain ⟨tv, htv⟩ : ∃ tv, tv = W7 k kd f sl e % T := ⟨_, rfl⟩
     rw [← htv] at MD2 HI2
     replace MD2 := hid MD2
     clear htv hback hsl MD MK HI hk hslb
     by_cases htt : tv = t
     ·rw [if_pos (HI2.2 htt)] at ho
      subst ho
      have HT2 := hid htt
      subst htt
      clear HI2 HT2
      have KY := hid KE
      clear KE
      go_enter Tryz.func111, Tryz.ntmps111
      go_wp2_with fail
      have CA := Ce.made (w := w) (l := [.int .i64 r.e, .int .u64 r.p.a, .int .u64 r.p.b, .int .u64 r.c.a, .int .u64 r.c.b, .int .u64 r.n.a, .int .u64 r.n.b]) (T := 31) (g := w.heap.size) rfl
      replace CA := CA.alloc (.cells #[.int .i64 f.a, .int .i64 f.p, .int .i64 f.ta, .int .i64 f.tp] 77)
      have CF := Ce.made (w := (w.alloc (.cells #[.int .i64 r.e, .int .u64 r.p.a, .int .u64 r.p.b, .int .u64 r.c.a, .int .u64 r.c.b, .int .u64 r.n.a, .int .u64 r.n.b] 31))) (l := [.int .i64 f.a, .int .i64 f.p, .int .i64 f.ta, .int .i64 f.tp]) (T := 77) (g := w.heap.size + 1) (by simp)
      have B : Below w.heap.size w ((w.alloc (.cells #[.int .i64 r.e, .int .u64 r.p.a, .int .u64 r.p.b, .int .u64 r.c.a, .int .u64 r.c.b, .int .u64 r.n.a, .int .u64 r.n.b] 31)).alloc (.cells #[.int .i64 f.a, .int .i64 f.p, .int .i64 f.ta, .int .i64 f.tp] 77)) := (((Below.refl w.heap.size w).alloc (by first | exact Nat.le_refl _ | (simp; done) | (simp; omega)) (.cells #[.int .i64 r.e, .int .u64 r.p.a, .int .u64 r.p.b, .int .u64 r.c.a, .int .u64 r.c.b, .int .u64 r.n.a, .int .u64 r.n.b] 31)).alloc (by first | exact Nat.le_refl _ | (simp; done) | (simp; omega)) (.cells #[.int .i64 f.a, .int .i64 f.p, .int .i64 f.ta, .int .i64 f.tp] 77))
      generalize (w.alloc (.cells #[.int .i64 r.e, .int .u64 r.p.a, .int .u64 r.p.b, .int .u64 r.c.a, .int .u64 r.c.b, .int .u64 r.n.a, .int .u64 r.n.b] 31)).alloc (.cells #[.int .i64 f.a, .int .i64 f.p, .int .i64 f.ta, .int .i64 f.tp] 77) = w1 at *
      generalize w.heap.size + 1 = F at *
      generalize hK : w.heap.size = A at *
      refine (shapeOf_any kd T _ hkt).mono ?_
      rintro e' w2 ⟨rfl, hb⟩
      replace B := B.trans (hb.mono (Nat.le_of_lt CA.1))
      replace CA := CA.below hb
      replace CF := CF.below hb
      clear hb
      rw [HSH]
      obtain ⟨kA, qA, zA⟩ := id CA
      have cA0 := qA 0 _ rfl
      have cA1 := qA 1 _ rfl
      have cA2 := qA 2 _ rfl
      have cA3 := qA 3 _ rfl
      have cA4 := qA 4 _ rfl
      have cA5 := qA 5 _ rfl
      have cA6 := qA 6 _ rfl
      clear qA zA
      obtain ⟨kF, qF, zF⟩ := id CF
      have cF0 := qF 0 _ rfl
      have cF1 := qF 1 _ rfl
      have cF2 := qF 2 _ rfl
      have cF3 := qF 3 _ rfl
      clear qF zF
      go_wp2_with fail
      clear kA cA0 cA1 cA2 cA3 cA4 cA5 cA6
      clear kF cF0 cF1 cF2 cF3
      have CS := Ce.made (w := w2) (l := [.int .u64 s1, .int .u64 2, .int .u64 s2, .int .u64 6, .int .u64 0, .int .u64 s2]) (T := 180) (g := w2.heap.size) rfl
      replace B := B.alloc (Nat.le_of_lt CA.1) (.cells #[.int .u64 s1, .int .u64 2, .int .u64 s2, .int .u64 6, .int .u64 0, .int .u64 s2] 180)
      replace CA := CA.alloc (.cells #[.int .u64 s1, .int .u64 2, .int .u64 s2, .int .u64 6, .int .u64 0, .int .u64 s2] 180)
      replace CF := CF.alloc (.cells #[.int .u64 s1, .int .u64 2, .int .u64 s2, .int .u64 6, .int .u64 0, .int .u64 s2] 180)
      generalize w2.alloc (.cells #[.int .u64 s1, .int .u64 2, .int .u64 s2, .int .u64 6, .int .u64 0, .int .u64 s2] 180) = w3 at *
      generalize w2.heap.size = S at *
      obtain ⟨kA, qA, zA⟩ := id CA
      have cA0 := qA 0 _ rfl
      have cA1 := qA 1 _ rfl
      have cA2 := qA 2 _ rfl
      have cA3 := qA 3 _ rfl
      have cA4 := qA 4 _ rfl
      have cA5 := qA 5 _ rfl
      have cA6 := qA 6 _ rfl
      clear qA zA
      obtain ⟨kF, qF, zF⟩ := id CF
      have cF0 := qF 0 _ rfl
      have cF1 := qF 1 _ rfl
      have cF2 := qF 2 _ rfl
      have cF3 := qF 3 _ rfl
      clear qF zF
      obtain ⟨kS, qS, zS⟩ := id CS
      have cS0 := qS 0 _ rfl
      have cS1 := qS 1 _ rfl
      have cS2 := qS 2 _ rfl
      have cS3 := qS 3 _ rfl
      have cS4 := qS 4 _ rfl
      have cS5 := qS 5 _ rfl
      clear qS zS
      go_wp2_with fail
      refine (BY.out _).mono ?_
      rintro e' w4 ⟨rfl, hb⟩
      clear kA cA0 cA1 cA2 cA3 cA4 cA5 cA6
      clear kF cF0 cF1 cF2 cF3
      clear kS cS0 cS1 cS2 cS3 cS4 cS5
      replace B := B.trans (hb.mono (Nat.le_of_lt CA.1))
      replace CA := CA.below hb
      replace CF := CF.below hb
      replace CS := CS.below hb
      clear hb
      obtain ⟨kA, qA, zA⟩ := id CA
      have cA0 := qA 0 _ rfl
      have cA1 := qA 1 _ rfl
      have cA2 := qA 2 _ rfl
      have cA3 := qA 3 _ rfl
      have cA4 := qA 4 _ rfl
      have cA5 := qA 5 _ rfl
      have cA6 := qA 6 _ rfl
      clear qA zA
      obtain ⟨kF, qF, zF⟩ := id CF
      have cF0 := qF 0 _ rfl
      have cF1 := qF 1 _ rfl
      have cF2 := qF 2 _ rfl
      have cF3 := qF 3 _ rfl
      clear qF zF
      obtain ⟨kS, qS, zS⟩ := id CS
      have cS0 := qS 0 _ rfl
      have cS1 := qS 1 _ rfl
      have cS2 := qS 2 _ rfl
      have cS3 := qS 3 _ rfl
      have cS4 := qS 4 _ rfl
      have cS5 := qS 5 _ rfl
      clear qS zS
      go_wp2_with fail
      refine (AP.out _).mono ?_
      rintro e' w5 ⟨rfl, hb⟩
      replace B := B.trans (hb.mono (Nat.le_of_lt CA.1))
      replace CA := CA.below hb
      replace CF := CF.below hb
      replace CS := CS.below hb
      clear hb
      clear kA cA0 cA1 cA2 cA3 cA4 cA5 cA6
      clear kF cF0 cF1 cF2 cF3
      clear kS cS0 cS1 cS2 cS3 cS4 cS5
      obtain ⟨kA, qA, zA⟩ := id CA
      have cA0 := qA 0 _ rfl
      have cA1 := qA 1 _ rfl
      have cA2 := qA 2 _ rfl
      have cA3 := qA 3 _ rfl
      have cA4 := qA 4 _ rfl
      have cA5 := qA 5 _ rfl
      have cA6 := qA 6 _ rfl
      clear qA zA
      obtain ⟨kF, qF, zF⟩ := id CF
      have cF0 := qF 0 _ rfl
      have cF1 := qF 1 _ rfl
      have cF2 := qF 2 _ rfl
      have cF3 := qF 3 _ rfl
      clear qF zF
      obtain ⟨kS, qS, zS⟩ := id CS
      have cS0 := qS 0 _ rfl
      have cS1 := qS 1 _ rfl
      have cS2 := qS 2 _ rfl
      have cS3 := qS 3 _ rfl
      have cS4 := qS 4 _ rfl
      have cS5 := qS 5 _ rfl
      clear qS zS
      go_wp2_with fail
      clear kA cA0 cA1 cA2 cA3 cA4 cA5 cA6
      clear kF cF0 cF1 cF2 cF3
      clear kS cS0 cS1 cS2 cS3 cS4 cS5
      have CG := Ce.made (w := w5) (l := [.int .i64 e, .int .i64 m, .int .i64 tv]) (T := 184) (g := w5.heap.size) rfl
      replace B := B.alloc (Nat.le_of_lt CA.1) (.cells #[.int .i64 e, .int .i64 m, .int .i64 tv] 184)
      replace CA := CA.alloc (.cells #[.int .i64 e, .int .i64 m, .int .i64 tv] 184)
      replace CF := CF.alloc (.cells #[.int .i64 e, .int .i64 m, .int .i64 tv] 184)
      replace CS := CS.alloc (.cells #[.int .i64 e, .int .i64 m, .int .i64 tv] 184)
      generalize w5.alloc (.cells #[.int .i64 e, .int .i64 m, .int .i64 tv] 184) = w6 at *
      generalize w5.heap.size = G at *
      obtain ⟨kA, qA, zA⟩ := id CA
      have cA0 := qA 0 _ rfl
      have cA1 := qA 1 _ rfl
      have cA2 := qA 2 _ rfl
      have cA3 := qA 3 _ rfl
      have cA4 := qA 4 _ rfl
      have cA5 := qA 5 _ rfl
      have cA6 := qA 6 _ rfl
      clear qA zA
      obtain ⟨kF, qF, zF⟩ := id CF
      have cF0 := qF 0 _ rfl
      have cF1 := qF 1 _ rfl
      have cF2 := qF 2 _ rfl
      have cF3 := qF 3 _ rfl
      clear qF zF
      obtain ⟨kS, qS, zS⟩ := id CS
      have cS0 := qS 0 _ rfl
      have cS1 := qS 1 _ rfl
      have cS2 := qS 2 _ rfl
      have cS3 := qS 3 _ rfl
      have cS4 := qS 4 _ rfl
      have cS5 := qS 5 _ rfl
      clear qS zS
      obtain ⟨kG, qG, zG⟩ := id CG
      have cG0 := qG 0 _ rfl
      have cG1 := qG 1 _ rfl
      have cG2 := qG 2 _ rfl
      clear qG zG
      go_wp2_with fail
      refine (KY.out _).mono ?_
      rintro e' w7 ⟨rfl, hb⟩
      replace B := B.trans (hb.mono (Nat.le_of_lt CA.1))
      replace CA := CA.below hb
      replace CF := CF.below hb
      replace CS := CS.below hb
      replace CG := CG.below hb
      clear hb
      clear kA cA0 cA1 cA2 cA3 cA4 cA5 cA6
      clear kF cF0 cF1 cF2 cF3
      clear kS cS0 cS1 cS2 cS3 cS4 cS5
      clear kG cG0 cG1 cG2
      obtain ⟨kA, qA, zA⟩ := id CA
      have cA0 := qA 0 _ rfl
      have cA1 := qA 1 _ rfl
      have cA2 := qA 2 _ rfl
      have cA3 := qA 3 _ rfl
      have cA4 := qA 4 _ rfl
      have cA5 := qA 5 _ rfl
      have cA6 := qA 6 _ rfl
      clear qA zA
      obtain ⟨kF, qF, zF⟩ := id CF
      have cF0 := qF 0 _ rfl
      have cF1 := qF 1 _ rfl
      have cF2 := qF 2 _ rfl
      have cF3 := qF 3 _ rfl
      clear qF zF
      obtain ⟨kS, qS, zS⟩ := id CS
      have cS0 := qS 0 _ rfl
      have cS1 := qS 1 _ rfl
      have cS2 := qS 2 _ rfl
      have cS3 := qS 3 _ rfl
      have cS4 := qS 4 _ rfl
      have cS5 := qS 5 _ rfl
      clear qS zS
      obtain ⟨kG, qG, zG⟩ := id CG
      have cG0 := qG 0 _ rfl
      have cG1 := qG 1 _ rfl
      have cG2 := qG 2 _ rfl
      clear qG zG
      go_wp2_with fail
      clear kA cA0 cA1 cA2 cA3 cA4 cA5 cA6
      clear kF cF0 cF1 cF2 cF3
      clear kS cS0 cS1 cS2 cS3 cS4 cS5
      clear kG cG0 cG1 cG2
      have CD := Ce.made (w := w7) (l := [.int .u64 k.a, .int .u64 k.b]) (T := 29) (g := w7.heap.size) rfl
      replace B := B.alloc (Nat.le_of_lt CA.1) (.cells #[.int .u64 k.a, .int .u64 k.b] 29)
      replace CA := CA.alloc (.cells #[.int .u64 k.a, .int .u64 k.b] 29)
      replace CF := CF.alloc (.cells #[.int .u64 k.a, .int .u64 k.b] 29)
      replace CS := CS.alloc (.cells #[.int .u64 k.a, .int .u64 k.b] 29)
      replace CG := CG.alloc (.cells #[.int .u64 k.a, .int .u64 k.b] 29)
      generalize w7.alloc (.cells #[.int .u64 k.a, .int .u64 k.b] 29) = w8 at *
      generalize w7.heap.size = D at *
      obtain ⟨kA, qA, zA⟩ := id CA
      have cA0 := qA 0 _ rfl
      have cA1 := qA 1 _ rfl
      have cA2 := qA 2 _ rfl
      have cA3 := qA 3 _ rfl
      have cA4 := qA 4 _ rfl
      have cA5 := qA 5 _ rfl
      have cA6 := qA 6 _ rfl
      clear qA zA
      obtain ⟨kF, qF, zF⟩ := id CF
      have cF0 := qF 0 _ rfl
      have cF1 := qF 1 _ rfl
      have cF2 := qF 2 _ rfl
      have cF3 := qF 3 _ rfl
      clear qF zF
      obtain ⟨kS, qS, zS⟩ := id CS
      have cS0 := qS 0 _ rfl
      have cS1 := qS 1 _ rfl
      have cS2 := qS 2 _ rfl
      have cS3 := qS 3 _ rfl
      have cS4 := qS 4 _ rfl
      have cS5 := qS 5 _ rfl
      clear qS zS
      obtain ⟨kG, qG, zG⟩ := id CG
      have cG0 := qG 0 _ rfl
      have cG1 := qG 1 _ rfl
      have cG2 := qG 2 _ rfl
      clear qG zG
      obtain ⟨kD, qD, zD⟩ := id CD
      have cD0 := qD 0 _ rfl
      have cD1 := qD 1 _ rfl
      clear qD zD
      go_region_held3 (fun w' => w'.cell? ⟨F, 0, none⟩ = some (.int .i64 f.a) ∧ w'.cell? ⟨F, 1, none⟩ = some (.int .i64 f.p) ∧ w'.cell? ⟨F, 2, none⟩ = some (.int .i64 f.ta) ∧ w'.cell? ⟨F, 3, none⟩ = some (.int .i64 f.tp) ∧ w'.cell? ⟨S, 0, none⟩ = some (.int .u64 s1) ∧ w'.cell? ⟨S, 1, none⟩ = some (.int .u64 2) ∧ w'.cell? ⟨S, 2, none⟩ = some (.int .u64 s2) ∧ w'.cell? ⟨S, 3, none⟩ = some (.int .u64 6) ∧ w'.cell? ⟨S, 4, none⟩ = some (.int .u64 0) ∧ w'.cell? ⟨S, 5, none⟩ = some (.int .u64 s2) ∧ w'.cell? ⟨G, 0, none⟩ = some (.int .i64 e) ∧ w'.cell? ⟨G, 1, none⟩ = some (.int .i64 m) ∧ w'.cell? ⟨G, 2, none⟩ = some (.int .i64 tv) ∧ w'.cell? ⟨D, 0, none⟩ = some (.int .u64 k.a) ∧ w'.cell? ⟨D, 1, none⟩ = some (.int .u64 k.b) ∧ F < w'.heap.size ∧ S < w'.heap.size ∧ G < w'.heap.size ∧ D < w'.heap.size ∧ A < w'.heap.size ∧ Below A w w')
       (first
        | (go_split_ands; refine ⟨?_, ?_, ?_, ?_, ?_, ?_, ?_, ?_, ?_, ?_, ?_, ?_, ?_, ?_, ?_, ?_, ?_, ?_, ?_, ?_, ?_⟩; (iterate 15 (exact (hb5.cell (by assumption)).trans (by assumption))); (iterate 5 (exact Nat.lt_of_lt_of_le (by assumption) hb5.size)); exact Below.trans (by assumption) (hb5.mono (by first | exact Nat.le_of_lt (by assumption) | exact Below.size (by assumption))))
        | (refine ⟨?_, ?_, ?_, ?_, ?_, ?_, ?_, ?_, ?_, ?_, ?_, ?_, ?_, ?_, ?_, ?_, ?_, ?_, ?_, ?_, ?_⟩; (iterate 20 (assumption)); exact Below.drew (by assumption))
        | (go_split_ands; refine ⟨?_, ?_, ?_, ?_, ?_, ?_, ?_, ?_, ?_, ?_, ?_, ?_, ?_, ?_, ?_, ?_, ?_, ?_, ?_, ?_, ?_⟩; (iterate 15 (exact (World.cell?_alloc_lt _ _ _ (by assumption)).trans (by assumption))); (simp; omega); (simp; omega); (simp; omega); (simp; omega); (simp; omega); exact Below.alloc (by assumption) (by first | exact Nat.le_of_lt (by assumption) | exact Below.size (by assumption)) _)
        | (go_split_ands; refine ⟨?_, ?_, ?_, ?_, ?_, ?_, ?_, ?_, ?_, ?_, ?_, ?_, ?_, ?_, ?_, ?_, ?_, ?_, ?_, ?_, ?_⟩; (iterate 15 (exact (World.cell?_alloc_lt _ _ _ (by assumption)).trans (by assumption))); (iterate 5 (exact Nat.lt_of_lt_of_le (by assumption) (Below.drew (Below.alloc (Below.refl _ _) (Nat.le_refl _) _)).size)); exact Below.drew (Below.alloc (by assumption) (Below.size (by assumption)) _))
        | (go_split_ands; refine ⟨?_, ?_, ?_, ?_, ?_, ?_, ?_, ?_, ?_, ?_, ?_, ?_, ?_, ?_, ?_, ?_, ?_, ?_, ?_, ?_, ?_⟩; (iterate 20 (assumption)); assumption)
        | go_keep)
       ((first
         | (go_at_call 148
            go_split_ands
            with_reducible refine (MK2.out _).mono ?_
            rintro e w5 ⟨rfl, hb5⟩)
         | (go_at_call 147
            go_split_ands
            with_reducible refine (cutI s2 6 _ _ ?_).mono ?_
            ·decide
            rintro e w5 ⟨rfl, hb5⟩)))
      go_split_ands
      go_wp2_with fail
      go_region_held3 (fun w' => w'.cell? ⟨F, 0, none⟩ = some (.int .i64 f.a) ∧ w'.cell? ⟨F, 1, none⟩ = some (.int .i64 f.p) ∧ w'.cell? ⟨F, 2, none⟩ = some (.int .i64 f.ta) ∧ w'.cell? ⟨F, 3, none⟩ = some (.int .i64 f.tp) ∧ w'.cell? ⟨S, 0, none⟩ = some (.int .u64 s1) ∧ w'.cell? ⟨S, 1, none⟩ = some (.int .u64 2) ∧ w'.cell? ⟨S, 2, none⟩ = some (.int .u64 s2) ∧ w'.cell? ⟨S, 3, none⟩ = some (.int .u64 6) ∧ w'.cell? ⟨S, 4, none⟩ = some (.int .u64 0) ∧ w'.cell? ⟨S, 5, none⟩ = some (.int .u64 s2) ∧ w'.cell? ⟨G, 0, none⟩ = some (.int .i64 e) ∧ w'.cell? ⟨G, 1, none⟩ = some (.int .i64 m) ∧ w'.cell? ⟨G, 2, none⟩ = some (.int .i64 tv) ∧ w'.cell? ⟨D, 0, none⟩ = some (.int .u64 k.a) ∧ w'.cell? ⟨D, 1, none⟩ = some (.int .u64 k.b) ∧ F < w'.heap.size ∧ S < w'.heap.size ∧ G < w'.heap.size ∧ D < w'.heap.size ∧ A < w'.heap.size ∧ Below A w w')
       (first
        | (go_split_ands; refine ⟨?_, ?_, ?_, ?_, ?_, ?_, ?_, ?_, ?_, ?_, ?_, ?_, ?_, ?_, ?_, ?_, ?_, ?_, ?_, ?_, ?_⟩; (iterate 15 (exact (hb5.cell (by assumption)).trans (by assumption))); (iterate 5 (exact Nat.lt_of_lt_of_le (by assumption) hb5.size)); exact Below.trans (by assumption) (hb5.mono (by first | exact Nat.le_of_lt (by assumption) | exact Below.size (by assumption))))
        | (refine ⟨?_, ?_, ?_, ?_, ?_, ?_, ?_, ?_, ?_, ?_, ?_, ?_, ?_, ?_, ?_, ?_, ?_, ?_, ?_, ?_, ?_⟩; (iterate 20 (assumption)); exact Below.drew (by assumption))
        | (go_split_ands; refine ⟨?_, ?_, ?_, ?_, ?_, ?_, ?_, ?_, ?_, ?_, ?_, ?_, ?_, ?_, ?_, ?_, ?_, ?_, ?_, ?_, ?_⟩; (iterate 15 (exact (World.cell?_alloc_lt _ _ _ (by assumption)).trans (by assumption))); (simp; omega); (simp; omega); (simp; omega); (simp; omega); (simp; omega); exact Below.alloc (by assumption) (by first | exact Nat.le_of_lt (by assumption) | exact Below.size (by assumption)) _)
        | (go_split_ands; refine ⟨?_, ?_, ?_, ?_, ?_, ?_, ?_, ?_, ?_, ?_, ?_, ?_, ?_, ?_, ?_, ?_, ?_, ?_, ?_, ?_, ?_⟩; (iterate 15 (exact (World.cell?_alloc_lt _ _ _ (by assumption)).trans (by assumption))); (iterate 5 (exact Nat.lt_of_lt_of_le (by assumption) (Below.drew (Below.alloc (Below.refl _ _) (Nat.le_refl _) _)).size)); exact Below.drew (Below.alloc (by assumption) (Below.size (by assumption)) _))
        | (go_split_ands; refine ⟨?_, ?_, ?_, ?_, ?_, ?_, ?_, ?_, ?_, ?_, ?_, ?_, ?_, ?_, ?_, ?_, ?_, ?_, ?_, ?_, ?_⟩; (iterate 20 (assumption)); assumption)
        | go_keep)
       ((first
         | (go_at_call 121
            go_split_ands
            with_reducible refine (MD2.out _).mono ?_
            rintro e w5 ⟨rfl, hb5⟩)))
      go_split_ands
      go_wp2_with fail
      refine bodyPost_ret (by simp [results, Tryz.results111, go_sem]) rfl ⟨rfl, ?_⟩
      first | assumption | (rw [hK]; assumption)
     ·rw [if_neg (fun h => htt (HI2.1 h))] at ho
      subst ho
      have hb1 : (tv == t) = false := by simp [htt]
      clear HI2
      have KY := hid KE
      clear KE
      go_enter Tryz.func111, Tryz.ntmps111
      go_wp2_with fail
      have CA := Ce.made (w := w) (l := [.int .i64 r.e, .int .u64 r.p.a, .int .u64 r.p.b, .int .u64 r.c.a, .int .u64 r.c.b, .int .u64 r.n.a, .int .u64 r.n.b]) (T := 31) (g := w.heap.size) rfl
      replace CA := CA.alloc (.cells #[.int .i64 f.a, .int .i64 f.p, .int .i64 f.ta, .int .i64 f.tp] 77)
      have CF := Ce.made (w := (w.alloc (.cells #[.int .i64 r.e, .int .u64 r.p.a, .int .u64 r.p.b, .int .u64 r.c.a, .int .u64 r.c.b, .int .u64 r.n.a, .int .u64 r.n.b] 31))) (l := [.int .i64 f.a, .int .i64 f.p, .int .i64 f.ta, .int .i64 f.tp]) (T := 77) (g := w.heap.size + 1) (by simp)
      have B : Below w.heap.size w ((w.alloc (.cells #[.int .i64 r.e, .int .u64 r.p.a, .int .u64 r.p.b, .int .u64 r.c.a, .int .u64 r.c.b, .int .u64 r.n.a, .int .u64 r.n.b] 31)).alloc (.cells #[.int .i64 f.a, .int .i64 f.p, .int .i64 f.ta, .int .i64 f.tp] 77)) := (((Below.refl w.heap.size w).alloc (by first | exact Nat.le_refl _ | (simp; done) | (simp; omega)) (.cells #[.int .i64 r.e, .int .u64 r.p.a, .int .u64 r.p.b, .int .u64 r.c.a, .int .u64 r.c.b, .int .u64 r.n.a, .int .u64 r.n.b] 31)).alloc (by first | exact Nat.le_refl _ | (simp; done) | (simp; omega)) (.cells #[.int .i64 f.a, .int .i64 f.p, .int .i64 f.ta, .int .i64 f.tp] 77))
      generalize (w.alloc (.cells #[.int .i64 r.e, .int .u64 r.p.a, .int .u64 r.p.b, .int .u64 r.c.a, .int .u64 r.c.b, .int .u64 r.n.a, .int .u64 r.n.b] 31)).alloc (.cells #[.int .i64 f.a, .int .i64 f.p, .int .i64 f.ta, .int .i64 f.tp] 77) = w1 at *
      generalize w.heap.size + 1 = F at *
      generalize hK : w.heap.size = A at *
      refine (shapeOf_any kd T _ hkt).mono ?_
      rintro e' w2 ⟨rfl, hb⟩
      replace B := B.trans (hb.mono (Nat.le_of_lt CA.1))
      replace CA := CA.below hb
      replace CF := CF.below hb
      clear hb
      rw [HSH]
      obtain ⟨kA, qA, zA⟩ := id CA
      have cA0 := qA 0 _ rfl
      have cA1 := qA 1 _ rfl
      have cA2 := qA 2 _ rfl
      have cA3 := qA 3 _ rfl
      have cA4 := qA 4 _ rfl
      have cA5 := qA 5 _ rfl
      have cA6 := qA 6 _ rfl
      clear qA zA
      obtain ⟨kF, qF, zF⟩ := id CF
      have cF0 := qF 0 _ rfl
      have cF1 := qF 1 _ rfl
      have cF2 := qF 2 _ rfl
      have cF3 := qF 3 _ rfl
      clear qF zF
      go_wp2_with fail
      clear kA cA0 cA1 cA2 cA3 cA4 cA5 cA6
      clear kF cF0 cF1 cF2 cF3
      have CS := Ce.made (w := w2) (l := [.int .u64 s1, .int .u64 2, .int .u64 s2, .int .u64 6, .int .u64 0, .int .u64 s2]) (T := 180) (g := w2.heap.size) rfl
      replace B := B.alloc (Nat.le_of_lt CA.1) (.cells #[.int .u64 s1, .int .u64 2, .int .u64 s2, .int .u64 6, .int .u64 0, .int .u64 s2] 180)
      replace CA := CA.alloc (.cells #[.int .u64 s1, .int .u64 2, .int .u64 s2, .int .u64 6, .int .u64 0, .int .u64 s2] 180)
      replace CF := CF.alloc (.cells #[.int .u64 s1, .int .u64 2, .int .u64 s2, .int .u64 6, .int .u64 0, .int .u64 s2] 180)
      generalize w2.alloc (.cells #[.int .u64 s1, .int .u64 2, .int .u64 s2, .int .u64 6, .int .u64 0, .int .u64 s2] 180) = w3 at *
      generalize w2.heap.size = S at *
      obtain ⟨kA, qA, zA⟩ := id CA
      have cA0 := qA 0 _ rfl
      have cA1 := qA 1 _ rfl
      have cA2 := qA 2 _ rfl
      have cA3 := qA 3 _ rfl
      have cA4 := qA 4 _ rfl
      have cA5 := qA 5 _ rfl
      have cA6 := qA 6 _ rfl
      clear qA zA
      obtain ⟨kF, qF, zF⟩ := id CF
      have cF0 := qF 0 _ rfl
      have cF1 := qF 1 _ rfl
      have cF2 := qF 2 _ rfl
      have cF3 := qF 3 _ rfl
      clear qF zF
      obtain ⟨kS, qS, zS⟩ := id CS
      have cS0 := qS 0 _ rfl
      have cS1 := qS 1 _ rfl
      have cS2 := qS 2 _ rfl
      have cS3 := qS 3 _ rfl
      have cS4 := qS 4 _ rfl
      have cS5 := qS 5 _ rfl
      clear qS zS
      go_wp2_with fail
      refine (BY.out _).mono ?_
      rintro e' w4 ⟨rfl, hb⟩
      clear kA cA0 cA1 cA2 cA3 cA4 cA5 cA6
      clear kF cF0 cF1 cF2 cF3
      clear kS cS0 cS1 cS2 cS3 cS4 cS5
      replace B := B.trans (hb.mono (Nat.le_of_lt CA.1))
      replace CA := CA.below hb
      replace CF := CF.below hb
      replace CS := CS.below hb
      clear hb
      obtain ⟨kA, qA, zA⟩ := id CA
      have cA0 := qA 0 _ rfl
      have cA1 := qA 1 _ rfl
      have cA2 := qA 2 _ rfl
      have cA3 := qA 3 _ rfl
      have cA4 := qA 4 _ rfl
      have cA5 := qA 5 _ rfl
      have cA6 := qA 6 _ rfl
      clear qA zA
      obtain ⟨kF, qF, zF⟩ := id CF
      have cF0 := qF 0 _ rfl
      have cF1 := qF 1 _ rfl
      have cF2 := qF 2 _ rfl
      have cF3 := qF 3 _ rfl
      clear qF zF
      obtain ⟨kS, qS, zS⟩ := id CS
      have cS0 := qS 0 _ rfl
      have cS1 := qS 1 _ rfl
      have cS2 := qS 2 _ rfl
      have cS3 := qS 3 _ rfl
      have cS4 := qS 4 _ rfl
      have cS5 := qS 5 _ rfl
      clear qS zS
      go_wp2_with fail
      refine (AP.out _).mono ?_
      rintro e' w5 ⟨rfl, hb⟩
      replace B := B.trans (hb.mono (Nat.le_of_lt CA.1))
      replace CA := CA.below hb
      replace CF := CF.below hb
      replace CS := CS.below hb
      clear hb
      clear kA cA0 cA1 cA2 cA3 cA4 cA5 cA6
      clear kF cF0 cF1 cF2 cF3
      clear kS cS0 cS1 cS2 cS3 cS4 cS5
      obtain ⟨kA, qA, zA⟩ := id CA
      have cA0 := qA 0 _ rfl
      have cA1 := qA 1 _ rfl
      have cA2 := qA 2 _ rfl
      have cA3 := qA 3 _ rfl
      have cA4 := qA 4 _ rfl
      have cA5 := qA 5 _ rfl
      have cA6 := qA 6 _ rfl
      clear qA zA
      obtain ⟨kF, qF, zF⟩ := id CF
      have cF0 := qF 0 _ rfl
      have cF1 := qF 1 _ rfl
      have cF2 := qF 2 _ rfl
      have cF3 := qF 3 _ rfl
      clear qF zF
      obtain ⟨kS, qS, zS⟩ := id CS
      have cS0 := qS 0 _ rfl
      have cS1 := qS 1 _ rfl
      have cS2 := qS 2 _ rfl
      have cS3 := qS 3 _ rfl
      have cS4 := qS 4 _ rfl
      have cS5 := qS 5 _ rfl
      clear qS zS
      go_wp2_with fail
      clear kA cA0 cA1 cA2 cA3 cA4 cA5 cA6
      clear kF cF0 cF1 cF2 cF3
      clear kS cS0 cS1 cS2 cS3 cS4 cS5
      have CG := Ce.made (w := w5) (l := [.int .i64 e, .int .i64 m, .int .i64 t]) (T := 184) (g := w5.heap.size) rfl
      replace B := B.alloc (Nat.le_of_lt CA.1) (.cells #[.int .i64 e, .int .i64 m, .int .i64 t] 184)
      replace CA := CA.alloc (.cells #[.int .i64 e, .int .i64 m, .int .i64 t] 184)
      replace CF := CF.alloc (.cells #[.int .i64 e, .int .i64 m, .int .i64 t] 184)
      replace CS := CS.alloc (.cells #[.int .i64 e, .int .i64 m, .int .i64 t] 184)
      generalize w5.alloc (.cells #[.int .i64 e, .int .i64 m, .int .i64 t] 184) = w6 at *
      generalize w5.heap.size = G at *
      obtain ⟨kA, qA, zA⟩ := id CA
      have cA0 := qA 0 _ rfl
      have cA1 := qA 1 _ rfl
      have cA2 := qA 2 _ rfl
      have cA3 := qA 3 _ rfl
      have cA4 := qA 4 _ rfl
      have cA5 := qA 5 _ rfl
      have cA6 := qA 6 _ rfl
      clear qA zA
      obtain ⟨kF, qF, zF⟩ := id CF
      have cF0 := qF 0 _ rfl
      have cF1 := qF 1 _ rfl
      have cF2 := qF 2 _ rfl
      have cF3 := qF 3 _ rfl
      clear qF zF
      obtain ⟨kS, qS, zS⟩ := id CS
      have cS0 := qS 0 _ rfl
      have cS1 := qS 1 _ rfl
      have cS2 := qS 2 _ rfl
      have cS3 := qS 3 _ rfl
      have cS4 := qS 4 _ rfl
      have cS5 := qS 5 _ rfl
      clear qS zS
      obtain ⟨kG, qG, zG⟩ := id CG
      have cG0 := qG 0 _ rfl
      have cG1 := qG 1 _ rfl
      have cG2 := qG 2 _ rfl
      clear qG zG
      go_wp2_with fail
      refine (KY.out _).mono ?_
      rintro e' w7 ⟨rfl, hb⟩
      replace B := B.trans (hb.mono (Nat.le_of_lt CA.1))
      replace CA := CA.below hb
      replace CF := CF.below hb
      replace CS := CS.below hb
      replace CG := CG.below hb
      clear hb
      clear kA cA0 cA1 cA2 cA3 cA4 cA5 cA6
      clear kF cF0 cF1 cF2 cF3
      clear kS cS0 cS1 cS2 cS3 cS4 cS5
      clear kG cG0 cG1 cG2
      obtain ⟨kA, qA, zA⟩ := id CA
      have cA0 := qA 0 _ rfl
      have cA1 := qA 1 _ rfl
      have cA2 := qA 2 _ rfl
      have cA3 := qA 3 _ rfl
      have cA4 := qA 4 _ rfl
      have cA5 := qA 5 _ rfl
      have cA6 := qA 6 _ rfl
      clear qA zA
      obtain ⟨kF, qF, zF⟩ := id CF
      have cF0 := qF 0 _ rfl
      have cF1 := qF 1 _ rfl
      have cF2 := qF 2 _ rfl
      have cF3 := qF 3 _ rfl
      clear qF zF
      obtain ⟨kS, qS, zS⟩ := id CS
      have cS0 := qS 0 _ rfl
      have cS1 := qS 1 _ rfl
      have cS2 := qS 2 _ rfl
      have cS3 := qS 3 _ rfl
      have cS4 := qS 4 _ rfl
      have cS5 := qS 5 _ rfl
      clear qS zS
      obtain ⟨kG, qG, zG⟩ := id CG
      have cG0 := qG 0 _ rfl
      have cG1 := qG 1 _ rfl
      have cG2 := qG 2 _ rfl
      clear qG zG
      go_wp2_with fail
      clear kA cA0 cA1 cA2 cA3 cA4 cA5 cA6
      clear kF cF0 cF1 cF2 cF3
      clear kS cS0 cS1 cS2 cS3 cS4 cS5
      clear kG cG0 cG1 cG2
      have CD := Ce.made (w := w7) (l := [.int .u64 k.a, .int .u64 k.b]) (T := 29) (g := w7.heap.size) rfl
      replace B := B.alloc (Nat.le_of_lt CA.1) (.cells #[.int .u64 k.a, .int .u64 k.b] 29)
      replace CA := CA.alloc (.cells #[.int .u64 k.a, .int .u64 k.b] 29)
      replace CF := CF.alloc (.cells #[.int .u64 k.a, .int .u64 k.b] 29)
      replace CS := CS.alloc (.cells #[.int .u64 k.a, .int .u64 k.b] 29)
      replace CG := CG.alloc (.cells #[.int .u64 k.a, .int .u64 k.b] 29)
      generalize w7.alloc (.cells #[.int .u64 k.a, .int .u64 k.b] 29) = w8 at *
      generalize w7.heap.size = D at *
      obtain ⟨kA, qA, zA⟩ := id CA
      have cA0 := qA 0 _ rfl
      have cA1 := qA 1 _ rfl
      have cA2 := qA 2 _ rfl
      have cA3 := qA 3 _ rfl
      have cA4 := qA 4 _ rfl
      have cA5 := qA 5 _ rfl
      have cA6 := qA 6 _ rfl
      clear qA zA
      obtain ⟨kF, qF, zF⟩ := id CF
      have cF0 := qF 0 _ rfl
      have cF1 := qF 1 _ rfl
      have cF2 := qF 2 _ rfl
      have cF3 := qF 3 _ rfl
      clear qF zF
      obtain ⟨kS, qS, zS⟩ := id CS
      have cS0 := qS 0 _ rfl
      have cS1 := qS 1 _ rfl
      have cS2 := qS 2 _ rfl
      have cS3 := qS 3 _ rfl
      have cS4 := qS 4 _ rfl
      have cS5 := qS 5 _ rfl
      clear qS zS
      obtain ⟨kG, qG, zG⟩ := id CG
      have cG0 := qG 0 _ rfl
      have cG1 := qG 1 _ rfl
      have cG2 := qG 2 _ rfl
      clear qG zG
      obtain ⟨kD, qD, zD⟩ := id CD
      have cD0 := qD 0 _ rfl
      have cD1 := qD 1 _ rfl
      clear qD zD
      go_region_held3 (fun w' => w'.cell? ⟨F, 0, none⟩ = some (.int .i64 f.a) ∧ w'.cell? ⟨F, 1, none⟩ = some (.int .i64 f.p) ∧ w'.cell? ⟨F, 2, none⟩ = some (.int .i64 f.ta) ∧ w'.cell? ⟨F, 3, none⟩ = some (.int .i64 f.tp) ∧ w'.cell? ⟨S, 0, none⟩ = some (.int .u64 s1) ∧ w'.cell? ⟨S, 1, none⟩ = some (.int .u64 2) ∧ w'.cell? ⟨S, 2, none⟩ = some (.int .u64 s2) ∧ w'.cell? ⟨S, 3, none⟩ = some (.int .u64 6) ∧ w'.cell? ⟨S, 4, none⟩ = some (.int .u64 0) ∧ w'.cell? ⟨S, 5, none⟩ = some (.int .u64 s2) ∧ w'.cell? ⟨G, 0, none⟩ = some (.int .i64 e) ∧ w'.cell? ⟨G, 1, none⟩ = some (.int .i64 m) ∧ w'.cell? ⟨G, 2, none⟩ = some (.int .i64 t) ∧ w'.cell? ⟨D, 0, none⟩ = some (.int .u64 k.a) ∧ w'.cell? ⟨D, 1, none⟩ = some (.int .u64 k.b) ∧ F < w'.heap.size ∧ S < w'.heap.size ∧ G < w'.heap.size ∧ D < w'.heap.size ∧ A < w'.heap.size ∧ Below A w w')
       (first
        | (go_split_ands; refine ⟨?_, ?_, ?_, ?_, ?_, ?_, ?_, ?_, ?_, ?_, ?_, ?_, ?_, ?_, ?_, ?_, ?_, ?_, ?_, ?_, ?_⟩; (iterate 15 (exact (hb5.cell (by assumption)).trans (by assumption))); (iterate 5 (exact Nat.lt_of_lt_of_le (by assumption) hb5.size)); exact Below.trans (by assumption) (hb5.mono (by first | exact Nat.le_of_lt (by assumption) | exact Below.size (by assumption))))
        | (refine ⟨?_, ?_, ?_, ?_, ?_, ?_, ?_, ?_, ?_, ?_, ?_, ?_, ?_, ?_, ?_, ?_, ?_, ?_, ?_, ?_, ?_⟩; (iterate 20 (assumption)); exact Below.drew (by assumption))
        | (go_split_ands; refine ⟨?_, ?_, ?_, ?_, ?_, ?_, ?_, ?_, ?_, ?_, ?_, ?_, ?_, ?_, ?_, ?_, ?_, ?_, ?_, ?_, ?_⟩; (iterate 15 (exact (World.cell?_alloc_lt _ _ _ (by assumption)).trans (by assumption))); (simp; omega); (simp; omega); (simp; omega); (simp; omega); (simp; omega); exact Below.alloc (by assumption) (by first | exact Nat.le_of_lt (by assumption) | exact Below.size (by assumption)) _)
        | (go_split_ands; refine ⟨?_, ?_, ?_, ?_, ?_, ?_, ?_, ?_, ?_, ?_, ?_, ?_, ?_, ?_, ?_, ?_, ?_, ?_, ?_, ?_, ?_⟩; (iterate 15 (exact (World.cell?_alloc_lt _ _ _ (by assumption)).trans (by assumption))); (iterate 5 (exact Nat.lt_of_lt_of_le (by assumption) (Below.drew (Below.alloc (Below.refl _ _) (Nat.le_refl _) _)).size)); exact Below.drew (Below.alloc (by assumption) (Below.size (by assumption)) _))
        | (go_split_ands; refine ⟨?_, ?_, ?_, ?_, ?_, ?_, ?_, ?_, ?_, ?_, ?_, ?_, ?_, ?_, ?_, ?_, ?_, ?_, ?_, ?_, ?_⟩; (iterate 20 (assumption)); assumption)
        | go_keep)
       ((first
         | (go_at_call 148
            go_split_ands
            with_reducible refine (MK2.out _).mono ?_
            rintro e w5 ⟨rfl, hb5⟩)
         | (go_at_call 147
            go_split_ands
            with_reducible refine (cutI s2 6 _ _ ?_).mono ?_
            ·decide
            rintro e w5 ⟨rfl, hb5⟩)))
      go_split_ands
      go_wp2_with fail
      go_region_held3 (fun w' => w'.cell? ⟨F, 0, none⟩ = some (.int .i64 f.a) ∧ w'.cell? ⟨F, 1, none⟩ = some (.int .i64 f.p) ∧ w'.cell? ⟨F, 2, none⟩ = some (.int .i64 f.ta) ∧ w'.cell? ⟨F, 3, none⟩ = some (.int .i64 f.tp) ∧ w'.cell? ⟨S, 0, none⟩ = some (.int .u64 s1) ∧ w'.cell? ⟨S, 1, none⟩ = some (.int .u64 2) ∧ w'.cell? ⟨S, 2, none⟩ = some (.int .u64 s2) ∧ w'.cell? ⟨S, 3, none⟩ = some (.int .u64 6) ∧ w'.cell? ⟨S, 4, none⟩ = some (.int .u64 0) ∧ w'.cell? ⟨S, 5, none⟩ = some (.int .u64 s2) ∧ w'.cell? ⟨G, 0, none⟩ = some (.int .i64 e) ∧ w'.cell? ⟨G, 1, none⟩ = some (.int .i64 m) ∧ w'.cell? ⟨G, 2, none⟩ = some (.int .i64 t) ∧ w'.cell? ⟨D, 0, none⟩ = some (.int .u64 k.a) ∧ w'.cell? ⟨D, 1, none⟩ = some (.int .u64 k.b) ∧ F < w'.heap.size ∧ S < w'.heap.size ∧ G < w'.heap.size ∧ D < w'.heap.size ∧ A < w'.heap.size ∧ Below A w w')
       (first
        | (go_split_ands; refine ⟨?_, ?_, ?_, ?_, ?_, ?_, ?_, ?_, ?_, ?_, ?_, ?_, ?_, ?_, ?_, ?_, ?_, ?_, ?_, ?_, ?_⟩; (iterate 15 (exact (hb5.cell (by assumption)).trans (by assumption))); (iterate 5 (exact Nat.lt_of_lt_of_le (by assumption) hb5.size)); exact Below.trans (by assumption) (hb5.mono (by first | exact Nat.le_of_lt (by assumption) | exact Below.size (by assumption))))
        | (refine ⟨?_, ?_, ?_, ?_, ?_, ?_, ?_, ?_, ?_, ?_, ?_, ?_, ?_, ?_, ?_, ?_, ?_, ?_, ?_, ?_, ?_⟩; (iterate 20 (assumption)); exact Below.drew (by assumption))
        | (go_split_ands; refine ⟨?_, ?_, ?_, ?_, ?_, ?_, ?_, ?_, ?_, ?_, ?_, ?_, ?_, ?_, ?_, ?_, ?_, ?_, ?_, ?_, ?_⟩; (iterate 15 (exact (World.cell?_alloc_lt _ _ _ (by assumption)).trans (by assumption))); (simp; omega); (simp; omega); (simp; omega); (simp; omega); (simp; omega); exact Below.alloc (by assumption) (by first | exact Nat.le_of_lt (by assumption) | exact Below.size (by assumption)) _)
        | (go_split_ands; refine ⟨?_, ?_, ?_, ?_, ?_, ?_, ?_, ?_, ?_, ?_, ?_, ?_, ?_, ?_, ?_, ?_, ?_, ?_, ?_, ?_, ?_⟩; (iterate 15 (exact (World.cell?_alloc_lt _ _ _ (by assumption)).trans (by assumption))); (iterate 5 (exact Nat.lt_of_lt_of_le (by assumption) (Below.drew (Below.alloc (Below.refl _ _) (Nat.le_refl _) _)).size)); exact Below.drew (Below.alloc (by assumption) (Below.size (by assumption)) _))
        | (go_split_ands; refine ⟨?_, ?_, ?_, ?_, ?_, ?_, ?_, ?_, ?_, ?_, ?_, ?_, ?_, ?_, ?_, ?_, ?_, ?_, ?_, ?_, ?_⟩; (iterate 20 (assumption)); assumption)
        | go_keep)
       ((first
         | (go_at_call 121
            go_split_ands
            with_reducible refine (MD2.out _).mono ?_
            rintro e w5 ⟨rfl, hb5⟩)))
      go_split_ands
      go_wp2_with fail
      refine bodyPost_ret (by simp [results, Tryz.results111, go_sem]) rfl ⟨rfl, ?_⟩
      first | assumption | (rw [hK]; assumption)
theorem read1 (r : Rg) (f : Fl) (c : Int) (hf : f.I) (hr : Ep r.e) (w : World) :
 Calls Tryz.prog 111 #[rgV r, .int .i64 1, flV f, .int .i64 c] w fun e' w' => e' = .returned (rdO (readC 4096 r 1 f c)) ∧ Below w.heap.size w w' :=
 have hkI : I64 1 := ⟨by omega, by omega⟩
 read_k 1 4096 18 12 1048576 (.inl ⟨rfl, rfl⟩) (.inl rfl) shV1 rfl hkI r f c hf hr (apart1 c) (fun k x e hx he w => made1 k 1 f x e hf hkI hx he w) w
theorem read2 (r : Rg) (f : Fl) (c : Int) (hf : f.I) (hr : Ep r.e) (w : World) :
 Calls Tryz.prog 111 #[rgV r, .int .i64 2, flV f, .int .i64 c] w fun e' w' => e' = .returned (rdO (readC 256 r 2 f c)) ∧ Below w.heap.size w w' :=
 have hkI : I64 2 := ⟨by omega, by omega⟩
 read_k 2 256 14 8 65536 (.inr ⟨rfl, rfl⟩) (.inr rfl) shV2 rfl hkI r f c hf hr (apart2 c) (fun k x e hx he w => made2 k 2 f x e hf hkI hx he w) w
end Go.Proofs.YteapnfdpkjbfhaaGreat
namespace Go.Proofs.YteapnfdpkjbfhaaGreat
set_option linter.unusedVariables false
set_option linter.unusedSimpArgs false
open Go.RowKit Go.ChangeShapes Go.WideShapes Go.ChangeAt
theorem uand32 (x : Int) (j : Nat) (hj : j ≤ 31) (hx : U32 x) : bits .and .u32 x (2 ^ j - 1) = x % 2 ^ j := by
 obtain ⟨n, rfl⟩ := Int.eq_ofNat_of_zero_le hx.1
 have hn : n < 2 ^ 32 := by have := hx.2; omega
 have hp : (2 : Nat) ^ j ≤ 2 ^ 31 := Nat.pow_le_pow_right (by omega) hj
 have h0 := Nat.two_pow_pos j
 have h3 : (((2 ^ j : Nat)) : Int) = 2 ^ j := by simp
 have e : ((2 : Int) ^ j - 1) = ((2 ^ j - 1 : Nat) : Int) := by omega
 rw [e]
 show IntKind.u32.wrap ((BitVec.ofInt 32 (n : Int) &&& BitVec.ofInt 32 ((2 ^ j - 1 : Nat) : Int)).toNat : Int) = _
 rw [BitVec.toNat_and, BitVec.ofInt_natCast, BitVec.ofInt_natCast, BitVec.toNat_ofNat, BitVec.toNat_ofNat, Nat.mod_eq_of_lt hn, Nat.mod_eq_of_lt (by omega), Nat.and_two_pow_sub_one_eq_mod, IntKind.wrap_u32]
 have h2 : n % 2 ^ j < 2 ^ j := Nat.mod_lt _ h0
 rw [← h3]
 omega
theorem or_u32 (y x : Int) (hy : 0 ≤ y ∧ y < 4096) (hx : 0 ≤ x ∧ x < 1048576) : bits .or .u32 (y * 1048576) x = y * 1048576 + x := by
 obtain ⟨a, rfl⟩ := Int.eq_ofNat_of_zero_le hy.1
 obtain ⟨b, rfl⟩ := Int.eq_ofNat_of_zero_le hx.1
 have e : ((a : Int) * 1048576) = ((a * 2 ^ 20 : Nat) : Int) := by omega
 have hor : a * 2 ^ 20 ||| b = a * 2 ^ 20 + b := by rw [Nat.mul_comm a, ← Nat.two_pow_add_eq_or_of_lt (by omega)]
 rw [e]
 show IntKind.u32.wrap ((BitVec.ofInt 32 ((a * 2 ^ 20 : Nat) : Int) ||| BitVec.ofInt 32 (b : Int)).toNat : Int) = _
 rw [BitVec.toNat_or, BitVec.ofInt_natCast, BitVec.ofInt_natCast, BitVec.toNat_ofNat, BitVec.toNat_ofNat, Nat.mod_eq_of_lt (by omega), Nat.mod_eq_of_lt (by omega), hor, IntKind.wrap_u32]
 omega
theorem ret_u32 {a b : Int} (h : a = b) : Ending.returned (.int .u32 a) = .returned (.int .u32 b) := by rw [h]
theorem cutU (a wd v : Int) (w : World) (hv : U32 v) (hw : wd = 12 ∨ wd = 20) :
 Calls Tryz.prog 153 #[.agg #[.int .u64 a, .int .u64 wd], .int .u32 v] w fun e w' => e = .returned (.int .u32 (v % 2 ^ wd.toNat)) ∧ Below w.heap.size w w' := by
 have h1 : bits .and .u32 v 4095 = v % 4096 := uand32 v 12 (by omega) hv
 have h2 : bits .and .u32 v 1048575 = v % 1048576 := uand32 v 20 (by omega) hv
 rcases hw with rfl | rfl
 all_goals
  go_enter Tryz.func153, Tryz.ntmps153
  go_wp2_with fail
  go_ret
  exact ⟨rfl, (Below.refl _ _).alloc (Nat.le_refl _) _⟩
theorem laidU (a wd v : Int) (w : World) (hv : U32 v) (hf : (a = 20 ∧ wd = 12) ∨ (a = 0 ∧ wd = 20)) :
 Calls Tryz.prog 124 #[.agg #[.int .u64 a, .int .u64 wd], .int .u32 v] w fun e w' => e = .returned (.int .u32 (v % 2 ^ wd.toNat * 2 ^ a.toNat)) ∧ Below w.heap.size w w' := by
 have hw : wd = 12 ∨ wd = 20 := by omega
 have ha : 0 ≤ a := by omega
 have ha' : a ≤ 32 := by omega
 have hvU := hv
 obtain ⟨hv1, hv2⟩ := hv
 go_enter Tryz.func124, Tryz.ntmps124
 go_wp2_with fail
 have CK := Ce.made (w := w) (l := [.int .u64 a, .int .u64 wd]) (T := 186) (g := w.heap.size) rfl
 have B : Below w.heap.size w (w.alloc (.cells #[.int .u64 a, .int .u64 wd] 186)) := ((Below.refl _ _).alloc (Nat.le_refl _) (.cells #[.int .u64 a, .int .u64 wd] 186))
 obtain ⟨kK, qK, zK⟩ := CK
 have cK0 := qK 0 _ rfl
 have cK1 := qK 1 _ rfl
 clear qK zK
 generalize w.alloc (.cells #[.int .u64 a, .int .u64 wd] 186) = w1 at *
 generalize hK : w.heap.size = K at *
 go_region_held3 (fun w' => w'.cell? ⟨K, 0, none⟩ = some (.int .u64 a) ∧ w'.cell? ⟨K, 1, none⟩ = some (.int .u64 wd) ∧ K < w'.heap.size ∧ Below K w w')
  (first
   | (go_split_ands; refine ⟨?_, ?_, ?_, ?_⟩; exact (hb5.cell (p := ⟨K, 0, none⟩) (by assumption)).trans (by assumption); exact (hb5.cell (p := ⟨K, 1, none⟩) (by assumption)).trans (by assumption); exact Nat.lt_of_lt_of_le (by assumption) hb5.size; exact Below.trans (by assumption) (hb5.mono (by first | exact Nat.le_of_lt (by assumption) | exact Below.size (by assumption))))
   | (refine ⟨?_, ?_, ?_, ?_⟩; assumption; assumption; assumption; exact Below.drew (by assumption))
   | (go_split_ands; refine ⟨?_, ?_, ?_, ?_⟩; exact (World.cell?_alloc_lt _ _ ⟨K, 0, none⟩ (by assumption)).trans (by assumption); exact (World.cell?_alloc_lt _ _ ⟨K, 1, none⟩ (by assumption)).trans (by assumption); (simp; omega); exact Below.alloc (by assumption) (by first | exact Nat.le_of_lt (by assumption) | exact Below.size (by assumption)) _)
   | (go_split_ands; refine ⟨?_, ?_, ?_, ?_⟩; exact (World.cell?_alloc_lt _ _ ⟨K, 0, none⟩ (by assumption)).trans (by assumption); exact (World.cell?_alloc_lt _ _ ⟨K, 1, none⟩ (by assumption)).trans (by assumption); exact Nat.lt_of_lt_of_le (by assumption) (Below.drew (Below.alloc (Below.refl _ _) (Nat.le_refl _) _)).size; exact Below.drew (Below.alloc (by assumption) (Below.size (by assumption)) _))
   | (go_split_ands; refine ⟨?_, ?_, ?_, ?_⟩; (iterate 3 (assumption)); assumption)
   | go_keep)
  ((first
    | (go_at_call 153
       go_split_ands
       with_reducible refine (cutU a wd v _ hvU hw).mono ?_
       rintro e w5 ⟨rfl, hb5⟩)))
 all_goals
  go_split_ands
  go_wp2_with fail
  go_ret
  refine ⟨ret_u32 ?_, by first | assumption | (rw [hK]; assumption)⟩
  rcases hf with ⟨rfl, rfl⟩ | ⟨rfl, rfl⟩ <;> (rw [IntKind.wrap_u32]; simp; omega)
theorem ofU (a wd v : Int) (w : World) (hv : U32 v) (hf : (a = 20 ∧ wd = 12) ∨ (a = 0 ∧ wd = 20) ∨ (a = 8 ∧ wd = 12)) :
 Calls Tryz.prog 126 #[.agg #[.int .u64 a, .int .u64 wd], .int .u32 v] w fun e w' => e = .returned (.int .u32 (v / 2 ^ a.toNat % 2 ^ wd.toNat)) ∧ Below w.heap.size w w' := by
 have hv3 : U32 (v / 2 ^ a.toNat) := by
  obtain ⟨h1, h2⟩ := hv
  unfold U32
  rcases hf with ⟨rfl, rfl⟩ | ⟨rfl, rfl⟩ | ⟨rfl, rfl⟩
  ·show 0 ≤ v / 1048576 ∧ v / 1048576 < 4294967296
   omega
  ·show 0 ≤ v / 1 ∧ v / 1 < 4294967296
   omega
  ·show 0 ≤ v / 256 ∧ v / 256 < 4294967296
   omega
 have hw : wd = 12 ∨ wd = 20 := by omega
 have ha : 0 ≤ a := by omega
 have ha' : a ≤ 32 := by omega
 have hvU := hv
 obtain ⟨hv1, hv2⟩ := hv
 go_enter Tryz.func126, Tryz.ntmps126
 go_wp2_with fail
 refine (cutU a wd _ _ hv3 hw).mono ?_
 rintro e w' ⟨rfl, hb⟩
 have hb0 := ((Below.refl w.heap.size w).alloc (Nat.le_refl _) _).trans (hb.mono (by simp))
 go_wp2_with fail
 go_ret
 exact ⟨rfl, hb0⟩
theorem stampShape_any (w : World) : Calls Tryz.prog 123 #[] w fun e w' => e = .returned (.agg #[.int .u64 20, .int .u64 12, .int .u64 0, .int .u64 20]) ∧ Below w.heap.size w w' := by
 go_enter Tryz.func123, Tryz.ntmps123
 go_wp2_with fail
 refine bodyPost_ret (by simp [results, Tryz.results123, go_sem]) rfl ⟨rfl, ?_⟩
 repeat' (first | with_reducible exact Below.refl _ _ | with_reducible refine Below.alloc ?_ ?_ _ | with_reducible refine Below.setCell ?_ ?_ _ | (simp; done) | (simp; omega))
theorem stampCoarse_any (w : World) : Calls Tryz.prog 125 #[] w fun e w' => e = .returned (.agg #[.int .u64 8, .int .u64 12]) ∧ Below w.heap.size w w' := by
 go_enter Tryz.func125, Tryz.ntmps125
 go_wp2_with fail
 refine bodyPost_ret (by simp [results, Tryz.results125, go_sem]) rfl ⟨rfl, ?_⟩
 repeat' (first | with_reducible exact Below.refl _ _ | with_reducible refine Below.alloc ?_ ?_ _ | with_reducible refine Below.setCell ?_ ?_ _ | (simp; done) | (simp; omega))
theorem get_any (v : Int) (hv : U32 v) (w : World) : Calls Tryz.prog 143 #[.int .u32 v] w fun e w' => e = .returned (.tuple #[.int .i64 (v / 1048576), .int .i64 (v % 1048576)]) ∧ Below w.heap.size w w' := by
 have q1 : Hid (v / 1048576 % 4096 = v / 1048576) := by obtain ⟨h1, h2⟩ := hv; unfold Hid; omega
 have r1 : Hid (IntKind.i64.wrap (v / 1048576) = v / 1048576) := by obtain ⟨h1, h2⟩ := hv; exact IntWalk.i64_in _ (by omega)
 have r2 : Hid (IntKind.i64.wrap (v % 1048576) = v % 1048576) := IntWalk.i64_in _ (by omega)
 have hvU := hv
 obtain ⟨hv1, hv2⟩ := hv
 go_enter Tryz.func143, Tryz.ntmps143
 go_wp2_with fail
 refine (stampShape_any _).mono ?_
 rintro e' w2 ⟨rfl, hb⟩
 have B := hb
 clear hb
 have hws : w.heap.size ≤ w2.heap.size := B.size
 go_wp2_with fail
 have CS := Ce.made (w := w2) (l := [.int .u64 20, .int .u64 12, .int .u64 0, .int .u64 20]) (T := 188) (g := w2.heap.size) rfl
 replace B := B.alloc hws (.cells #[.int .u64 20, .int .u64 12, .int .u64 0, .int .u64 20] 188)
 generalize w2.alloc (.cells #[.int .u64 20, .int .u64 12, .int .u64 0, .int .u64 20] 188) = w3 at *
 generalize hS : w2.heap.size = S at *
 obtain ⟨N0, hN0⟩ : ∃ N0, N0 = w.heap.size := ⟨_, rfl⟩
 rw [← hN0] at B hws
 obtain ⟨kS, qS, zS⟩ := id CS
 have cS0 := qS 0 _ rfl
 have cS1 := qS 1 _ rfl
 have cS2 := qS 2 _ rfl
 have cS3 := qS 3 _ rfl
 clear qS zS
 clear CS
 go_region_held3 (fun w' => w'.cell? ⟨S, 0, none⟩ = some (.int .u64 20) ∧ w'.cell? ⟨S, 1, none⟩ = some (.int .u64 12) ∧ w'.cell? ⟨S, 2, none⟩ = some (.int .u64 0) ∧ w'.cell? ⟨S, 3, none⟩ = some (.int .u64 20) ∧ S < w'.heap.size ∧ Below N0 w w')
  (first
   | (go_split_ands; refine ⟨?_, ?_, ?_, ?_, ?_, ?_⟩; exact (hb5.cell (p := ⟨S, 0, none⟩) (by assumption)).trans (by assumption); exact (hb5.cell (p := ⟨S, 1, none⟩) (by assumption)).trans (by assumption); exact (hb5.cell (p := ⟨S, 2, none⟩) (by assumption)).trans (by assumption); exact (hb5.cell (p := ⟨S, 3, none⟩) (by assumption)).trans (by assumption); exact Nat.lt_of_lt_of_le (by assumption) hb5.size; exact Below.trans (by assumption) (hb5.mono (by first | exact Nat.le_of_lt (by assumption) | (have := Below.size (by assumption); omega) | omega)))
   | (refine ⟨?_, ?_, ?_, ?_, ?_, ?_⟩; (iterate 5 (assumption)); exact Below.drew (by assumption))
   | (go_split_ands; refine ⟨?_, ?_, ?_, ?_, ?_, ?_⟩; exact (World.cell?_alloc_lt _ _ ⟨S, 0, none⟩ (by assumption)).trans (by assumption); exact (World.cell?_alloc_lt _ _ ⟨S, 1, none⟩ (by assumption)).trans (by assumption); exact (World.cell?_alloc_lt _ _ ⟨S, 2, none⟩ (by assumption)).trans (by assumption); exact (World.cell?_alloc_lt _ _ ⟨S, 3, none⟩ (by assumption)).trans (by assumption); (simp; omega); exact Below.alloc (by assumption) (by first | exact Nat.le_of_lt (by assumption) | (have := Below.size (by assumption); omega) | omega) _)
   | (go_split_ands; refine ⟨?_, ?_, ?_, ?_, ?_, ?_⟩; exact (World.cell?_alloc_lt _ _ ⟨S, 0, none⟩ (by assumption)).trans (by assumption); exact (World.cell?_alloc_lt _ _ ⟨S, 1, none⟩ (by assumption)).trans (by assumption); exact (World.cell?_alloc_lt _ _ ⟨S, 2, none⟩ (by assumption)).trans (by assumption); exact (World.cell?_alloc_lt _ _ ⟨S, 3, none⟩ (by assumption)).trans (by assumption); exact Nat.lt_of_lt_of_le (by assumption) (Below.drew (Below.alloc (Below.refl _ _) (Nat.le_refl _) _)).size; exact Below.drew (Below.alloc (by assumption) (Below.size (by assumption)) _))
   | (go_split_ands; refine ⟨?_, ?_, ?_, ?_, ?_, ?_⟩; (iterate 5 (assumption)); assumption)
   | go_keep)
  ((first
    | (go_at_call 126
       go_split_ands
       with_reducible refine (ofU 20 12 v _ hvU ?_).mono ?_
       ·decide
       rintro e w5 ⟨rfl, hb5⟩)
    | (go_at_call 126
       go_split_ands
       with_reducible refine (ofU 0 20 v _ hvU ?_).mono ?_
       ·decide
       rintro e w5 ⟨rfl, hb5⟩)))
 all_goals
  go_split_ands
  go_wp2_with fail
  refine bodyPost_ret (v := .tuple #[.int .i64 (v / 1048576), .int .i64 (v % 1048576)]) (by simp [results, Tryz.results143, go_sem, q1.out, r1.out, r2.out]) rfl ⟨rfl, ?_⟩
  rw [← hN0]
  assumption
theorem put_any (v c : Int) (hv : U32 v) (hc : 0 ≤ c ∧ c < 1048576) (w : World) : Calls Tryz.prog 90 #[.int .u32 v, .int .i64 c] w fun e w' => e = .returned (.int .u32 (putV v c)) ∧ Below w.heap.size w w' := by
 obtain ⟨hc1, hc2⟩ := hc
 have hvU := hv
 obtain ⟨hv1, hv2⟩ := hv
 have q1 : Hid (bits .or .u32 (v / 256 % 4096 * 1048576) c = putV v c) := or_u32 (v / 256 % 4096) c (by omega) ⟨hc1, hc2⟩
 have q2 : Hid (v / 256 % 4096 % 4096 = v / 256 % 4096) := by unfold Hid; omega
 have q3 : Hid (c % 1048576 = c) := by unfold Hid; omega
 have q4 : IntKind.u32.wrap c = c := by rw [IntKind.wrap_u32]; omega
 go_enter Tryz.func90, Tryz.ntmps90
 go_wp2_with fail
 refine (stampShape_any _).mono ?_
 rintro e' w2 ⟨rfl, hb⟩
 have B := hb
 clear hb
 have hws : w.heap.size ≤ w2.heap.size := B.size
 go_wp2_with fail
 have CS := Ce.made (w := w2) (l := [.int .u64 20, .int .u64 12, .int .u64 0, .int .u64 20]) (T := 188) (g := w2.heap.size) rfl
 replace B := B.alloc hws (.cells #[.int .u64 20, .int .u64 12, .int .u64 0, .int .u64 20] 188)
 generalize w2.alloc (.cells #[.int .u64 20, .int .u64 12, .int .u64 0, .int .u64 20] 188) = w3 at *
 generalize hS : w2.heap.size = S at *
 obtain ⟨N0, hN0⟩ : ∃ N0, N0 = w.heap.size := ⟨_, rfl⟩
 rw [← hN0] at B hws
 obtain ⟨kS, qS, zS⟩ := id CS
 have cS0 := qS 0 _ rfl
 have cS1 := qS 1 _ rfl
 have cS2 := qS 2 _ rfl
 have cS3 := qS 3 _ rfl
 clear qS zS
 clear CS
 go_region_held3 (fun w' => w'.cell? ⟨S, 0, none⟩ = some (.int .u64 20) ∧ w'.cell? ⟨S, 1, none⟩ = some (.int .u64 12) ∧ w'.cell? ⟨S, 2, none⟩ = some (.int .u64 0) ∧ w'.cell? ⟨S, 3, none⟩ = some (.int .u64 20) ∧ S < w'.heap.size ∧ Below N0 w w')
  (first
   | (go_split_ands; refine ⟨?_, ?_, ?_, ?_, ?_, ?_⟩; exact (hb5.cell (p := ⟨S, 0, none⟩) (by assumption)).trans (by assumption); exact (hb5.cell (p := ⟨S, 1, none⟩) (by assumption)).trans (by assumption); exact (hb5.cell (p := ⟨S, 2, none⟩) (by assumption)).trans (by assumption); exact (hb5.cell (p := ⟨S, 3, none⟩) (by assumption)).trans (by assumption); exact Nat.lt_of_lt_of_le (by assumption) hb5.size; exact Below.trans (by assumption) (hb5.mono (by first | exact Nat.le_of_lt (by assumption) | (have := Below.size (by assumption); omega) | omega)))
   | (refine ⟨?_, ?_, ?_, ?_, ?_, ?_⟩; (iterate 5 (assumption)); exact Below.drew (by assumption))
   | (go_split_ands; refine ⟨?_, ?_, ?_, ?_, ?_, ?_⟩; exact (World.cell?_alloc_lt _ _ ⟨S, 0, none⟩ (by assumption)).trans (by assumption); exact (World.cell?_alloc_lt _ _ ⟨S, 1, none⟩ (by assumption)).trans (by assumption); exact (World.cell?_alloc_lt _ _ ⟨S, 2, none⟩ (by assumption)).trans (by assumption); exact (World.cell?_alloc_lt _ _ ⟨S, 3, none⟩ (by assumption)).trans (by assumption); (simp; omega); exact Below.alloc (by assumption) (by first | exact Nat.le_of_lt (by assumption) | (have := Below.size (by assumption); omega) | omega) _)
   | (go_split_ands; refine ⟨?_, ?_, ?_, ?_, ?_, ?_⟩; exact (World.cell?_alloc_lt _ _ ⟨S, 0, none⟩ (by assumption)).trans (by assumption); exact (World.cell?_alloc_lt _ _ ⟨S, 1, none⟩ (by assumption)).trans (by assumption); exact (World.cell?_alloc_lt _ _ ⟨S, 2, none⟩ (by assumption)).trans (by assumption); exact (World.cell?_alloc_lt _ _ ⟨S, 3, none⟩ (by assumption)).trans (by assumption); exact Nat.lt_of_lt_of_le (by assumption) (Below.drew (Below.alloc (Below.refl _ _) (Nat.le_refl _) _)).size; exact Below.drew (Below.alloc (by assumption) (Below.size (by assumption)) _))
   | (go_split_ands; refine ⟨?_, ?_, ?_, ?_, ?_, ?_⟩; (iterate 5 (assumption)); assumption)
   | go_keep)
  ((first
    | (go_at_call 125
       go_split_ands
       with_reducible refine (stampCoarse_any _).mono ?_
       rintro e w5 ⟨rfl, hb5⟩)
    | (go_at_call 126
       go_split_ands
       with_reducible refine (ofU 8 12 v _ hvU ?_).mono ?_
       ·decide
       rintro e w5 ⟨rfl, hb5⟩)
    | (go_at_call 124
       go_split_ands
       with_reducible refine (laidU 20 12 _ _ ?_ ?_).mono ?_
       ·(show (0 : Int) ≤ _ ∧ _ < (4294967296 : Int); constructor <;> (first | omega | (simp; omega) | (simp; done)))
       ·decide
       rintro e w5 ⟨rfl, hb5⟩)
    | (go_at_call 124
       go_split_ands
       with_reducible refine (laidU 0 20 _ _ ?_ ?_).mono ?_
       ·(show (0 : Int) ≤ _ ∧ _ < (4294967296 : Int); constructor <;> (first | omega | (simp; omega) | (simp; done)))
       ·decide
       rintro e w5 ⟨rfl, hb5⟩)))
 all_goals
  go_split_ands
  go_wp2_with fail
  go_ret
  refine ⟨ret_u32 ?_, by rw [← hN0]; assumption⟩
  rw [q3.out]
  exact q1.out
end Go.Proofs.YteapnfdpkjbfhaaGreat
namespace Go.Proofs.YteapnfdpkjbfhaaGreat
set_option linter.unusedVariables false
set_option linter.unusedSimpArgs false
open Go.RowKit Go.ChangeShapes Go.WideShapes Go.ChangeAt
theorem and_high (k : Nat) (hk : k < 2 ^ 32) : k &&& 4294967040 = k / 256 * 256 := by
 have e1 : (4294967040 : Nat) = (2 ^ 24 - 1) <<< 8 := by decide
 have e2 : k / 256 * 256 = (k >>> 8) <<< 8 := by rw [Nat.shiftLeft_eq, Nat.shiftRight_eq_div_pow]
 rw [e1, e2]
 apply Nat.eq_of_testBit_eq
 intro i
 rw [Nat.testBit_and, Nat.testBit_shiftLeft, Nat.testBit_shiftLeft, Nat.testBit_two_pow_sub_one, Nat.testBit_shiftRight]
 by_cases h8 : 8 ≤ i
 ·rw [show 8 + (i - 8) = i from by omega]
  by_cases h32 : i < 32
  ·simp [h8, show i - 8 < 24 from by omega]
  ·have : k.testBit i = false := Nat.testBit_lt_two_pow (Nat.lt_of_lt_of_le hk (Nat.pow_le_pow_right (by omega) (by omega)))
   simp [this]
 ·simp [h8]
theorem andNot255 (n : Int) (h : U32 n) : bits .andNot .u32 n 255 = near8 n := by
 obtain ⟨k, rfl⟩ := Int.eq_ofNat_of_zero_le h.1
 have hk : k < 2 ^ 32 := by have := h.2; omega
 show IntKind.u32.wrap ((BitVec.ofInt 32 (k : Int) &&& ~~~ BitVec.ofInt 32 255).toNat : Int) = _
 rw [BitVec.toNat_and, BitVec.ofInt_natCast, BitVec.toNat_ofNat, Nat.mod_eq_of_lt hk, show (~~~ BitVec.ofInt 32 255).toNat = 4294967040 from by decide, and_high k hk, IntKind.wrap_u32]
 unfold near8
 omega
theorem back_bd (v n : Int) (hv : U32 v) (hn : U32 n) : U32 (near8 n) ∧ U32 (v / 1048576 * 256) ∧ farV (near8 n) (v / 1048576 * 256) % 1048576 = backD v n ∧ 0 ≤ backD v n ∧ backD v n < 1048576 := by
 obtain ⟨hv1, hv2⟩ := hv
 obtain ⟨hn1, hn2⟩ := hn
 unfold U32 farV backD near8
 omega
theorem back_any (v n : Int) (hv : U32 v) (hn : U32 n) (w : World) : Calls Tryz.prog 118 #[.int .u32 v, .int .u32 n] w fun e w' => e = .returned (.int .u32 (backV v n)) ∧ Below w.heap.size w w' := by
 obtain ⟨hb1, hb2, hb3, hb4, hb5⟩ := back_bd v n hv hn
 have h1 := andNot255 n hn
 have h2 := mand20 (farV (near8 n) (v / 1048576 * 256))
 rw [hb3] at h2
 have hfin : Hid ((near8 n + (if backD v n < 524288 then backD v n else backD v n - 1048576)) % 4294967296 = backV v n) := rfl
 have hg := fun w => get_any v hv w
 have hfr := fun w => far_any _ _ hb1 hb2 w
 obtain ⟨hv1, hv2⟩ := hv
 have r1 : IntKind.u32.wrap (v / 1048576) = v / 1048576 := by rw [IntKind.wrap_u32]; omega
 have r2 : IntKind.u32.wrap (v / 1048576 * 256) = v / 1048576 * 256 := by rw [IntKind.wrap_u32]; omega
 generalize backD v n = d at *
 generalize near8 n = b at *
 obtain ⟨hb11, hb12⟩ := hb1
 replace hg := hid hg
 replace hfr := hid hfr
 clear hb2 hb3 hn
 by_cases hd : d < 524288
 ·rw [if_pos hd] at hfin
  have i1 : ¬ d ≥ 524288 := by omega
  go_enter Tryz.func118, Tryz.ntmps118
  go_wp2_with fail
  refine (hg.out _).mono ?_
  rintro e w2 ⟨rfl, hbw⟩
  go_wp2_with fail
  refine (hfr.out _).mono ?_
  rintro e w3 ⟨rfl, rfl⟩
  go_wp2
  go_ret
  refine ⟨ret_u32 (Eq.trans ?_ hfin.out), hbw⟩
  all_goals (first | omega | (simp only [IntKind.wrap_u32]; omega) | trace_state)
 ·rw [if_neg hd] at hfin
  have i1 : d ≥ 524288 := by omega
  go_enter Tryz.func118, Tryz.ntmps118
  go_wp2_with fail
  refine (hg.out _).mono ?_
  rintro e w2 ⟨rfl, hbw⟩
  go_wp2_with fail
  refine (hfr.out _).mono ?_
  rintro e w3 ⟨rfl, rfl⟩
  go_wp2
  go_ret
  refine ⟨ret_u32 (Eq.trans ?_ hfin.out), hbw⟩
  all_goals (first | omega | (simp only [IntKind.wrap_u32]; omega) | trace_state)
end Go.Proofs.YteapnfdpkjbfhaaGreat
