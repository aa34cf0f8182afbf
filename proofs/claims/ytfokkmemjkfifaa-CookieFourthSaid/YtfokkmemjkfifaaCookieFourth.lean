/- roundhouselaw5.CookieFourth answers true for every epoch, number, kind, flow and number; no condition. -/
import Derived.Test.YtfokkmemjkfifaaCookLaw
namespace Go.Proofs.Ytfokkmemjkfifaa.cookieFourth
set_option linter.unusedVariables false
set_option linter.unusedSimpArgs false
open Go.RowKit Go.ChangeShapes Go.WideShapes Go.ChangeAt

set_option maxRecDepth 100000 in
set_option maxHeartbeats 8000000 in
theorem walk (W : World) (ep : Int) (rep : -9223372036854775808 ≤ ep ∧ ep ≤ 9223372036854775807)
    (a : Int) (ra : -9223372036854775808 ≤ a ∧ a ≤ 9223372036854775807) (b : Bool) (f0 : Int) (rf0 : -9223372036854775808 ≤ f0 ∧ f0 ≤ 9223372036854775807)
    (g0 : Int) (rg0 : -9223372036854775808 ≤ g0 ∧ g0 ≤ 9223372036854775807) (c0 : Int) (rc0 : -9223372036854775808 ≤ c0 ∧ c0 ≤ 9223372036854775807) :
    Calls Try.prog 12 #[.int .i64 ep, .int .i64 a, .bool b, .int .i64 f0, .int .i64 g0, .int .i64 c0] W fun e w' => e = .returned (.bool true) ∧ Below W.heap.size W w' := by
  obtain ⟨r, hr⟩ : ∃ r, r = rgE ep a := ⟨_, rfl⟩
  have hE := rgE_ep ep a
  rw [← hr] at hE
  have LR := fun w => re_v (lring_any ep a rep ra w) (show _ = rgV r by rw [hr])
  obtain ⟨f, hf⟩ : ∃ f, f = flN f0 g0 := ⟨_, rfl⟩
  have hI : f.I := by rw [hf]; exact flN_I _ _
  have LF := fun w => re_v (lflow_any f0 g0 w rf0 rg0) (show _ = flV f by rw [hf])
  obtain ⟨M, hM⟩ : ∃ M, M = 64 * tB b := ⟨_, rfl⟩
  have hMv : M = 262144 ∨ M = 16384 := by rw [hM]; cases b <;> simp [tB]
  have wb := wi_bd c0 M (by omega)
  obtain ⟨c, hc⟩ : ∃ c, c = wi c0 M := ⟨_, rfl⟩
  rw [← hc] at wb
  have hrb := wi_bd ep 1073741824 (by omega)
  have hre : r.e = wi ep 1073741824 := by rw [hr]; rfl
  obtain ⟨x, hx⟩ : ∃ x, x = c + (r.e + 2) % 4 * M := ⟨_, rfl⟩
  have hrd : readC (tB b) r (kdB b) f x = none := by
    unfold readC
    have h1 : x / (64 * tB b) = (r.e + 2) % 4 := by rw [← hM, hx]; rcases hMv with h | h <;> rw [h] at wb ⊢ <;> omega
    rw [h1, keyOf_none]
    split <;> rfl
  have RD := fun w => read_b b r f x hI hE.1 w
  rw [hrd] at RD
  have KY := fun w => key_any r (r.e + 2) hE.1 w
  have hkn : keyOf r (r.e + 2) = none := by
    unfold keyOf
    rw [if_neg (by omega), if_neg (by omega), if_neg (by omega)]
  rw [hkn] at KY
  have q0 : Hid (bits .or .i64 c ((r.e + 2) % 4 * M) = x) := by
    have h1 : bits .or .i64 ((r.e + 2) % 4 * M) c = (r.e + 2) % 4 * M + c := by
      rcases hMv with h | h
      · exact or_join _ _ M 18 (by rw [h]; rfl) (by omega) wb.1 wb.2 (by rw [h]; omega) (by omega)
      · exact or_join _ _ M 14 (by rw [h]; rfl) (by omega) wb.1 wb.2 (by rw [h]; omega) (by omega)
    have h2 : bits .or .i64 c ((r.e + 2) % 4 * M) = bits .or .i64 ((r.e + 2) % 4 * M) c := by
      show IntKind.i64.wrap ((BitVec.ofInt 64 c ||| BitVec.ofInt 64 ((r.e + 2) % 4 * M)).toNat : Int) = IntKind.i64.wrap ((BitVec.ofInt 64 ((r.e + 2) % 4 * M) ||| BitVec.ofInt 64 c).toNat : Int)
      rw [BitVec.or_comm]
    unfold Hid
    rw [h2, h1, hx]
    omega
  have WS := fun w => re_i64 (within_any c0 M w (by omega) (by omega)) hc.symm
  clear hrd hkn hx hc hr hf
  cases b
  · simp only [tB, if_true, Bool.false_eq_true, if_false] at hM
    have hM' : M = 16384 := by omega
    subst hM'
    have kv := fun w => lkind_any false w
    have q1 : IntKind.i64.wrap (r.e + 2) = r.e + 2 := IntWalk.i64_in _ (by have := hE.1; unfold Ep at this; omega)
    have q2 : (r.e + 2).tmod 4 = (r.e + 2) % 4 := Int.tmod_eq_emod_of_nonneg (by omega)
    have q3 : IntKind.i64.wrap ((r.e + 2) % 4 * 16384) = (r.e + 2) % 4 * 16384 := IntWalk.i64_in _ (by omega)
    have q4 : 0 ≤ r.e + 2 := by omega
    have q5 : 0 ≤ (r.e + 2) % 4 := by omega
    unfold rgV flV rdO kyO kyV kdB at *
    simp only [if_true, Bool.false_eq_true, if_false, Option.getD_some, Option.isSome_some, Option.getD_none, Option.isSome_none] at *
    replace LR := hid LR
    replace LF := hid LF
    have wq : IntKind.i64.wrap 16384 = 16384 := by decide
    rw [← wq] at WS
    replace WS := hid WS
    clear wq
    replace RD := hid RD
    replace KY := hid KY
    replace kv := hid kv
    have q0' := q0.out
    clear hM hrb hre
    go_enter Try.func12, Try.ntmps12
    go_wp2_with fail
    refine (known_any _).mono ?_
    rintro e' w ⟨rfl, hb1⟩
    have B := hb1
    clear hb1
    go_wp2_with fail
    refine (LR.out _).mono ?_
    rintro e' w1 ⟨rfl, hb⟩
    replace B := B.trans (hb.mono B.size)
    clear hb
    go_wp2_with fail
    have CA := Ce.made (w := w1) (l := [.int .i64 r.e, .int .u64 r.p.a, .int .u64 r.p.b, .int .u64 r.c.a, .int .u64 r.c.b, .int .u64 r.n.a, .int .u64 r.n.b]) (T := 27) (g := w1.heap.size) rfl
    replace B := B.alloc B.size (.cells #[.int .i64 r.e, .int .u64 r.p.a, .int .u64 r.p.b, .int .u64 r.c.a, .int .u64 r.c.b, .int .u64 r.n.a, .int .u64 r.n.b] 27)
    generalize w1.alloc (.cells #[.int .i64 r.e, .int .u64 r.p.a, .int .u64 r.p.b, .int .u64 r.c.a, .int .u64 r.c.b, .int .u64 r.n.a, .int .u64 r.n.b] 27) = w2 at *
    generalize w1.heap.size = A at *
    obtain ⟨kA, qA, zA⟩ := id CA
    have cA0 := qA 0 _ rfl
    have cA1 := qA 1 _ rfl
    have cA2 := qA 2 _ rfl
    have cA3 := qA 3 _ rfl
    have cA4 := qA 4 _ rfl
    have cA5 := qA 5 _ rfl
    have cA6 := qA 6 _ rfl
    clear qA zA
    go_wp2_with fail
    first
     | (go_region_held3 (fun w' => w'.cell? ⟨A, 0, none⟩ = some (.int .i64 r.e) ∧ w'.cell? ⟨A, 1, none⟩ = some (.int .u64 r.p.a) ∧ w'.cell? ⟨A, 2, none⟩ = some (.int .u64 r.p.b) ∧ w'.cell? ⟨A, 3, none⟩ = some (.int .u64 r.c.a) ∧ w'.cell? ⟨A, 4, none⟩ = some (.int .u64 r.c.b) ∧ w'.cell? ⟨A, 5, none⟩ = some (.int .u64 r.n.a) ∧ w'.cell? ⟨A, 6, none⟩ = some (.int .u64 r.n.b) ∧ A < w'.heap.size ∧ Below W.heap.size W w')
      (first
        | (go_split_ands; refine ⟨?_, ?_, ?_, ?_, ?_, ?_, ?_, ?_, ?_⟩; exact (hb5.cell (p := ⟨A, 0, none⟩) (by assumption)).trans (by assumption); exact (hb5.cell (p := ⟨A, 1, none⟩) (by assumption)).trans (by assumption); exact (hb5.cell (p := ⟨A, 2, none⟩) (by assumption)).trans (by assumption); exact (hb5.cell (p := ⟨A, 3, none⟩) (by assumption)).trans (by assumption); exact (hb5.cell (p := ⟨A, 4, none⟩) (by assumption)).trans (by assumption); exact (hb5.cell (p := ⟨A, 5, none⟩) (by assumption)).trans (by assumption); exact (hb5.cell (p := ⟨A, 6, none⟩) (by assumption)).trans (by assumption); exact Nat.lt_of_lt_of_le (by assumption) hb5.size; exact Below.trans (by assumption) (hb5.mono (by first | exact Nat.le_of_lt (by assumption) | exact Below.size (by assumption))))
        | (refine ⟨?_, ?_, ?_, ?_, ?_, ?_, ?_, ?_, ?_⟩; assumption; assumption; assumption; assumption; assumption; assumption; assumption; assumption; exact Below.drew (by assumption))
        | (go_split_ands; refine ⟨?_, ?_, ?_, ?_, ?_, ?_, ?_, ?_, ?_⟩; exact (World.cell?_alloc_lt _ _ ⟨A, 0, none⟩ (by assumption)).trans (by assumption); exact (World.cell?_alloc_lt _ _ ⟨A, 1, none⟩ (by assumption)).trans (by assumption); exact (World.cell?_alloc_lt _ _ ⟨A, 2, none⟩ (by assumption)).trans (by assumption); exact (World.cell?_alloc_lt _ _ ⟨A, 3, none⟩ (by assumption)).trans (by assumption); exact (World.cell?_alloc_lt _ _ ⟨A, 4, none⟩ (by assumption)).trans (by assumption); exact (World.cell?_alloc_lt _ _ ⟨A, 5, none⟩ (by assumption)).trans (by assumption); exact (World.cell?_alloc_lt _ _ ⟨A, 6, none⟩ (by assumption)).trans (by assumption); (simp; omega); exact Below.alloc (by assumption) (by first | exact Nat.le_of_lt (by assumption) | exact Below.size (by assumption)) _)
        | (go_split_ands; refine ⟨?_, ?_, ?_, ?_, ?_, ?_, ?_, ?_, ?_⟩; exact (World.cell?_alloc_lt _ _ ⟨A, 0, none⟩ (by assumption)).trans (by assumption); exact (World.cell?_alloc_lt _ _ ⟨A, 1, none⟩ (by assumption)).trans (by assumption); exact (World.cell?_alloc_lt _ _ ⟨A, 2, none⟩ (by assumption)).trans (by assumption); exact (World.cell?_alloc_lt _ _ ⟨A, 3, none⟩ (by assumption)).trans (by assumption); exact (World.cell?_alloc_lt _ _ ⟨A, 4, none⟩ (by assumption)).trans (by assumption); exact (World.cell?_alloc_lt _ _ ⟨A, 5, none⟩ (by assumption)).trans (by assumption); exact (World.cell?_alloc_lt _ _ ⟨A, 6, none⟩ (by assumption)).trans (by assumption); exact Nat.lt_of_lt_of_le (by assumption) (Below.drew (Below.alloc (Below.refl _ _) (Nat.le_refl _) _)).size; exact Below.drew (Below.alloc (by assumption) (Below.size (by assumption)) _))
        | (go_split_ands; refine ⟨?_, ?_, ?_, ?_, ?_, ?_, ?_, ?_, ?_⟩; assumption; assumption; assumption; assumption; assumption; assumption; assumption; assumption; assumption)
        | go_keep)
      ((first
        | (go_at_call 17
           go_split_ands
           with_reducible refine (WS.out _).mono ?_
           rintro e w5 ⟨rfl, rfl⟩))))
     | fail "the region"
    go_split_ands
    go_wp2_with fail
    first
     | (go_region_held3 (fun w' => w'.cell? ⟨A, 0, none⟩ = some (.int .i64 r.e) ∧ w'.cell? ⟨A, 1, none⟩ = some (.int .u64 r.p.a) ∧ w'.cell? ⟨A, 2, none⟩ = some (.int .u64 r.p.b) ∧ w'.cell? ⟨A, 3, none⟩ = some (.int .u64 r.c.a) ∧ w'.cell? ⟨A, 4, none⟩ = some (.int .u64 r.c.b) ∧ w'.cell? ⟨A, 5, none⟩ = some (.int .u64 r.n.a) ∧ w'.cell? ⟨A, 6, none⟩ = some (.int .u64 r.n.b) ∧ A < w'.heap.size ∧ Below W.heap.size W w')
      (first
        | (go_split_ands; refine ⟨?_, ?_, ?_, ?_, ?_, ?_, ?_, ?_, ?_⟩; exact (hb5.cell (p := ⟨A, 0, none⟩) (by assumption)).trans (by assumption); exact (hb5.cell (p := ⟨A, 1, none⟩) (by assumption)).trans (by assumption); exact (hb5.cell (p := ⟨A, 2, none⟩) (by assumption)).trans (by assumption); exact (hb5.cell (p := ⟨A, 3, none⟩) (by assumption)).trans (by assumption); exact (hb5.cell (p := ⟨A, 4, none⟩) (by assumption)).trans (by assumption); exact (hb5.cell (p := ⟨A, 5, none⟩) (by assumption)).trans (by assumption); exact (hb5.cell (p := ⟨A, 6, none⟩) (by assumption)).trans (by assumption); exact Nat.lt_of_lt_of_le (by assumption) hb5.size; exact Below.trans (by assumption) (hb5.mono (by first | exact Nat.le_of_lt (by assumption) | exact Below.size (by assumption))))
        | (refine ⟨?_, ?_, ?_, ?_, ?_, ?_, ?_, ?_, ?_⟩; assumption; assumption; assumption; assumption; assumption; assumption; assumption; assumption; exact Below.drew (by assumption))
        | (go_split_ands; refine ⟨?_, ?_, ?_, ?_, ?_, ?_, ?_, ?_, ?_⟩; exact (World.cell?_alloc_lt _ _ ⟨A, 0, none⟩ (by assumption)).trans (by assumption); exact (World.cell?_alloc_lt _ _ ⟨A, 1, none⟩ (by assumption)).trans (by assumption); exact (World.cell?_alloc_lt _ _ ⟨A, 2, none⟩ (by assumption)).trans (by assumption); exact (World.cell?_alloc_lt _ _ ⟨A, 3, none⟩ (by assumption)).trans (by assumption); exact (World.cell?_alloc_lt _ _ ⟨A, 4, none⟩ (by assumption)).trans (by assumption); exact (World.cell?_alloc_lt _ _ ⟨A, 5, none⟩ (by assumption)).trans (by assumption); exact (World.cell?_alloc_lt _ _ ⟨A, 6, none⟩ (by assumption)).trans (by assumption); (simp; omega); exact Below.alloc (by assumption) (by first | exact Nat.le_of_lt (by assumption) | exact Below.size (by assumption)) _)
        | (go_split_ands; refine ⟨?_, ?_, ?_, ?_, ?_, ?_, ?_, ?_, ?_⟩; exact (World.cell?_alloc_lt _ _ ⟨A, 0, none⟩ (by assumption)).trans (by assumption); exact (World.cell?_alloc_lt _ _ ⟨A, 1, none⟩ (by assumption)).trans (by assumption); exact (World.cell?_alloc_lt _ _ ⟨A, 2, none⟩ (by assumption)).trans (by assumption); exact (World.cell?_alloc_lt _ _ ⟨A, 3, none⟩ (by assumption)).trans (by assumption); exact (World.cell?_alloc_lt _ _ ⟨A, 4, none⟩ (by assumption)).trans (by assumption); exact (World.cell?_alloc_lt _ _ ⟨A, 5, none⟩ (by assumption)).trans (by assumption); exact (World.cell?_alloc_lt _ _ ⟨A, 6, none⟩ (by assumption)).trans (by assumption); exact Nat.lt_of_lt_of_le (by assumption) (Below.drew (Below.alloc (Below.refl _ _) (Nat.le_refl _) _)).size; exact Below.drew (Below.alloc (by assumption) (Below.size (by assumption)) _))
        | (go_split_ands; refine ⟨?_, ?_, ?_, ?_, ?_, ?_, ?_, ?_, ?_⟩; assumption; assumption; assumption; assumption; assumption; assumption; assumption; assumption; assumption)
        | go_keep)
      ((first
        | (go_at_call 37
           go_split_ands
           with_reducible refine (kv.out _).mono ?_
           rintro e w5 ⟨rfl, rfl⟩)
        | (go_at_call 19
           go_split_ands
           with_reducible refine (LF.out _).mono ?_
           rintro e w5 ⟨rfl, hb5⟩)
        | (go_at_call 20
           go_split_ands
           with_reducible refine (RD.out _).mono ?_
           rintro e w5 ⟨rfl, hb5⟩))))
     | fail "the region"
    go_split_ands
    go_wp2_with fail
    refine (KY.out _).mono ?_
    rintro e' w8 ⟨rfl, hb8⟩
    have B8 : Below W.heap.size W w8 := Below.trans (by assumption) (hb8.mono (Below.size (by assumption)))
    go_wp2_with fail
    go_ret
    exact ⟨rfl, B8.alloc B8.size _⟩
  · simp only [tB, if_true, Bool.false_eq_true, if_false] at hM
    have hM' : M = 262144 := by omega
    subst hM'
    have kv := fun w => lkind_any true w
    have q1 : IntKind.i64.wrap (r.e + 2) = r.e + 2 := IntWalk.i64_in _ (by have := hE.1; unfold Ep at this; omega)
    have q2 : (r.e + 2).tmod 4 = (r.e + 2) % 4 := Int.tmod_eq_emod_of_nonneg (by omega)
    have q3 : IntKind.i64.wrap ((r.e + 2) % 4 * 262144) = (r.e + 2) % 4 * 262144 := IntWalk.i64_in _ (by omega)
    have q4 : 0 ≤ r.e + 2 := by omega
    have q5 : 0 ≤ (r.e + 2) % 4 := by omega
    unfold rgV flV rdO kyO kyV kdB at *
    simp only [if_true, Bool.false_eq_true, if_false, Option.getD_some, Option.isSome_some, Option.getD_none, Option.isSome_none] at *
    replace LR := hid LR
    replace LF := hid LF
    have wq : IntKind.i64.wrap 262144 = 262144 := by decide
    rw [← wq] at WS
    replace WS := hid WS
    clear wq
    replace RD := hid RD
    replace KY := hid KY
    replace kv := hid kv
    have q0' := q0.out
    clear hM hrb hre
    go_enter Try.func12, Try.ntmps12
    go_wp2_with fail
    refine (known_any _).mono ?_
    rintro e' w ⟨rfl, hb1⟩
    have B := hb1
    clear hb1
    go_wp2_with fail
    refine (LR.out _).mono ?_
    rintro e' w1 ⟨rfl, hb⟩
    replace B := B.trans (hb.mono B.size)
    clear hb
    go_wp2_with fail
    have CA := Ce.made (w := w1) (l := [.int .i64 r.e, .int .u64 r.p.a, .int .u64 r.p.b, .int .u64 r.c.a, .int .u64 r.c.b, .int .u64 r.n.a, .int .u64 r.n.b]) (T := 27) (g := w1.heap.size) rfl
    replace B := B.alloc B.size (.cells #[.int .i64 r.e, .int .u64 r.p.a, .int .u64 r.p.b, .int .u64 r.c.a, .int .u64 r.c.b, .int .u64 r.n.a, .int .u64 r.n.b] 27)
    generalize w1.alloc (.cells #[.int .i64 r.e, .int .u64 r.p.a, .int .u64 r.p.b, .int .u64 r.c.a, .int .u64 r.c.b, .int .u64 r.n.a, .int .u64 r.n.b] 27) = w2 at *
    generalize w1.heap.size = A at *
    obtain ⟨kA, qA, zA⟩ := id CA
    have cA0 := qA 0 _ rfl
    have cA1 := qA 1 _ rfl
    have cA2 := qA 2 _ rfl
    have cA3 := qA 3 _ rfl
    have cA4 := qA 4 _ rfl
    have cA5 := qA 5 _ rfl
    have cA6 := qA 6 _ rfl
    clear qA zA
    go_wp2_with fail
    first
     | (go_region_held3 (fun w' => w'.cell? ⟨A, 0, none⟩ = some (.int .i64 r.e) ∧ w'.cell? ⟨A, 1, none⟩ = some (.int .u64 r.p.a) ∧ w'.cell? ⟨A, 2, none⟩ = some (.int .u64 r.p.b) ∧ w'.cell? ⟨A, 3, none⟩ = some (.int .u64 r.c.a) ∧ w'.cell? ⟨A, 4, none⟩ = some (.int .u64 r.c.b) ∧ w'.cell? ⟨A, 5, none⟩ = some (.int .u64 r.n.a) ∧ w'.cell? ⟨A, 6, none⟩ = some (.int .u64 r.n.b) ∧ A < w'.heap.size ∧ Below W.heap.size W w')
      (first
        | (go_split_ands; refine ⟨?_, ?_, ?_, ?_, ?_, ?_, ?_, ?_, ?_⟩; exact (hb5.cell (p := ⟨A, 0, none⟩) (by assumption)).trans (by assumption); exact (hb5.cell (p := ⟨A, 1, none⟩) (by assumption)).trans (by assumption); exact (hb5.cell (p := ⟨A, 2, none⟩) (by assumption)).trans (by assumption); exact (hb5.cell (p := ⟨A, 3, none⟩) (by assumption)).trans (by assumption); exact (hb5.cell (p := ⟨A, 4, none⟩) (by assumption)).trans (by assumption); exact (hb5.cell (p := ⟨A, 5, none⟩) (by assumption)).trans (by assumption); exact (hb5.cell (p := ⟨A, 6, none⟩) (by assumption)).trans (by assumption); exact Nat.lt_of_lt_of_le (by assumption) hb5.size; exact Below.trans (by assumption) (hb5.mono (by first | exact Nat.le_of_lt (by assumption) | exact Below.size (by assumption))))
        | (refine ⟨?_, ?_, ?_, ?_, ?_, ?_, ?_, ?_, ?_⟩; assumption; assumption; assumption; assumption; assumption; assumption; assumption; assumption; exact Below.drew (by assumption))
        | (go_split_ands; refine ⟨?_, ?_, ?_, ?_, ?_, ?_, ?_, ?_, ?_⟩; exact (World.cell?_alloc_lt _ _ ⟨A, 0, none⟩ (by assumption)).trans (by assumption); exact (World.cell?_alloc_lt _ _ ⟨A, 1, none⟩ (by assumption)).trans (by assumption); exact (World.cell?_alloc_lt _ _ ⟨A, 2, none⟩ (by assumption)).trans (by assumption); exact (World.cell?_alloc_lt _ _ ⟨A, 3, none⟩ (by assumption)).trans (by assumption); exact (World.cell?_alloc_lt _ _ ⟨A, 4, none⟩ (by assumption)).trans (by assumption); exact (World.cell?_alloc_lt _ _ ⟨A, 5, none⟩ (by assumption)).trans (by assumption); exact (World.cell?_alloc_lt _ _ ⟨A, 6, none⟩ (by assumption)).trans (by assumption); (simp; omega); exact Below.alloc (by assumption) (by first | exact Nat.le_of_lt (by assumption) | exact Below.size (by assumption)) _)
        | (go_split_ands; refine ⟨?_, ?_, ?_, ?_, ?_, ?_, ?_, ?_, ?_⟩; exact (World.cell?_alloc_lt _ _ ⟨A, 0, none⟩ (by assumption)).trans (by assumption); exact (World.cell?_alloc_lt _ _ ⟨A, 1, none⟩ (by assumption)).trans (by assumption); exact (World.cell?_alloc_lt _ _ ⟨A, 2, none⟩ (by assumption)).trans (by assumption); exact (World.cell?_alloc_lt _ _ ⟨A, 3, none⟩ (by assumption)).trans (by assumption); exact (World.cell?_alloc_lt _ _ ⟨A, 4, none⟩ (by assumption)).trans (by assumption); exact (World.cell?_alloc_lt _ _ ⟨A, 5, none⟩ (by assumption)).trans (by assumption); exact (World.cell?_alloc_lt _ _ ⟨A, 6, none⟩ (by assumption)).trans (by assumption); exact Nat.lt_of_lt_of_le (by assumption) (Below.drew (Below.alloc (Below.refl _ _) (Nat.le_refl _) _)).size; exact Below.drew (Below.alloc (by assumption) (Below.size (by assumption)) _))
        | (go_split_ands; refine ⟨?_, ?_, ?_, ?_, ?_, ?_, ?_, ?_, ?_⟩; assumption; assumption; assumption; assumption; assumption; assumption; assumption; assumption; assumption)
        | go_keep)
      ((first
        | (go_at_call 17
           go_split_ands
           with_reducible refine (WS.out _).mono ?_
           rintro e w5 ⟨rfl, rfl⟩))))
     | fail "the region"
    go_split_ands
    go_wp2_with fail
    first
     | (go_region_held3 (fun w' => w'.cell? ⟨A, 0, none⟩ = some (.int .i64 r.e) ∧ w'.cell? ⟨A, 1, none⟩ = some (.int .u64 r.p.a) ∧ w'.cell? ⟨A, 2, none⟩ = some (.int .u64 r.p.b) ∧ w'.cell? ⟨A, 3, none⟩ = some (.int .u64 r.c.a) ∧ w'.cell? ⟨A, 4, none⟩ = some (.int .u64 r.c.b) ∧ w'.cell? ⟨A, 5, none⟩ = some (.int .u64 r.n.a) ∧ w'.cell? ⟨A, 6, none⟩ = some (.int .u64 r.n.b) ∧ A < w'.heap.size ∧ Below W.heap.size W w')
      (first
        | (go_split_ands; refine ⟨?_, ?_, ?_, ?_, ?_, ?_, ?_, ?_, ?_⟩; exact (hb5.cell (p := ⟨A, 0, none⟩) (by assumption)).trans (by assumption); exact (hb5.cell (p := ⟨A, 1, none⟩) (by assumption)).trans (by assumption); exact (hb5.cell (p := ⟨A, 2, none⟩) (by assumption)).trans (by assumption); exact (hb5.cell (p := ⟨A, 3, none⟩) (by assumption)).trans (by assumption); exact (hb5.cell (p := ⟨A, 4, none⟩) (by assumption)).trans (by assumption); exact (hb5.cell (p := ⟨A, 5, none⟩) (by assumption)).trans (by assumption); exact (hb5.cell (p := ⟨A, 6, none⟩) (by assumption)).trans (by assumption); exact Nat.lt_of_lt_of_le (by assumption) hb5.size; exact Below.trans (by assumption) (hb5.mono (by first | exact Nat.le_of_lt (by assumption) | exact Below.size (by assumption))))
        | (refine ⟨?_, ?_, ?_, ?_, ?_, ?_, ?_, ?_, ?_⟩; assumption; assumption; assumption; assumption; assumption; assumption; assumption; assumption; exact Below.drew (by assumption))
        | (go_split_ands; refine ⟨?_, ?_, ?_, ?_, ?_, ?_, ?_, ?_, ?_⟩; exact (World.cell?_alloc_lt _ _ ⟨A, 0, none⟩ (by assumption)).trans (by assumption); exact (World.cell?_alloc_lt _ _ ⟨A, 1, none⟩ (by assumption)).trans (by assumption); exact (World.cell?_alloc_lt _ _ ⟨A, 2, none⟩ (by assumption)).trans (by assumption); exact (World.cell?_alloc_lt _ _ ⟨A, 3, none⟩ (by assumption)).trans (by assumption); exact (World.cell?_alloc_lt _ _ ⟨A, 4, none⟩ (by assumption)).trans (by assumption); exact (World.cell?_alloc_lt _ _ ⟨A, 5, none⟩ (by assumption)).trans (by assumption); exact (World.cell?_alloc_lt _ _ ⟨A, 6, none⟩ (by assumption)).trans (by assumption); (simp; omega); exact Below.alloc (by assumption) (by first | exact Nat.le_of_lt (by assumption) | exact Below.size (by assumption)) _)
        | (go_split_ands; refine ⟨?_, ?_, ?_, ?_, ?_, ?_, ?_, ?_, ?_⟩; exact (World.cell?_alloc_lt _ _ ⟨A, 0, none⟩ (by assumption)).trans (by assumption); exact (World.cell?_alloc_lt _ _ ⟨A, 1, none⟩ (by assumption)).trans (by assumption); exact (World.cell?_alloc_lt _ _ ⟨A, 2, none⟩ (by assumption)).trans (by assumption); exact (World.cell?_alloc_lt _ _ ⟨A, 3, none⟩ (by assumption)).trans (by assumption); exact (World.cell?_alloc_lt _ _ ⟨A, 4, none⟩ (by assumption)).trans (by assumption); exact (World.cell?_alloc_lt _ _ ⟨A, 5, none⟩ (by assumption)).trans (by assumption); exact (World.cell?_alloc_lt _ _ ⟨A, 6, none⟩ (by assumption)).trans (by assumption); exact Nat.lt_of_lt_of_le (by assumption) (Below.drew (Below.alloc (Below.refl _ _) (Nat.le_refl _) _)).size; exact Below.drew (Below.alloc (by assumption) (Below.size (by assumption)) _))
        | (go_split_ands; refine ⟨?_, ?_, ?_, ?_, ?_, ?_, ?_, ?_, ?_⟩; assumption; assumption; assumption; assumption; assumption; assumption; assumption; assumption; assumption)
        | go_keep)
      ((first
        | (go_at_call 37
           go_split_ands
           with_reducible refine (kv.out _).mono ?_
           rintro e w5 ⟨rfl, rfl⟩)
        | (go_at_call 19
           go_split_ands
           with_reducible refine (LF.out _).mono ?_
           rintro e w5 ⟨rfl, hb5⟩)
        | (go_at_call 20
           go_split_ands
           with_reducible refine (RD.out _).mono ?_
           rintro e w5 ⟨rfl, hb5⟩))))
     | fail "the region"
    go_split_ands
    go_wp2_with fail
    refine (KY.out _).mono ?_
    rintro e' w8 ⟨rfl, hb8⟩
    have B8 : Below W.heap.size W w8 := Below.trans (by assumption) (hb8.mono (Below.size (by assumption)))
    go_wp2_with fail
    go_ret
    exact ⟨rfl, B8.alloc B8.size _⟩

set_option maxRecDepth 100000 in
theorem lifted (os : Os) (started : os.Started) (H : Type) (enc : TypeId × Value → H) :
    ReturnsInHanded {} Try.checked os 12 .any (Rows.cookieFourthSpec.pre6 enc Try.prog Try.f12 [] false) (Rows.cookieFourthSpec.post enc Try.prog Try.f12 false true false false) :=
  law_step (s := Rows.cookieFourthSpec) started (by kernel_rfl) Try.func12
    (ChangeSpec.witness6 (s := Rows.cookieFourthSpec) (enc := enc) (C := Try.checked) false ⟨#[], #[.int .i64 0, .int .i64 0, .bool false, .int .i64 0, .int .i64 0, .int .i64 0], []⟩ 8 (by kernel_rfl) (by kernel_rfl) (by kernel_rfl) (by kernel_rfl))
    rfl (by rw [Try.params12]; decide +kernel) rfl Try.underlying4
    (fun ds h => by
      rw [Try.params12] at h
      match ds, h with
      | [_, _, _, _, _, _], _ => rfl)
    (fun W base args ds ps hval hA hsz => by
      rw [Try.params12] at hA hval hsz
      obtain ⟨v0, vs0, d0, ds0, p0, q0, hargs, rfl, rfl, h0, r0⟩ := trodAll_cons hA
      obtain ⟨v1, vs1, d1, ds1, p1, q1, rfl, rfl, rfl, h1, r1⟩ := trodAll_cons r0
      obtain ⟨v2, vs2, d2, ds2, p2, q2, rfl, rfl, rfl, h2, r2⟩ := trodAll_cons r1
      obtain ⟨v3, vs3, d3, ds3, p3, q3, rfl, rfl, rfl, h3, r3⟩ := trodAll_cons r2
      obtain ⟨v4, vs4, d4, ds4, p4, q4, rfl, rfl, rfl, h4, r4⟩ := trodAll_cons r3
      obtain ⟨v5, vs5, d5, ds5, p5, q5, rfl, rfl, rfl, h5, r5⟩ := trodAll_cons r4
      obtain ⟨rfl, rfl, rfl⟩ := trodAll_nil r5
      obtain rfl : args = #[v0, v1, v2, v3, v4, v5] := by cases args; simp_all
      obtain ⟨a0, rfl, rfl, rfl, w0⟩ := open_int Try.underlying3 (hval 0 3 v0 rfl rfl) h0
      obtain ⟨a1, rfl, rfl, rfl, w1⟩ := open_int Try.underlying3 (hval 1 3 v1 rfl rfl) h1
      obtain ⟨a2, rfl, rfl, rfl⟩ := open_bool Try.underlying4 (hval 2 4 v2 rfl rfl) h2
      obtain ⟨a3, rfl, rfl, rfl, w3⟩ := open_int Try.underlying3 (hval 3 3 v3 rfl rfl) h3
      obtain ⟨a4, rfl, rfl, rfl, w4⟩ := open_int Try.underlying3 (hval 4 3 v4 rfl rfl) h4
      obtain ⟨a5, rfl, rfl, rfl, w5⟩ := open_int Try.underlying3 (hval 5 3 v5 rfl rfl) h5
      exact walk W a0 (bounds_i64 w0) a1 (bounds_i64 w1) a2 a3 (bounds_i64 w3) a4 (bounds_i64 w4) a5 (bounds_i64 w5))

theorem proved : Rows.CookieFourthSaid :=
  OpenClaim.holds_of_wide 12 Try.f12 rfl rfl rfl rfl rfl rfl rfl ⟨rfl, rfl, rfl, rfl, rfl⟩ rfl rfl rfl rfl rfl (by kernel_rfl) Try.func12 (by kernel_rfl)
    (of_decide_eq_true (by kernel_rfl)) (by unfold Func.isWrapper; first | (rw [if_pos (by decide +kernel)]; kernel_rfl) | (rw [if_neg (by decide +kernel)]; exact ⟨rfl, rfl⟩))
    (fun os started H enc _ => lifted os started H enc)
end Go.Proofs.Ytfokkmemjkfifaa.cookieFourth
