/- Stamps that carry: laid together, parted. -/
import Derived.Test.YtfokkmemjkfifabCook5
namespace Go.Proofs.Ytfokkmemjkfifab
set_option linter.unusedVariables false
set_option linter.unusedSimpArgs false
open Go.RowKit Go.ChangeShapes Go.WideShapes Go.ChangeAt

def U32 (x : Int) : Prop := 0 ≤ x ∧ x < 4294967296
theorem uand32 (x : Int) (j : Nat) (hj : j ≤ 31) (hx : U32 x) : bits .and .u32 x (2 ^ j - 1) = x % 2 ^ j := by
  obtain ⟨n, rfl⟩ := Int.eq_ofNat_of_zero_le hx.1
  have hn : n < 2 ^ 32 := by have := hx.2; omega
  have hp : (2 : Nat) ^ j ≤ 2 ^ 31 := Nat.pow_le_pow_right (by omega) hj
  have h0 := Nat.two_pow_pos j
  have h3 : (((2 ^ j : Nat)) : Int) = 2 ^ j := by simp
  have e : ((2 : Int) ^ j - 1) = ((2 ^ j - 1 : Nat) : Int) := by omega
  rw [e]
  show IntKind.u32.wrap ((BitVec.ofInt 32 (n : Int) &&& BitVec.ofInt 32 ((2 ^ j - 1 : Nat) : Int)).toNat : Int) = _
  rw [BitVec.toNat_and, BitVec.ofInt_natCast, BitVec.ofInt_natCast, BitVec.toNat_ofNat, BitVec.toNat_ofNat, Nat.mod_eq_of_lt hn, Nat.mod_eq_of_lt (by omega), Nat.and_two_pow_sub_one_eq_mod, IntKind.wrap_u32]
  have h2 : n % 2 ^ j < 2 ^ j := Nat.mod_lt _ h0
  rw [← h3]
  omega
theorem or_u32 (y x : Int) (hy : 0 ≤ y ∧ y < 4096) (hx : 0 ≤ x ∧ x < 1048576) : bits .or .u32 (y * 1048576) x = y * 1048576 + x := by
  obtain ⟨a, rfl⟩ := Int.eq_ofNat_of_zero_le hy.1
  obtain ⟨b, rfl⟩ := Int.eq_ofNat_of_zero_le hx.1
  have e : ((a : Int) * 1048576) = ((a * 2 ^ 20 : Nat) : Int) := by omega
  have hor : a * 2 ^ 20 ||| b = a * 2 ^ 20 + b := by rw [Nat.mul_comm a, ← Nat.two_pow_add_eq_or_of_lt (by omega)]
  rw [e]
  show IntKind.u32.wrap ((BitVec.ofInt 32 ((a * 2 ^ 20 : Nat) : Int) ||| BitVec.ofInt 32 (b : Int)).toNat : Int) = _
  rw [BitVec.toNat_or, BitVec.ofInt_natCast, BitVec.ofInt_natCast, BitVec.toNat_ofNat, BitVec.toNat_ofNat, Nat.mod_eq_of_lt (by omega), Nat.mod_eq_of_lt (by omega), hor, IntKind.wrap_u32]
  omega
theorem ret_u32 {a b : Int} (h : a = b) : Ending.returned (.int .u32 a) = .returned (.int .u32 b) := by rw [h]
theorem cutU (a wd v : Int) (w : World) (hv : U32 v) (hw : wd = 12 ∨ wd = 20) :
    Calls Try.prog 40 #[.agg #[.int .u64 a, .int .u64 wd], .int .u32 v] w fun e w' => e = .returned (.int .u32 (v % 2 ^ wd.toNat)) ∧ Below w.heap.size w w' := by
  have h1 : bits .and .u32 v 4095 = v % 4096 := uand32 v 12 (by omega) hv
  have h2 : bits .and .u32 v 1048575 = v % 1048576 := uand32 v 20 (by omega) hv
  rcases hw with rfl | rfl
  all_goals
    go_enter Try.func40, Try.ntmps40
    go_wp2_with fail
    go_ret
    exact ⟨rfl, (Below.refl _ _).alloc (Nat.le_refl _) _⟩
theorem laidU (a wd v : Int) (w : World) (hv : U32 v) (hf : (a = 20 ∧ wd = 12) ∨ (a = 0 ∧ wd = 20)) :
    Calls Try.prog 34 #[.agg #[.int .u64 a, .int .u64 wd], .int .u32 v] w fun e w' => e = .returned (.int .u32 (v % 2 ^ wd.toNat * 2 ^ a.toNat)) ∧ Below w.heap.size w w' := by
  have hw : wd = 12 ∨ wd = 20 := by omega
  have ha : 0 ≤ a := by omega
  have ha' : a ≤ 32 := by omega
  have hvU := hv
  obtain ⟨hv1, hv2⟩ := hv
  go_enter Try.func34, Try.ntmps34
  go_wp2_with fail
  have CK := Ce.made (w := w) (l := [.int .u64 a, .int .u64 wd]) (T := 65) (g := w.heap.size) rfl
  have B : Below w.heap.size w (w.alloc (.cells #[.int .u64 a, .int .u64 wd] 65)) := ((Below.refl _ _).alloc (Nat.le_refl _) (.cells #[.int .u64 a, .int .u64 wd] 65))
  obtain ⟨kK, qK, zK⟩ := CK
  have cK0 := qK 0 _ rfl
  have cK1 := qK 1 _ rfl
  clear qK zK
  generalize w.alloc (.cells #[.int .u64 a, .int .u64 wd] 65) = w1 at *
  generalize hK : w.heap.size = K at *
  go_region_held3 (fun w' => w'.cell? ⟨K, 0, none⟩ = some (.int .u64 a) ∧ w'.cell? ⟨K, 1, none⟩ = some (.int .u64 wd) ∧ K < w'.heap.size ∧ Below K w w')
    (first
      | (go_split_ands; refine ⟨?_, ?_, ?_, ?_⟩; exact (hb5.cell (p := ⟨K, 0, none⟩) (by assumption)).trans (by assumption); exact (hb5.cell (p := ⟨K, 1, none⟩) (by assumption)).trans (by assumption); exact Nat.lt_of_lt_of_le (by assumption) hb5.size; exact Below.trans (by assumption) (hb5.mono (by first | exact Nat.le_of_lt (by assumption) | exact Below.size (by assumption))))
      | (refine ⟨?_, ?_, ?_, ?_⟩; assumption; assumption; assumption; exact Below.drew (by assumption))
      | (go_split_ands; refine ⟨?_, ?_, ?_, ?_⟩; exact (World.cell?_alloc_lt _ _ ⟨K, 0, none⟩ (by assumption)).trans (by assumption); exact (World.cell?_alloc_lt _ _ ⟨K, 1, none⟩ (by assumption)).trans (by assumption); (simp; omega); exact Below.alloc (by assumption) (by first | exact Nat.le_of_lt (by assumption) | exact Below.size (by assumption)) _)
      | (go_split_ands; refine ⟨?_, ?_, ?_, ?_⟩; exact (World.cell?_alloc_lt _ _ ⟨K, 0, none⟩ (by assumption)).trans (by assumption); exact (World.cell?_alloc_lt _ _ ⟨K, 1, none⟩ (by assumption)).trans (by assumption); exact Nat.lt_of_lt_of_le (by assumption) (Below.drew (Below.alloc (Below.refl _ _) (Nat.le_refl _) _)).size; exact Below.drew (Below.alloc (by assumption) (Below.size (by assumption)) _))
      | (go_split_ands; refine ⟨?_, ?_, ?_, ?_⟩; assumption; assumption; assumption; assumption)
      | go_keep)
    ((first
      | (go_at_call 40
         go_split_ands
         with_reducible refine (cutU a wd v _ hvU hw).mono ?_
         rintro e w5 ⟨rfl, hb5⟩)))
  all_goals
    go_split_ands
    go_wp2_with fail
    go_ret
    refine ⟨ret_u32 ?_, by first | assumption | (rw [hK]; assumption)⟩
    rcases hf with ⟨rfl, rfl⟩ | ⟨rfl, rfl⟩ <;> (rw [IntKind.wrap_u32]; simp; omega)
theorem ofU (a wd v : Int) (w : World) (hv : U32 v) (hf : (a = 20 ∧ wd = 12) ∨ (a = 0 ∧ wd = 20) ∨ (a = 8 ∧ wd = 12)) :
    Calls Try.prog 33 #[.agg #[.int .u64 a, .int .u64 wd], .int .u32 v] w fun e w' => e = .returned (.int .u32 (v / 2 ^ a.toNat % 2 ^ wd.toNat)) ∧ Below w.heap.size w w' := by
  have hv3 : U32 (v / 2 ^ a.toNat) := by
    obtain ⟨h1, h2⟩ := hv
    unfold U32
    rcases hf with ⟨rfl, rfl⟩ | ⟨rfl, rfl⟩ | ⟨rfl, rfl⟩
    · show 0 ≤ v / 1048576 ∧ v / 1048576 < 4294967296
      omega
    · show 0 ≤ v / 1 ∧ v / 1 < 4294967296
      omega
    · show 0 ≤ v / 256 ∧ v / 256 < 4294967296
      omega
  have hw : wd = 12 ∨ wd = 20 := by omega
  have ha : 0 ≤ a := by omega
  have ha' : a ≤ 32 := by omega
  have hvU := hv
  obtain ⟨hv1, hv2⟩ := hv
  go_enter Try.func33, Try.ntmps33
  go_wp2_with fail
  refine (cutU a wd _ _ hv3 hw).mono ?_
  rintro e w' ⟨rfl, hb⟩
  have hb0 := ((Below.refl w.heap.size w).alloc (Nat.le_refl _) _).trans (hb.mono (by simp))
  go_wp2_with fail
  go_ret
  exact ⟨rfl, hb0⟩
theorem stampShape_any (w : World) : Calls Try.prog 32 #[] w fun e w' => e = .returned (.agg #[.int .u64 20, .int .u64 12, .int .u64 0, .int .u64 20]) ∧ Below w.heap.size w w' := by
  go_enter Try.func32, Try.ntmps32
  go_wp2_with fail
  refine bodyPost_ret (by simp [results, Try.results32, go_sem]) rfl ⟨rfl, ?_⟩
  repeat' (first | with_reducible exact Below.refl _ _ | with_reducible refine Below.alloc ?_ ?_ _ | with_reducible refine Below.setCell ?_ ?_ _ | (simp; done) | (simp; omega))
theorem stampCoarse_any (w : World) : Calls Try.prog 35 #[] w fun e w' => e = .returned (.agg #[.int .u64 8, .int .u64 12]) ∧ Below w.heap.size w w' := by
  go_enter Try.func35, Try.ntmps35
  go_wp2_with fail
  refine bodyPost_ret (by simp [results, Try.results35, go_sem]) rfl ⟨rfl, ?_⟩
  repeat' (first | with_reducible exact Below.refl _ _ | with_reducible refine Below.alloc ?_ ?_ _ | with_reducible refine Below.setCell ?_ ?_ _ | (simp; done) | (simp; omega))
theorem get_any (v : Int) (hv : U32 v) (w : World) : Calls Try.prog 12 #[.int .u32 v] w fun e w' => e = .returned (.tuple #[.int .i64 (v / 1048576), .int .i64 (v % 1048576)]) ∧ Below w.heap.size w w' := by
  have q1 : Hid (v / 1048576 % 4096 = v / 1048576) := by obtain ⟨h1, h2⟩ := hv; unfold Hid; omega
  have r1 : Hid (IntKind.i64.wrap (v / 1048576) = v / 1048576) := by obtain ⟨h1, h2⟩ := hv; exact IntWalk.i64_in _ (by omega)
  have r2 : Hid (IntKind.i64.wrap (v % 1048576) = v % 1048576) := IntWalk.i64_in _ (by omega)
  have hvU := hv
  obtain ⟨hv1, hv2⟩ := hv
  go_enter Try.func12, Try.ntmps12
  go_wp2_with fail
  refine (stampShape_any _).mono ?_
  rintro e' w2 ⟨rfl, hb⟩
  have B := hb
  clear hb
  have hws : w.heap.size ≤ w2.heap.size := B.size
  go_wp2_with fail
  have CS := Ce.made (w := w2) (l := [.int .u64 20, .int .u64 12, .int .u64 0, .int .u64 20]) (T := 67) (g := w2.heap.size) rfl
  replace B := B.alloc hws (.cells #[.int .u64 20, .int .u64 12, .int .u64 0, .int .u64 20] 67)
  generalize w2.alloc (.cells #[.int .u64 20, .int .u64 12, .int .u64 0, .int .u64 20] 67) = w3 at *
  generalize hS : w2.heap.size = S at *
  obtain ⟨N0, hN0⟩ : ∃ N0, N0 = w.heap.size := ⟨_, rfl⟩
  rw [← hN0] at B hws
  obtain ⟨kS, qS, zS⟩ := id CS
  have cS0 := qS 0 _ rfl
  have cS1 := qS 1 _ rfl
  have cS2 := qS 2 _ rfl
  have cS3 := qS 3 _ rfl
  clear qS zS
  clear CS
  go_region_held3 (fun w' => w'.cell? ⟨S, 0, none⟩ = some (.int .u64 20) ∧ w'.cell? ⟨S, 1, none⟩ = some (.int .u64 12) ∧ w'.cell? ⟨S, 2, none⟩ = some (.int .u64 0) ∧ w'.cell? ⟨S, 3, none⟩ = some (.int .u64 20) ∧ S < w'.heap.size ∧ Below N0 w w')
    (first
      | (go_split_ands; refine ⟨?_, ?_, ?_, ?_, ?_, ?_⟩; exact (hb5.cell (p := ⟨S, 0, none⟩) (by assumption)).trans (by assumption); exact (hb5.cell (p := ⟨S, 1, none⟩) (by assumption)).trans (by assumption); exact (hb5.cell (p := ⟨S, 2, none⟩) (by assumption)).trans (by assumption); exact (hb5.cell (p := ⟨S, 3, none⟩) (by assumption)).trans (by assumption); exact Nat.lt_of_lt_of_le (by assumption) hb5.size; exact Below.trans (by assumption) (hb5.mono (by first | exact Nat.le_of_lt (by assumption) | (have := Below.size (by assumption); omega) | omega)))
      | (refine ⟨?_, ?_, ?_, ?_, ?_, ?_⟩; assumption; assumption; assumption; assumption; assumption; exact Below.drew (by assumption))
      | (go_split_ands; refine ⟨?_, ?_, ?_, ?_, ?_, ?_⟩; exact (World.cell?_alloc_lt _ _ ⟨S, 0, none⟩ (by assumption)).trans (by assumption); exact (World.cell?_alloc_lt _ _ ⟨S, 1, none⟩ (by assumption)).trans (by assumption); exact (World.cell?_alloc_lt _ _ ⟨S, 2, none⟩ (by assumption)).trans (by assumption); exact (World.cell?_alloc_lt _ _ ⟨S, 3, none⟩ (by assumption)).trans (by assumption); (simp; omega); exact Below.alloc (by assumption) (by first | exact Nat.le_of_lt (by assumption) | (have := Below.size (by assumption); omega) | omega) _)
      | (go_split_ands; refine ⟨?_, ?_, ?_, ?_, ?_, ?_⟩; exact (World.cell?_alloc_lt _ _ ⟨S, 0, none⟩ (by assumption)).trans (by assumption); exact (World.cell?_alloc_lt _ _ ⟨S, 1, none⟩ (by assumption)).trans (by assumption); exact (World.cell?_alloc_lt _ _ ⟨S, 2, none⟩ (by assumption)).trans (by assumption); exact (World.cell?_alloc_lt _ _ ⟨S, 3, none⟩ (by assumption)).trans (by assumption); exact Nat.lt_of_lt_of_le (by assumption) (Below.drew (Below.alloc (Below.refl _ _) (Nat.le_refl _) _)).size; exact Below.drew (Below.alloc (by assumption) (Below.size (by assumption)) _))
      | (go_split_ands; refine ⟨?_, ?_, ?_, ?_, ?_, ?_⟩; assumption; assumption; assumption; assumption; assumption; assumption)
      | go_keep)
    ((first
      | (go_at_call 33
         go_split_ands
         with_reducible refine (ofU 20 12 v _ hvU ?_).mono ?_
         · decide
         rintro e w5 ⟨rfl, hb5⟩)
      | (go_at_call 33
         go_split_ands
         with_reducible refine (ofU 0 20 v _ hvU ?_).mono ?_
         · decide
         rintro e w5 ⟨rfl, hb5⟩)))
  all_goals
    go_split_ands
    go_wp2_with fail
    refine bodyPost_ret (v := .tuple #[.int .i64 (v / 1048576), .int .i64 (v % 1048576)]) (by simp [results, Try.results12, go_sem, q1.out, r1.out, r2.out]) rfl ⟨rfl, ?_⟩
    rw [← hN0]
    assumption
theorem put_any (v c : Int) (hv : U32 v) (hc : 0 ≤ c ∧ c < 1048576) (w : World) : Calls Try.prog 14 #[.int .u32 v, .int .i64 c] w fun e w' => e = .returned (.int .u32 (putV v c)) ∧ Below w.heap.size w w' := by
  obtain ⟨hc1, hc2⟩ := hc
  have hvU := hv
  obtain ⟨hv1, hv2⟩ := hv
  have q1 : Hid (bits .or .u32 (v / 256 % 4096 * 1048576) c = putV v c) := or_u32 (v / 256 % 4096) c (by omega) ⟨hc1, hc2⟩
  have q2 : Hid (v / 256 % 4096 % 4096 = v / 256 % 4096) := by unfold Hid; omega
  have q3 : Hid (c % 1048576 = c) := by unfold Hid; omega
  have q4 : IntKind.u32.wrap c = c := by rw [IntKind.wrap_u32]; omega
  go_enter Try.func14, Try.ntmps14
  go_wp2_with fail
  refine (stampShape_any _).mono ?_
  rintro e' w2 ⟨rfl, hb⟩
  have B := hb
  clear hb
  have hws : w.heap.size ≤ w2.heap.size := B.size
  go_wp2_with fail
  have CS := Ce.made (w := w2) (l := [.int .u64 20, .int .u64 12, .int .u64 0, .int .u64 20]) (T := 67) (g := w2.heap.size) rfl
  replace B := B.alloc hws (.cells #[.int .u64 20, .int .u64 12, .int .u64 0, .int .u64 20] 67)
  generalize w2.alloc (.cells #[.int .u64 20, .int .u64 12, .int .u64 0, .int .u64 20] 67) = w3 at *
  generalize hS : w2.heap.size = S at *
  obtain ⟨N0, hN0⟩ : ∃ N0, N0 = w.heap.size := ⟨_, rfl⟩
  rw [← hN0] at B hws
  obtain ⟨kS, qS, zS⟩ := id CS
  have cS0 := qS 0 _ rfl
  have cS1 := qS 1 _ rfl
  have cS2 := qS 2 _ rfl
  have cS3 := qS 3 _ rfl
  clear qS zS
  clear CS
  go_region_held3 (fun w' => w'.cell? ⟨S, 0, none⟩ = some (.int .u64 20) ∧ w'.cell? ⟨S, 1, none⟩ = some (.int .u64 12) ∧ w'.cell? ⟨S, 2, none⟩ = some (.int .u64 0) ∧ w'.cell? ⟨S, 3, none⟩ = some (.int .u64 20) ∧ S < w'.heap.size ∧ Below N0 w w')
    (first
      | (go_split_ands; refine ⟨?_, ?_, ?_, ?_, ?_, ?_⟩; exact (hb5.cell (p := ⟨S, 0, none⟩) (by assumption)).trans (by assumption); exact (hb5.cell (p := ⟨S, 1, none⟩) (by assumption)).trans (by assumption); exact (hb5.cell (p := ⟨S, 2, none⟩) (by assumption)).trans (by assumption); exact (hb5.cell (p := ⟨S, 3, none⟩) (by assumption)).trans (by assumption); exact Nat.lt_of_lt_of_le (by assumption) hb5.size; exact Below.trans (by assumption) (hb5.mono (by first | exact Nat.le_of_lt (by assumption) | (have := Below.size (by assumption); omega) | omega)))
      | (refine ⟨?_, ?_, ?_, ?_, ?_, ?_⟩; assumption; assumption; assumption; assumption; assumption; exact Below.drew (by assumption))
      | (go_split_ands; refine ⟨?_, ?_, ?_, ?_, ?_, ?_⟩; exact (World.cell?_alloc_lt _ _ ⟨S, 0, none⟩ (by assumption)).trans (by assumption); exact (World.cell?_alloc_lt _ _ ⟨S, 1, none⟩ (by assumption)).trans (by assumption); exact (World.cell?_alloc_lt _ _ ⟨S, 2, none⟩ (by assumption)).trans (by assumption); exact (World.cell?_alloc_lt _ _ ⟨S, 3, none⟩ (by assumption)).trans (by assumption); (simp; omega); exact Below.alloc (by assumption) (by first | exact Nat.le_of_lt (by assumption) | (have := Below.size (by assumption); omega) | omega) _)
      | (go_split_ands; refine ⟨?_, ?_, ?_, ?_, ?_, ?_⟩; exact (World.cell?_alloc_lt _ _ ⟨S, 0, none⟩ (by assumption)).trans (by assumption); exact (World.cell?_alloc_lt _ _ ⟨S, 1, none⟩ (by assumption)).trans (by assumption); exact (World.cell?_alloc_lt _ _ ⟨S, 2, none⟩ (by assumption)).trans (by assumption); exact (World.cell?_alloc_lt _ _ ⟨S, 3, none⟩ (by assumption)).trans (by assumption); exact Nat.lt_of_lt_of_le (by assumption) (Below.drew (Below.alloc (Below.refl _ _) (Nat.le_refl _) _)).size; exact Below.drew (Below.alloc (by assumption) (Below.size (by assumption)) _))
      | (go_split_ands; refine ⟨?_, ?_, ?_, ?_, ?_, ?_⟩; assumption; assumption; assumption; assumption; assumption; assumption)
      | go_keep)
    ((first
      | (go_at_call 35
         go_split_ands
         with_reducible refine (stampCoarse_any _).mono ?_
         rintro e w5 ⟨rfl, hb5⟩)
      | (go_at_call 33
         go_split_ands
         with_reducible refine (ofU 8 12 v _ hvU ?_).mono ?_
         · decide
         rintro e w5 ⟨rfl, hb5⟩)
      | (go_at_call 34
         go_split_ands
         with_reducible refine (laidU 20 12 _ _ ?_ ?_).mono ?_
         · (show (0 : Int) ≤ _ ∧ _ < (4294967296 : Int); constructor <;> (first | omega | (simp; omega) | (simp; done)))
         · decide
         rintro e w5 ⟨rfl, hb5⟩)
      | (go_at_call 34
         go_split_ands
         with_reducible refine (laidU 0 20 _ _ ?_ ?_).mono ?_
         · (show (0 : Int) ≤ _ ∧ _ < (4294967296 : Int); constructor <;> (first | omega | (simp; omega) | (simp; done)))
         · decide
         rintro e w5 ⟨rfl, hb5⟩)))
  all_goals
    go_split_ands
    go_wp2_with fail
    go_ret
    refine ⟨ret_u32 ?_, by rw [← hN0]; assumption⟩
    rw [q3.out]
    exact q1.out

end Go.Proofs.Ytfokkmemjkfifab
