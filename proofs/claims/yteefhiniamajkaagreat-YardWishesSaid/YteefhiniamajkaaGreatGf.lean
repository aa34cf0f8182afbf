/- Who stands at a place. Who stands at a place, as the reference tells it. Find. The reference's Find. -/
import Derived.Test.YteefhiniamajkaaGreatGc
import Derived.BigQuiet
import Derived.Deep.RegionHeld3
import Derived.Deep.Cut
namespace Go.Proofs.YteefhiniamajkaaGreat
set_option linter.unusedVariables false
set_option linter.unusedSimpArgs false
open Go.RowKit Go.ChangeShapes Go.WideShapes Go.ChangeAt

set_option maxRecDepth 100000 in
set_option maxHeartbeats 4000000 in
theorem taken_any (p : Pl) (a q : Int) (w : World) : Calls Tryz.prog 89 #[plV p, .agg #[.int .i64 a, .int .i64 q]] w fun x w' => x = .returned (.bool (heldB p a q)) ∧ Below w.heap.size w w' := by
  unfold plV heldB
  go_enter Tryz.func89, Tryz.ntmps89
  go_upto_region 1 with (fail)
  have P1 := hid ((PoolAt.made (w := w) (p := p) (T := 33) rfl).alloc (.cells #[.int .i64 a, .int .i64 q] 159))
  have CX := Ce.made (w := w.alloc (.cells (PA p) 33)) (l := [.int .i64 a, .int .i64 q]) (T := 159) (g := w.heap.size + 1) (by simp)
  have B := ((Below.refl w.heap.size w).alloc (Nat.le_refl _) (.cells (PA p) 33)).alloc (by simp) (.cells #[.int .i64 a, .int .i64 q] 159)
  generalize (w.alloc (.cells (PA p) 33)).alloc (.cells #[.int .i64 a, .int .i64 q] 159) = w1 at *
  generalize w.heap.size + 1 = X at *
  generalize hK : w.heap.size = P at *
  have HK := hid hK
  clear hK
  have x0 := CX.2.1 0 _ rfl
  have x1 := CX.2.1 1 _ rfl
  have c1 := P1.out.c1
  have c2 := P1.out.c2
  have LS := P1.out.loadS
  have HCX := hid CX
  have HB := hid B
  have lP := CX.1
  clear CX B
  have h3 : ((a == p.a) = true ∧ (q == p.p) = true) ∨ (a == p.a) = false ∨ ((a == p.a) = true ∧ (q == p.p) = false) := by cases (a == p.a) <;> cases (q == p.p) <;> simp
  rcases h3 with ⟨h4, h5⟩ | h4
  · have HE := hid (show (p.a == a && p.p == q) = true from by rw [eq_of_beq h4, eq_of_beq h5]; simp)
    go_wp2_with fail
    go_ret
    exact ⟨by rw [HE.out]; rfl, by rw [HK.out]; exact HB.out⟩
  · have HE : Hid ((p.a == a && p.p == q) = false) := hid (by rcases h4 with h4 | ⟨h4, h5⟩; (rw [beq_sw p.a, h4]; rfl); (rw [beq_sw p.p, h5]; simp))
    rcases h4 with h4 | ⟨h4, h5⟩
    all_goals
      go_wp2_with (refine wl_load rfl rfl rfl LS ?_)
      go_loopw [16] (fun i wr => ∃ k : Nat, k ≤ 64 ∧ i = .int .i64 (k : Int) ∧ (∀ j, j < k → atS p a q j = false) ∧ Below w1.heap.size w1 wr) (fun i _ => 64 - (intOf i).toNat)
      case atStart => exact ⟨0, by omega, rfl, fun j hj => absurd hj (by omega), Below.refl _ _⟩
      case round =>
        obtain ⟨k, hk, rfl, hno, hb⟩ := hrel
        replace hno := hid hno
        have HCX2 := hid (HCX.out.below hb)
        clear x0 x1 c1 c2 LS
        have HB2 := hid hb
        clear hb
        by_cases hlt : k < 64
        · have i1 : (k : Int) < 64 := by omega
          have IX := index_sl p.s k hlt wr
          have AT : Hid (atS p a q k = ((p.s k).st != 0 && (p.s k).ad == a && (p.s k).po == q)) := hid rfl
          unfold spV at IX
          generalize p.s k = s at *
          obtain ⟨st, ad, po, we, si⟩ := s
          simp only at IX AT
          have CX := HCX2.out.alloc (.cells #[.int .i64 st, .int .i64 ad, .int .i64 po, .int .i64 we, .int .i64 si] 25)
          go_upto_region 6 with (refine wl_index rfl rfl rfl rfl IX ?_)
          clear IX
          have x0 := CX.2.1 0 _ rfl
          have x1 := CX.2.1 1 _ rfl
          clear CX
          have h6 : (st != 0) = false ∨ (st != 0) = true ∧ (a == ad) = false ∨ (st != 0) = true ∧ (a == ad) = true ∧ (q == po) = false ∨ (st != 0) = true ∧ (a == ad) = true ∧ (q == po) = true := by cases (st != 0) <;> cases (a == ad) <;> cases (q == po) <;> simp
          rcases h6 with h6 | ⟨h6, h7⟩ | ⟨h6, h7, h8⟩ | ⟨h6, h7, h8⟩
          · have AF : Hid (atS p a q k = false) := hid (by rw [AT.out, h6]; rfl)
            clear AT
            go_wp2_with fail
            go_roundw
            case rel => exact ⟨k + 1, by omega, by go_num, fun j hj => (by rcases Nat.lt_or_ge j k with h | h; exact hno.out j h; (rw [show j = k by omega]; exact AF.out)), by repeat' (first | with_reducible exact HB2.out | with_reducible refine Below.drew ?_ | with_reducible refine Below.alloc ?_ HB2.out.size _ | with_reducible refine Below.setCell ?_ HB2.out.size _)⟩
            case measure => simp [intOf]; omega
          · have AF : Hid (atS p a q k = false) := hid (by rw [AT.out, h6, beq_sw ad, h7]; rfl)
            clear AT
            go_wp2_with fail
            go_roundw
            case rel => exact ⟨k + 1, by omega, by go_num, fun j hj => (by rcases Nat.lt_or_ge j k with h | h; exact hno.out j h; (rw [show j = k by omega]; exact AF.out)), by repeat' (first | with_reducible exact HB2.out | with_reducible refine Below.drew ?_ | with_reducible refine Below.alloc ?_ HB2.out.size _ | with_reducible refine Below.setCell ?_ HB2.out.size _)⟩
            case measure => simp [intOf]; omega
          · have AF : Hid (atS p a q k = false) := hid (by rw [AT.out, h6, beq_sw po, h8]; simp)
            clear AT
            go_wp2_with fail
            go_roundw
            case rel => exact ⟨k + 1, by omega, by go_num, fun j hj => (by rcases Nat.lt_or_ge j k with h | h; exact hno.out j h; (rw [show j = k by omega]; exact AF.out)), by repeat' (first | with_reducible exact HB2.out | with_reducible refine Below.drew ?_ | with_reducible refine Below.alloc ?_ HB2.out.size _ | with_reducible refine Below.setCell ?_ HB2.out.size _)⟩
            case measure => simp [intOf]; omega
          · have AF : Hid (atS p a q k = true) := hid (by rw [AT.out, h6, beq_sw ad, h7, beq_sw po, h8]; rfl)
            clear AT
            go_wp2_with fail
            go_ret
            exact ⟨by rw [any_yes k hlt AF.out, Bool.or_true]; rfl, by rw [HK.out]; refine HB.out.trans (Below.mono ?_ (by have := HB.out.size; rw [HK.out] at this; exact this)); repeat' (first | with_reducible exact HB2.out | with_reducible refine Below.drew ?_ | with_reducible refine Below.alloc ?_ HB2.out.size _ | with_reducible refine Below.setCell ?_ HB2.out.size _)⟩
        · have e : k = 64 := by omega
          subst e
          go_wp2_with fail
          go_ret
          exact ⟨by rw [any_no hno.out, HE.out]; rfl, by rw [HK.out]; exact HB.out.trans (HB2.out.mono (by have := HB.out.size; rw [HK.out] at this; exact this))⟩
end Go.Proofs.YteefhiniamajkaaGreat
namespace Go.Proofs.YteefhiniamajkaaGreat
set_option linter.unusedVariables false
set_option linter.unusedSimpArgs false
open Go.RowKit Go.ChangeShapes Go.WideShapes Go.ChangeAt

set_option maxRecDepth 100000 in
set_option maxHeartbeats 4000000 in
theorem held_any (p : Pl) (a q : Int) (w : World) : Calls Tryz.prog 71 #[plV p, .int .i64 a, .int .i64 q] w fun x w' => x = .returned (.bool (heldB p a q)) ∧ Below w.heap.size w w' := by
  unfold plV heldB
  go_enter Tryz.func71, Tryz.ntmps71
  go_upto_region 1 with (fail)
  have P1 := hid (PoolAt.made (w := w) (p := p) (T := 33) rfl)
  have HB := hid ((Below.refl w.heap.size w).alloc (Nat.le_refl _) (.cells (PA p) 33))
  generalize w.alloc (.cells (PA p) 33) = w1 at *
  generalize hK : w.heap.size = P at *
  have HK := hid hK
  clear hK
  go_wp2_with fail
  go_loopw [7] (fun i wr => ∃ k : Nat, k ≤ 64 ∧ i = .int .i64 (k : Int) ∧ (∀ j, j < k → atS p a q j = false) ∧ Below w1.heap.size w1 wr) (fun i _ => 64 - (intOf i).toNat)
  case atStart => exact ⟨0, by omega, rfl, fun j hj => absurd hj (by omega), Below.refl _ _⟩
  case round =>
    obtain ⟨k, hk, rfl, hno, hb⟩ := hrel
    replace hno := hid hno
    have P2 := hid (P1.out.below hb)
    have HB2 := hid hb
    clear hb
    by_cases hlt : k < 64
    · have i1 : (k : Int) < 64 := by omega
      have LK := P2.out.loadK k hlt
      have AT : Hid (atS p a q k = ((p.s k).st != 0 && (p.s k).ad == a && (p.s k).po == q)) := hid rfl
      unfold spV at LK
      generalize p.s k = s at *
      obtain ⟨st, ad, po, we, si⟩ := s
      simp only at LK AT
      have h6 : (st != 0) = false ∨ (st != 0) = true ∧ (ad == a) = false ∨ (st != 0) = true ∧ (ad == a) = true ∧ (po == q) = false ∨ (st != 0) = true ∧ (ad == a) = true ∧ (po == q) = true := by cases (st != 0) <;> cases (ad == a) <;> cases (po == q) <;> simp
      rcases h6 with h6 | ⟨h6, h7⟩ | ⟨h6, h7, h8⟩ | ⟨h6, h7, h8⟩
      · have AF : Hid (atS p a q k = false) := hid (by rw [AT.out]; simp [h6])
        clear AT
        go_wp2_with (refine wl_load rfl rfl rfl LK ?_)
        go_roundw
        case rel => exact ⟨k + 1, by omega, by go_num, fun j hj => (by rcases Nat.lt_or_ge j k with h | h; exact hno.out j h; (rw [show j = k by omega]; exact AF.out)), by repeat' (first | with_reducible exact HB2.out | with_reducible refine Below.drew ?_ | with_reducible refine Below.alloc ?_ HB2.out.size _ | with_reducible refine Below.setCell ?_ HB2.out.size _)⟩
        case measure => simp [intOf]; omega
      · have AF : Hid (atS p a q k = false) := hid (by rw [AT.out]; simp [h6, h7])
        clear AT
        go_wp2_with (refine wl_load rfl rfl rfl LK ?_)
        go_roundw
        case rel => exact ⟨k + 1, by omega, by go_num, fun j hj => (by rcases Nat.lt_or_ge j k with h | h; exact hno.out j h; (rw [show j = k by omega]; exact AF.out)), by repeat' (first | with_reducible exact HB2.out | with_reducible refine Below.drew ?_ | with_reducible refine Below.alloc ?_ HB2.out.size _ | with_reducible refine Below.setCell ?_ HB2.out.size _)⟩
        case measure => simp [intOf]; omega
      · have AF : Hid (atS p a q k = false) := hid (by rw [AT.out]; simp [h6, h7, h8])
        clear AT
        go_wp2_with (refine wl_load rfl rfl rfl LK ?_)
        go_roundw
        case rel => exact ⟨k + 1, by omega, by go_num, fun j hj => (by rcases Nat.lt_or_ge j k with h | h; exact hno.out j h; (rw [show j = k by omega]; exact AF.out)), by repeat' (first | with_reducible exact HB2.out | with_reducible refine Below.drew ?_ | with_reducible refine Below.alloc ?_ HB2.out.size _ | with_reducible refine Below.setCell ?_ HB2.out.size _)⟩
        case measure => simp [intOf]; omega
      · have AF : Hid (atS p a q k = true) := hid (by rw [AT.out, h6, h7, h8]; rfl)
        clear AT
        go_wp2_with (refine wl_load rfl rfl rfl LK ?_)
        go_ret
        exact ⟨by rw [any_yes k hlt AF.out, Bool.or_true]; rfl, by rw [HK.out]; refine HB.out.trans (Below.mono ?_ (by have := HB.out.size; rw [HK.out] at this; exact this)); repeat' (first | with_reducible exact HB2.out | with_reducible refine Below.drew ?_ | with_reducible refine Below.alloc ?_ HB2.out.size _ | with_reducible refine Below.setCell ?_ HB2.out.size _)⟩
    · have e : k = 64 := by omega
      subst e
      have c1 := P2.out.c1
      have c2 := P2.out.c2
      have HN := hid (any_no hno.out)
      cases h4 : (p.a == a) <;> cases h5 : (p.p == q)
      all_goals
        go_wp2_with fail
        go_ret
        exact ⟨by rw [HN.out, h4, h5]; rfl, by rw [HK.out]; exact HB.out.trans (HB2.out.mono (by have := HB.out.size; rw [HK.out] at this; exact this))⟩
end Go.Proofs.YteefhiniamajkaaGreat
namespace Go.Proofs.YteefhiniamajkaaGreat
set_option linter.unusedVariables false
set_option linter.unusedSimpArgs false
open Go.RowKit Go.ChangeShapes Go.WideShapes Go.ChangeAt

def fdV (o : Option Nat) : Value := .tuple #[.int .i64 (o.getD 0 : Nat), .bool o.isSome]
/-- States are states. -/
def StI (p : Pl) : Prop := ∀ i, i < 64 → 0 ≤ (p.s i).st ∧ (p.s i).st ≤ 4
theorem takes_04 {s : Int} (h : 0 ≤ s ∧ s ≤ 4) : takesB s = (s != 0 && s != 4) := by
  unfold takesB
  have : s = 0 ∨ s = 1 ∨ s = 2 ∨ s = 3 ∨ s = 4 := by omega
  rcases this with rfl | rfl | rfl | rfl | rfl <;> rfl
end Go.Proofs.YteefhiniamajkaaGreat
namespace Go.Proofs.YteefhiniamajkaaGreat
set_option linter.unusedVariables false
set_option linter.unusedSimpArgs false
open Go.RowKit Go.ChangeShapes Go.WideShapes Go.ChangeAt

end Go.Proofs.YteefhiniamajkaaGreat
