/- Find. -/
import Derived.Test.YtljgcffpijjliaaDoorPolWl
import Derived.BigQuiet
import Derived.Deep.RegionHeld3
import Derived.Deep.Cut
namespace Go.Proofs.YtljgcffpijjliaaDoor
set_option linter.unusedVariables false
set_option linter.unusedSimpArgs false
open Go.RowKit Go.ChangeShapes Go.WideShapes Go.ChangeAt

def fdV (o : Option Nat) : Value := .tuple #[.int .i64 (o.getD 0 : Nat), .bool o.isSome]
/-- States are states. -/
def StI (p : Pl) : Prop := ∀ i, i < 64 → 0 ≤ (p.s i).st ∧ (p.s i).st ≤ 4
theorem takes_04 {s : Int} (h : 0 ≤ s ∧ s ≤ 4) : takesB s = (s != 0 && s != 4) := by
  unfold takesB
  have : s = 0 ∨ s = 1 ∨ s = 2 ∨ s = 3 ∨ s = 4 := by omega
  rcases this with rfl | rfl | rfl | rfl | rfl <;> rfl
set_option maxRecDepth 100000 in
set_option maxHeartbeats 4000000 in
theorem find_any (p : Pl) (hS : StI p) (a q : Int) (w : World) : Calls Tryd.prog 41 #[plV p, .int .i64 a, .int .i64 q] w fun x w' => x = .returned (fdV (findO p a q)) ∧ Below w.heap.size w w' := by
  obtain ⟨f, hf⟩ : ∃ f, f = findO p a q := ⟨_, rfl⟩
  have HF := hid hf
  rw [← hf]
  clear hf
  unfold plV fdV
  go_enter Tryd.func41, Tryd.ntmps41
  go_upto_region 1 with (fail)
  have P1 := hid (PoolAt.made (w := w) (p := p) (T := 33) rfl)
  have HB := hid ((Below.refl w.heap.size w).alloc (Nat.le_refl _) (.cells (PA p) 33))
  generalize w.alloc (.cells (PA p) 33) = w1 at *
  generalize hK : w.heap.size = P at *
  have HK := hid hK
  clear hK
  have LS := P1.out.loadS
  go_wp2_with (refine wl_load rfl rfl rfl LS ?_)
  go_loopw [12] (fun i wr => ∃ k : Nat, k ≤ 64 ∧ i = .int .i64 (k : Int) ∧ (∀ j, j < k → tkS p a q j = false) ∧ Below w1.heap.size w1 wr) (fun i _ => 64 - (intOf i).toNat)
  case atStart => exact ⟨0, by omega, rfl, fun j hj => absurd hj (by omega), Below.refl _ _⟩
  case round =>
    obtain ⟨k, hk, rfl, hno, hb⟩ := hrel
    replace hno := hid hno
    clear LS
    have HB2 := hid hb
    clear hb
    by_cases hlt : k < 64
    · have i1 : (k : Int) < 64 := by omega
      have IX := index_sl p.s k hlt wr
      have AT : Hid (tkS p a q k = (takesB (p.s k).st && (p.s k).ad == a && (p.s k).po == q)) := hid rfl
      have hst := hS k hlt
      unfold spV at IX
      generalize p.s k = s at *
      obtain ⟨st, ad, po, we, si⟩ := s
      simp only at IX AT hst
      have HT := hid (takes_04 hst)
      clear hst
      replace AT := hid (by rw [AT.out, HT.out] : tkS p a q k = ((st != 0 && st != 4) && ad == a && po == q))
      clear HT
      go_upto_region 4 with (refine wl_index rfl rfl rfl rfl IX ?_)
      clear IX
      have h6 : (st != 0) = false ∨ (st != 0) = true ∧ (st != 4) = false ∨ (st != 0) = true ∧ (st != 4) = true ∧ (ad == a) = false ∨ (st != 0) = true ∧ (st != 4) = true ∧ (ad == a) = true ∧ (po == q) = false ∨ (st != 0) = true ∧ (st != 4) = true ∧ (ad == a) = true ∧ (po == q) = true := by cases (st != 0) <;> cases (st != 4) <;> cases (ad == a) <;> cases (po == q) <;> simp
      rcases h6 with h6 | ⟨h6, h7⟩ | ⟨h6, h7, h8⟩ | ⟨h6, h7, h8, h9⟩ | ⟨h6, h7, h8, h9⟩
      · have AF : Hid (tkS p a q k = false) := hid (by rw [AT.out]; simp [h6])
        clear AT
        go_wp2_with fail
        go_roundw
        case rel => exact ⟨k + 1, by omega, by go_num, fun j hj => (by rcases Nat.lt_or_ge j k with h | h; exact hno.out j h; (rw [show j = k by omega]; exact AF.out)), by repeat' (first | with_reducible exact HB2.out | with_reducible refine Below.drew ?_ | with_reducible refine Below.alloc ?_ HB2.out.size _ | with_reducible refine Below.setCell ?_ HB2.out.size _)⟩
        case measure => simp [intOf]; omega
      · have AF : Hid (tkS p a q k = false) := hid (by rw [AT.out]; simp [h6, h7])
        clear AT
        go_wp2_with fail
        go_roundw
        case rel => exact ⟨k + 1, by omega, by go_num, fun j hj => (by rcases Nat.lt_or_ge j k with h | h; exact hno.out j h; (rw [show j = k by omega]; exact AF.out)), by repeat' (first | with_reducible exact HB2.out | with_reducible refine Below.drew ?_ | with_reducible refine Below.alloc ?_ HB2.out.size _ | with_reducible refine Below.setCell ?_ HB2.out.size _)⟩
        case measure => simp [intOf]; omega
      · have AF : Hid (tkS p a q k = false) := hid (by rw [AT.out]; simp [h6, h7, h8])
        clear AT
        go_wp2_with fail
        go_roundw
        case rel => exact ⟨k + 1, by omega, by go_num, fun j hj => (by rcases Nat.lt_or_ge j k with h | h; exact hno.out j h; (rw [show j = k by omega]; exact AF.out)), by repeat' (first | with_reducible exact HB2.out | with_reducible refine Below.drew ?_ | with_reducible refine Below.alloc ?_ HB2.out.size _ | with_reducible refine Below.setCell ?_ HB2.out.size _)⟩
        case measure => simp [intOf]; omega
      · have AF : Hid (tkS p a q k = false) := hid (by rw [AT.out]; simp [h6, h7, h8, h9])
        clear AT
        go_wp2_with fail
        go_roundw
        case rel => exact ⟨k + 1, by omega, by go_num, fun j hj => (by rcases Nat.lt_or_ge j k with h | h; exact hno.out j h; (rw [show j = k by omega]; exact AF.out)), by repeat' (first | with_reducible exact HB2.out | with_reducible refine Below.drew ?_ | with_reducible refine Below.alloc ?_ HB2.out.size _ | with_reducible refine Below.setCell ?_ HB2.out.size _)⟩
        case measure => simp [intOf]; omega
      · have AF : Hid (tkS p a q k = true) := hid (by rw [AT.out]; simp [h6, h7, h8, h9])
        clear AT
        have HO : Hid (f = some k) := hid (by rw [HF.out]; exact find_yes k hlt hno.out AF.out)
        go_wp2_with fail
        go_ret2
        exact ⟨by rw [HO.out]; rfl, by rw [HK.out]; refine HB.out.trans (Below.mono ?_ (by have := HB.out.size; rw [HK.out] at this; exact this)); repeat' (first | with_reducible exact HB2.out | with_reducible refine Below.drew ?_ | with_reducible refine Below.alloc ?_ HB2.out.size _ | with_reducible refine Below.setCell ?_ HB2.out.size _)⟩
    · have e : k = 64 := by omega
      subst e
      have HO : Hid (f = none) := hid (by rw [HF.out]; exact find_no hno.out)
      go_wp2_with fail
      go_ret2
      exact ⟨by rw [HO.out]; rfl, by rw [HK.out]; exact HB.out.trans (HB2.out.mono (by have := HB.out.size; rw [HK.out] at this; exact this))⟩
end Go.Proofs.YtljgcffpijjliaaDoor
