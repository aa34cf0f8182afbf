/- put. -/
import Derived.Test.YtjljaecjnpmdoaaWirMath
import Derived.BigQuiet
import Derived.Deep.RegionHeld3
import Derived.Deep.Cut
namespace Go.Proofs.Ytjljaecjnpmdoaa
set_option linter.unusedVariables false
set_option linter.unusedSimpArgs false
open Go.RowKit Go.ChangeShapes Go.WideShapes Go.ChangeAt

theorem grown_set (w : World) (p : Addr) (v : Value) : w.grownBy (w.setCell p v) (some p.block) :=
  ⟨rfl, rfl, rfl, by simp, fun k hk hne => by
    have : p.block ≠ k := fun e => hne (by rw [e])
    simp [World.setCell, Array.getElem?_modify, this]⟩
theorem gs {w a : World} {p : Nat} (j : Nat) (v : Value) (h : w.grownBy a (some p)) : w.grownBy (a.setCell ⟨p, j, none⟩ v) (some p) := h.trans (grown_set a ⟨p, j, none⟩ v)
set_option maxHeartbeats 4000000 in
theorem put_any {w : World} {B G n c : Nat} {g : Nat → Int} (O : OB w B (.slice (some ⟨G, 0, none⟩) n c) n g) (off m c' : Nat) (v : Int) (h : off + m ≤ n) (h4 : m ≤ 8) :
    Calls Try.prog 35 #[.slice (some ⟨G, off, none⟩) m c', .int .i64 v] w fun e w' => e = .returned (.tuple #[]) ∧ OB w' B (.slice (some ⟨G, 0, none⟩) n c) n (putF g off m v) ∧ w.grownBy w' (some G) := by
  go_enter Try.func35, Try.ntmps35
  go_wp2_with fail
  go_loopw [1, 4] (fun x i wr => ∃ r : Nat, r ≤ m ∧ i = .int .i64 ((r : Int) - 1) ∧ x = .int .i64 (v / 256 ^ (m - r)) ∧ OB wr B (.slice (some ⟨G, 0, none⟩) n c) n (putR g off m r v) ∧ w.grownBy wr (some G)) (fun _ i _ => (intOf i + 1).toNat)
  case atStart => exact ⟨m, Nat.le_refl _, rfl, by simp, by rw [putR_m]; exact O, World.grownBy.refl _ _⟩
  case round =>
    obtain ⟨r, hr, rfl, rfl, ho, hg⟩ := hrel
    by_cases h0 : 0 < r
    · obtain ⟨q, rfl⟩ : ∃ q, r = q + 1 := ⟨r - 1, by omega⟩
      obtain ⟨g', e, hB, hgs, hce, hfr⟩ := Ow.block_ ho (by omega)
      injection e with e
      injection e with e _
      subst e
      have e0 : (((q + 1 : Nat) : Int) - 1) = (q : Int) := by omega
      rw [e0]
      have c1 := hce (off + q) (by omega)
      have f1 := hfr (off + q)
      have i0 : (0 : Int) ≤ q := by omega
      have i1 : (q : Int) < m := by omega
      have HO := hid ho
      have HG := hid hg
      clear hce hfr ho hg O e0
      go_wp2_with fail
      go_roundw
      case rel =>
        refine ⟨q, by omega, rfl, by rw [div_step v m q (by omega)], ?_, gs _ _ HG.out⟩
        have := OB.store HO.out (off + q) (by8 v (m - 1 - q))
        rw [putR_step g off m q v (by omega)] at this
        rw [show v / 256 ^ (m - (q + 1)) % 256 = by8 v (m - 1 - q) from by unfold by8; rw [show m - (q + 1) = m - 1 - q from by omega]]
        exact this
      case measure => simp [intOf]
    · obtain rfl : r = 0 := by omega
      rw [show (((0 : Nat) : Int) - 1) = -1 from rfl]
      have HO := hid ho
      have HG := hid hg
      clear ho hg O
      go_wp2_with fail
      go_end0
      exact ⟨rfl, HO.out, HG.out⟩
set_option maxHeartbeats 4000000 in
theorem rput_any {w : World} {B G n c : Nat} {g : Nat → Int} (O : OB w B (.slice (some ⟨G, 0, none⟩) n c) n g) (off m : Nat) (v : Int) (h : off + m ≤ n) (h4 : m ≤ 8) (hn : n ≤ 1000000) :
    Calls Try.prog 42 #[.slice (some ⟨G, 0, none⟩) n c, .int .i64 off, .int .i64 m, .int .i64 v] w fun e w' => e = .returned (.tuple #[]) ∧ OB w' B (.slice (some ⟨G, 0, none⟩) n c) n (putF g off m v) ∧ w.grownBy w' (some G) := by
  go_enter Try.func42, Try.ntmps42
  go_wp2_with fail
  go_loopw [3, 8] (fun x i wr => ∃ r : Nat, r ≤ m ∧ i = .int .i64 ((r : Int) - 1) ∧ x = .int .i64 (v / 256 ^ (m - r)) ∧ OB wr B (.slice (some ⟨G, 0, none⟩) n c) n (putR g off m r v) ∧ w.grownBy wr (some G)) (fun _ i _ => (intOf i + 1).toNat)
  case atStart => exact ⟨m, Nat.le_refl _, rfl, by simp, by rw [putR_m]; exact O, World.grownBy.refl _ _⟩
  case round =>
    obtain ⟨r, hr, rfl, rfl, ho, hg⟩ := hrel
    by_cases h0 : 0 < r
    · obtain ⟨q, rfl⟩ : ∃ q, r = q + 1 := ⟨r - 1, by omega⟩
      obtain ⟨g', e, hB, hgs, hce, hfr⟩ := Ow.block_ ho (by omega)
      injection e with e
      injection e with e _
      subst e
      have e0 : (((q + 1 : Nat) : Int) - 1) = (q : Int) := by omega
      rw [e0]
      have c1 := hce (off + q) (by omega)
      have f1 := hfr (off + q)
      have i0 : (0 : Int) ≤ q := by omega
      have i1 : (q : Int) < m := by omega
      have i2 : (0 : Int) ≤ (off : Int) + q := by omega
      have i3 : (off : Int) + q < n := by omega
      have i4 : IntKind.i64.wrap ((off : Int) + q) = (off : Int) + q := IntWalk.i64_in _ (by omega)
      have HO := hid ho
      have HG := hid hg
      clear hce hfr ho hg O e0
      go_wp2_with fail
      go_roundw
      case rel =>
        refine ⟨q, by omega, rfl, by rw [div_step v m q (by omega)], ?_, gs _ _ HG.out⟩
        have := OB.store HO.out (off + q) (by8 v (m - 1 - q))
        rw [putR_step g off m q v (by omega)] at this
        rw [show v / 256 ^ (m - (q + 1)) % 256 = by8 v (m - 1 - q) from by unfold by8; rw [show m - (q + 1) = m - 1 - q from by omega]]
        first
          | exact this
          | (rw [show ((off : Int) + q).toNat = off + q from by omega]; exact this)
      case measure => simp [intOf]
    · obtain rfl : r = 0 := by omega
      rw [show (((0 : Nat) : Int) - 1) = -1 from rfl]
      have HO := hid ho
      have HG := hid hg
      clear ho hg O
      go_wp2_with fail
      go_end0
      exact ⟨rfl, HO.out, HG.out⟩
end Go.Proofs.Ytjljaecjnpmdoaa
