/- Sums that are turned. -/
import Derived.Test.YtjljaecjnpmdoaaWirParse
import Derived.BigQuiet
import Derived.Deep.RegionHeld3
import Derived.Deep.Cut
namespace Go.Proofs.Ytjljaecjnpmdoaa
set_option linter.unusedVariables false
set_option linter.unusedSimpArgs false
open Go.RowKit Go.ChangeShapes Go.WideShapes Go.ChangeAt

theorem grown_drew {w w' : World} {r : Option Nat} (h : w.drew.grownBy w' r) : w.grownBy w' r := ⟨h.os, h.tape, h.output, h.size, h.block⟩
theorem cut_put {G n c : Nat} (a m : Nat) (h : a + m ≤ n) (hc : n ≤ c) (hm : 0 < m) (x y z : Int) (hx : x = a) (hy : y = (a : Int) + m) (hz : z = (a : Int) + m) (W : World) :
    (Instr.slice 23 (.slice (some ⟨G, 0, none⟩) n c) (some (.int .i64 x)) (some (.int .i64 y)) (some (.int .i64 z))).run Try.prog W = .ok (.slice (some ⟨G, a, none⟩) m m) W := by
  subst hx
  subst hy
  subst hz
  rw [run_slice_lhm W 23 _ n c elem_b .i64 .i64 .i64 _ _ _ (by omega) (by omega) (by omega) (by omega), size_b W]
  have e1 : ((a : Int) + m).toNat = a + m := by omega
  simp only [Result.andThen, sliced, Int.toNat_natCast, e1, Option.map_some, Addr.add, Nat.mul_one, Nat.zero_add]
  rw [if_neg (by omega), Nat.add_sub_cancel_left]
  by_cases h0 : a = 0
  · rw [if_pos h0, h0]
  · rw [if_neg h0]
theorem num2_bd {g : Nat → Int} (hg : IsB g) (a : Nat) : 0 ≤ num g a 2 ∧ num g a 2 ≤ 65535 := by
  have h := num_bd hg a 2
  have h2 : (256 : Int) ^ 2 = 65536 := by decide
  omega
set_option maxHeartbeats 4000000 in
theorem wturn_any {w : World} {B G n c : Nat} {g : Nat → Int} (O : OB w B (.slice (some ⟨G, 0, none⟩) n c) n g) (hg : IsB g) (a : Nat) (h : a + 2 ≤ n) (hc : n ≤ c) (hn : n ≤ 1000000) (x y : Int) (hx0 : 0 ≤ x) (hx : x ≤ 65535) (hy0 : 0 ≤ y) (hy : y ≤ 65535) :
    Calls Try.prog 60 #[.slice (some ⟨G, 0, none⟩) n c, .int .i64 a, .int .i64 x, .int .i64 y] w fun e w' => e = .returned (.tuple #[]) ∧ OB w' B (.slice (some ⟨G, 0, none⟩) n c) n (putF g a 2 (turn (num g a 2) x y)) ∧ w.grownBy w' (some G) := by
  have q2 : IntKind.i64.wrap ((a : Int) + 2) = (a : Int) + 2 := IntWalk.i64_in _ (by omega)
  have CP := fun W => cut_put (G := G) (n := n) (c := c) a 2 h hc (by omega) a (a + 2) (a + 2) rfl rfl rfl W
  have nb := num2_bd hg a
  have HT := hid (fun w => turn_any (num g a 2) x y w nb.1 nb.2 hx0 hx hy0 hy)
  have HP := hid (fun (w' : World) (o : OB w' B (.slice (some ⟨G, 0, none⟩) n c) n g) => re_i64 (pair_any_ (some ⟨G, 0, none⟩) n c g w' o.sl1 hg a (by omega) hc hn) (show pairF g n a = num g a 2 from by unfold pairF; rw [if_neg (by omega)]))
  have HO := hid O
  clear O nb
  go_enter Try.func60, Try.ntmps60
  go_wp2_with fail
  refine wp_region_held_drew (S := fun _ => True) (by kernel_rfl) trivial (fun hHeld => ?_)
  refine tk 0 (v := ?_) rfl (by kernel_rfl) (by kernel_rfl) (by kernel_rfl) (fun _ _ _ h => h) rfl ?_ (by assumption) ?_; rotate_left; (focus (intro w hSw; (try dsimp only at hSw); go_simp; (try with_reducible rfl))); (try simp only [Act.put, List.setIfInBounds_toArray, List.set_cons_zero, List.set_cons_succ])
  refine tk 1 (v := ?_) rfl (by kernel_rfl) (by kernel_rfl) (by kernel_rfl) (fun _ _ _ h => h) rfl ?_ (by assumption) ?_; rotate_left; (focus (intro w hSw; (try dsimp only at hSw); go_simp; (try with_reducible rfl))); (try simp only [Act.put, List.setIfInBounds_toArray, List.set_cons_zero, List.set_cons_succ])
  refine tk 2 (v := ?_) rfl (by kernel_rfl) (by kernel_rfl) (by kernel_rfl) (fun _ _ _ h => h) rfl ?_ (by assumption) ?_; rotate_left; (focus (intro w hSw; (try dsimp only at hSw); go_simp; (try with_reducible rfl))); (try simp only [Act.put, List.setIfInBounds_toArray, List.set_cons_zero, List.set_cons_succ])
  refine tk 3 (v := ?_) rfl (by kernel_rfl) (by kernel_rfl) (by kernel_rfl) (fun _ _ _ h => h) rfl ?_ (by assumption) ?_; rotate_left; (focus (intro w hSw; (try dsimp only at hSw); go_simp; (try with_reducible rfl))); (try simp only [Act.put, List.setIfInBounds_toArray, List.set_cons_zero, List.set_cons_succ])
  refine tk 4 (v := ?_) rfl (by kernel_rfl) (by kernel_rfl) (by kernel_rfl) (fun _ _ _ h => h) rfl ?_ (by assumption) ?_; rotate_left; (focus (intro w hSw; (try dsimp only at hSw); go_simp; (try with_reducible rfl))); (try simp only [Act.put, List.setIfInBounds_toArray, List.set_cons_zero, List.set_cons_succ])
  refine tk 5 (v := ?_) rfl (by kernel_rfl) (by kernel_rfl) (by kernel_rfl) (fun _ _ _ h => h) rfl ?_ (by assumption) ?_; rotate_left; (focus (intro w hSw; (try dsimp only at hSw); go_simp; (try with_reducible rfl))); (try simp only [Act.put, List.setIfInBounds_toArray, List.set_cons_zero, List.set_cons_succ])
  refine tk 6 (v := ?_) rfl (by kernel_rfl) (by kernel_rfl) (by kernel_rfl) (fun _ _ _ h => h) rfl ?_ (by assumption) ?_; rotate_left; (focus (intro w hSw; (try dsimp only at hSw); go_simp; (try with_reducible rfl))); (try simp only [Act.put, List.setIfInBounds_toArray, List.set_cons_zero, List.set_cons_succ])
  refine tk 7 (v := ?_) rfl (by kernel_rfl) (by kernel_rfl) (by kernel_rfl) (fun _ _ _ h => h) rfl ?_ (by assumption) ?_; rotate_left; (focus (intro w hSw; (try dsimp only at hSw); go_simp; (try with_reducible rfl))); (try simp only [Act.put, List.setIfInBounds_toArray, List.set_cons_zero, List.set_cons_succ])
  refine tk 8 (v := ?_) rfl (by kernel_rfl) (by kernel_rfl) (by kernel_rfl) (fun _ _ _ h => h) rfl ?_ (by assumption) ?_; rotate_left; (focus (intro w hSw; (try dsimp only at hSw); go_simp; (try with_reducible rfl))); (try simp only [Act.put, List.setIfInBounds_toArray, List.set_cons_zero, List.set_cons_succ])
  refine tk 10 (v := ?_) rfl (by kernel_rfl) (by kernel_rfl) (by kernel_rfl) (fun _ _ _ h => h) rfl ?_ (by assumption) ?_; rotate_left; (focus (intro w hSw; (try dsimp only at hSw); go_simp; (try with_reducible rfl))); (try simp only [Act.put, List.setIfInBounds_toArray, List.set_cons_zero, List.set_cons_succ])
  refine tk 11 (v := ?_) rfl (by kernel_rfl) (by kernel_rfl) (by kernel_rfl) (fun _ _ _ h => h) rfl ?_ (by assumption) ?_; rotate_left; (focus (intro w hSw; (try dsimp only at hSw); go_simp; (try with_reducible rfl))); (try simp only [Act.put, List.setIfInBounds_toArray, List.set_cons_zero, List.set_cons_succ])
  refine only 9 rfl (by kernel_rfl) rfl (fun K hK => ?_)
  go_simp
  refine (HP.out _ (Ow.drew HO.out)).mono ?_
  rintro e' w' ⟨rfl, rfl⟩
  try go_wp2_with fail
  refine hK.out _ _ trivial (fun _ => ?_)
  clear hK
  try simp only [Act.put, List.setIfInBounds_toArray, List.set_cons_zero, List.set_cons_succ]
  refine only 12 rfl (by kernel_rfl) rfl (fun K hK => ?_)
  go_simp
  refine (HT.out _).mono ?_
  rintro e' w' ⟨rfl, rfl⟩
  try go_wp2_with fail
  refine hK.out _ _ trivial (fun _ => ?_)
  clear hK
  try simp only [Act.put, List.setIfInBounds_toArray, List.set_cons_zero, List.set_cons_succ]
  refine only 13 rfl (by kernel_rfl) rfl (fun K hK => ?_)
  go_simp
  refine (put_any (Ow.drew HO.out) a 2 2 (turn (num g a 2) x y) h (by omega)).mono ?_
  rintro e' w' ⟨rfl, ho, hw⟩
  try go_wp2_with fail
  refine hK.out _ _ trivial (fun _ => ?_)
  clear hK
  try simp only [Act.put, List.setIfInBounds_toArray, List.set_cons_zero, List.set_cons_succ]
  refine wpAnyH_done (by kernel_rfl) ?_ _
  go_wp2_with fail
  go_end0
  exact ⟨rfl, ho, grown_drew hw⟩
/-- A gram's sum that came out as 0. -/
def fillF (g : Nat → Int) : Nat → Int := if bareF g = true then putF g 22 2 65535 else g
theorem fillF_B {g : Nat → Int} (hg : IsB g) : IsB (fillF g) := by unfold fillF; split; exact putF_B hg _ _ _; exact hg
set_option maxHeartbeats 4000000 in
theorem fill_any {w : World} {B G n c : Nat} {g : Nat → Int} (O : OB w B (.slice (some ⟨G, 0, none⟩) n c) n g) (hg : IsB g) (h0 : 0 < n) (hk : g 0 = 3 ∨ 24 ≤ n) (hc : n ≤ c) (hn : n ≤ 1000000) :
    Calls Try.prog 40 #[.slice (some ⟨G, 0, none⟩) n c] w fun e w' => e = .returned (.tuple #[]) ∧ OB w' B (.slice (some ⟨G, 0, none⟩) n c) n (fillF g) ∧ w.grownBy w' (some G) := by
  have HB := hid (isbare_any (some ⟨G, 0, none⟩) n c g w O.sl1 hg h0 hk hc hn)
  have HO := hid O
  have h24 : bareF g = true → 24 ≤ n := by
    intro hb
    rcases hk with h3 | h3
    · unfold bareF at hb; rw [h3] at hb; cases hb
    · exact h3
  unfold fillF
  cases hb : bareF g
  · rw [hb] at HB
    clear h24 O hk
    rw [if_neg (by decide)]
    go_enter Try.func40, Try.ntmps40
    go_wp2_with fail
    refine HB.out.mono ?_
    rintro x w' ⟨rfl, rfl⟩
    go_wp2_with fail
    go_end0
    exact ⟨rfl, HO.out, World.grownBy.refl _ _⟩
  · rw [hb] at HB
    have h24 := h24 hb
    have CP := fun W => cut_put (G := G) (n := n) (c := c) 22 2 (by omega) hc (by omega) 22 24 24 rfl rfl rfl W
    have i24 : (24 : Int) ≤ c := by omega
    clear O hk
    rw [if_pos rfl]
    go_enter Try.func40, Try.ntmps40
    go_wp2_with fail
    refine HB.out.mono ?_
    rintro x w' ⟨rfl, rfl⟩
    go_wp2_with fail
    refine (put_any HO.out 22 2 2 65535 (by omega) (by omega)).mono ?_
    rintro x w' ⟨rfl, ho, hw⟩
    go_wp2_with fail
    go_end0
    exact ⟨rfl, ho, hw⟩
/-- The reference's: was tells that it was bare ahead. -/
theorem rend_any {w : World} {B G n c : Nat} {g : Nat → Int} (O : OB w B (.slice (some ⟨G, 0, none⟩) n c) n g) (hg : IsB g) (h0 : 0 < n) (hk : g 0 = 3 ∨ 24 ≤ n) (hc : n ≤ c) (hn : n ≤ 1000000) (was : Bool) :
    Calls Try.prog 58 #[.slice (some ⟨G, 0, none⟩) n c, .bool was] w fun e w' => e = .returned (.tuple #[]) ∧ OB w' B (.slice (some ⟨G, 0, none⟩) n c) n (if was = true then g else fillF g) ∧ w.grownBy w' (some G) := by
  have HO := hid O
  have HN := hid (fun h24 : 24 ≤ n => rnum_any (some ⟨G, 0, none⟩) n c g w O.sl1 hg 22 2 (by omega) (by omega) hn)
  obtain ⟨g', e, hB, hgs, hce, hfr⟩ := Ow.block_ O (by omega)
  injection e with e
  injection e with e _
  subst e
  have c0 := hce 0 (by omega)
  have i0 : (0 : Int) < n := by omega
  clear hce hfr O
  cases h2 : (g 0 == 2)
  · have hf : fillF g = g := by unfold fillF bareF; rw [h2]; rfl
    have hi : (if was = true then g else fillF g) = g := by rw [hf, ite_self]
    rw [hi]
    clear hi hf hk HN
    go_enter Try.func58, Try.ntmps58
    go_wp2_with fail
    go_end0
    exact ⟨rfl, HO.out, World.grownBy.refl _ _⟩
  · have h24 : 24 ≤ n := by
      rcases hk with h3 | h3
      · rw [h3] at h2; cases h2
      · exact h3
    have HN2 := hid (HN.out h24)
    clear HN hk
    cases was
    · rw [if_neg (by decide)]
      obtain ⟨z, hz⟩ : ∃ z, z = num g 22 2 := ⟨_, rfl⟩
      rw [← hz] at HN2
      cases hb : (z == 0)
      · have hf : fillF g = g := by unfold fillF bareF; rw [h2, ← hz, hb]; rfl
        rw [hf]
        clear hf hz h24
        go_enter Try.func58, Try.ntmps58
        go_wp2_with fail
        refine HN2.out.mono ?_
        rintro x w' ⟨rfl, rfl⟩
        go_wp2_with fail
        go_end0
        exact ⟨rfl, HO.out, World.grownBy.refl _ _⟩
      · have hf : fillF g = putF g 22 2 65535 := by unfold fillF bareF; rw [h2, ← hz, hb]; rfl
        rw [hf]
        have PU := hid (rput_any HO.out 22 2 65535 (by omega) (by omega) hn)
        clear hf hz h24
        go_enter Try.func58, Try.ntmps58
        go_wp2_with fail
        refine HN2.out.mono ?_
        rintro x w' ⟨rfl, rfl⟩
        go_wp2_with fail
        refine PU.out.mono ?_
        rintro x w' ⟨rfl, ho, hw⟩
        go_wp2_with fail
        go_end0
        exact ⟨rfl, ho, hw⟩
    · rw [if_pos rfl]
      clear h24
      go_enter Try.func58, Try.ntmps58
      go_wp2_with fail
      go_end0
      exact ⟨rfl, HO.out, World.grownBy.refl _ _⟩
end Go.Proofs.Ytjljaecjnpmdoaa
