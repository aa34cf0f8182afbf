/- The laws' helpers as and same. -/
import Derived.Test.YtdbfpoplhmonhaaOptRst
import Derived.RegionTactic
namespace Go.Proofs.Ytdbfpoplhmonhaa
set_option linter.unusedVariables false
set_option linter.unusedSimpArgs false
open Go.RowKit Go.ChangeShapes Go.WideShapes Go.ChangeAt

theorem SlO.below {w w' : World} {A : Option Addr} {l : List (Int × Int × Int)} {B : Nat} (h : SlO w A l) (hb : Below B w w') (hB : w.heap.size ≤ B) : SlO w' A l := Sl.below h hb hB
theorem SlO.drewN {w : World} {A : Option Addr} {l : List (Int × Int × Int)} (h : SlO w A l) (k : Nat) : SlO (w.drewN k) A l := h
theorem OwO.sl {E : TypeId} {w : World} {B m c : Nat} {A : Option Addr} {l : List (Int × Int × Int)} (h : OwO E w B (.slice A m c) l) (hm : m = l.length) : SlO w A l := by
  subst hm
  exact Ow.sl h

def AsAt (w : World) (m : Nat) (l : List (Int × Int × Int)) (v i : Value) (wr : World) : Prop :=
  ∃ (k : Nat) (L : Option Addr) (d : Nat), k ≤ m ∧ v = .slice L k d ∧ i = .int .i64 (k : Int) ∧ Below w.heap.size w wr ∧ OwO 57 wr w.heap.size (.slice L k d) (l.take k)

set_option maxHeartbeats 2000000 in
theorem as_any {A : Option Addr} {c m : Nat} {l : List (Int × Int × Int)} {w : World} (h : SlO w A l) (hm : m = l.length) (hl : m ≤ 1000000) :
    Calls Try.prog 21 #[.slice A m c] w fun e w' => ∃ (A' : Option Addr) (c' : Nat), e = .returned (.slice A' m c') ∧ OwO 57 w' w.heap.size (.slice A' m c') l ∧ Below w.heap.size w w' := by
  have HM := hid hm
  clear hm
  go_enter Try.func21, Try.ntmps21
  go_wp2
  go_loopw [3, 4] (fun v i wr => AsAt w m l v i wr) (fun _ i _ => m - (intOf i).toNat)
  case atStart => exact ⟨0, none, 0, Nat.zero_le _, rfl, rfl, Below.refl _ _, by rw [List.take_zero]; exact Ow.none_⟩
  case round =>
    obtain ⟨k, L, d, hk, rfl, rfl, hb, ho⟩ := hrel
    have HB := hid hb
    have HO := hid ho
    clear hb ho
    by_cases hlt : k < m
    · have hkl : k < l.length := by rw [← HM.out]; exact hlt
      have hC := h.below HB.out (Nat.le_refl _)
      obtain ⟨b, off, rfl, hbw, hcc⟩ := hC (by omega)
      clear hcc
      obtain ⟨c0, c1, c2⟩ := SlO.cells hC hkl
      obtain ⟨x, y, z, hx⟩ : ∃ x y z : Int, l[k] = (x, y, z) := ⟨_, _, _, rfl⟩
      rw [hx] at c0 c1 c2
      simp only at c0 c1 c2
      have hnext : l.take k ++ [(x, y, z)] = l.take (k + 1) := by rw [List.take_succ_eq_append_getElem hkl, hx]
      have htk : k = (l.take k).length := by rw [List.length_take]; omega
      have HN := hid hnext
      have HT := hid htk
      have hz := HB.out.size
      have i1 : (k : Int) < m := by omega
      have i0 : (0 : Int) ≤ k := by omega
      clear hnext hx hC htk
      go_wp2_with (at_builtin; refine wp_app_o rfl (.tmp 11) (.tmp 16) 32 57 rfl Try.underlying32 (.inr rfl) w.heap.size _ (l.take k) k HT.out rfl (Ow.alloc HO.out _) wr.heap.size 1 (x, y, z) rfl (Ce.made (w := wr) (l := [.int .i64 x, .int .i64 y, .int .i64 z]) rfl) (by have := HT.out; omega) (by simp; omega) ?_; intro A' c' w3 hown hbel hgr; have HB4 := hid ((HB.out.alloc HB.out.size _).trans hbel); have HO4 := hid hown; clear hown hbel hgr HB HO)
      go_roundw
      case rel => exact ⟨k + 1, A', c', by omega, rfl, by go_num, HB4.out, by rw [← HN.out]; exact HO4.out⟩
      case measure => simp [intOf]; omega
    · have e : k = m := by omega
      have i1 : ¬ (k : Int) < m := by omega
      have ht : l.take k = l := List.take_of_length_le (by rw [← HM.out]; omega)
      have HT := hid ht
      have HE := hid e
      clear ht e
      go_wp2
      go_ret
      have h1 := HE.out
      subst h1
      exact ⟨L, d, rfl, by have := HO.out; rw [HT.out] at this; exact this, HB.out⟩

theorem take_snoc_eq {la lb : List (Int × Int × Int)} {k : Nat} (ha : k < la.length) (hb : k < lb.length) (h : la.take k = lb.take k) (he : la[k] = lb[k]) : la.take (k + 1) = lb.take (k + 1) := by
  rw [List.take_succ_eq_append_getElem ha, List.take_succ_eq_append_getElem hb, h, he]

set_option maxHeartbeats 2000000 in
theorem same_any {A B : Option Addr} {c d m n : Nat} {la lb : List (Int × Int × Int)} {w : World} (ha : SlO w A la) (hb : SlO w B lb) (hm : m = la.length) (hn : n = lb.length) (hl : m ≤ 1000000) (hl2 : n ≤ 1000000) :
    Calls Try.prog 20 #[.slice A m c, .slice B n d] w fun e w' => e = .returned (.bool (decide (la = lb))) ∧ ∃ q, w' = w.drewN q := by
  have HM := hid hm
  have HN := hid hn
  clear hm hn
  by_cases hmn : m = n
  · subst hmn
    have t0 : ((m : Int) != m) = false := by simp
    go_enter Try.func20, Try.ntmps20
    go_wp2
    go_loopw [5] (fun i wr => ∃ k : Nat, k ≤ m ∧ i = .int .i64 (k : Int) ∧ la.take k = lb.take k ∧ ∃ q, wr = w.drewN q) (fun i _ => m - (intOf i).toNat)
    case atStart => exact ⟨0, Nat.zero_le _, rfl, by simp, 0, rfl⟩
    case round =>
      obtain ⟨k, hk, rfl, hs, q, rfl⟩ := hrel
      have HS := hid hs
      clear hs
      by_cases hlt : k < m
      · have hka : k < la.length := by rw [← HM.out]; exact hlt
        have hkb : k < lb.length := by rw [← HN.out]; exact hlt
        obtain ⟨b, off, rfl, hbw, hcc⟩ := ha (by omega)
        obtain ⟨b', off', rfl, hbw', hcc'⟩ := hb (by omega)
        clear hcc hcc'
        obtain ⟨c0, c1, c2⟩ := SlO.cells ha hka
        obtain ⟨d0, d1, d2⟩ := SlO.cells hb hkb
        have ht := hid (take_snoc_eq hka hkb HS.out)
        have hne := hid (fun (e : la = lb) => (show la[k] = lb[k] by subst e; rfl))
        obtain ⟨x, y, z, hx⟩ : ∃ x y z : Int, la[k] = (x, y, z) := ⟨_, _, _, rfl⟩
        obtain ⟨x', y', z', hx'⟩ : ∃ x' y' z' : Int, lb[k] = (x', y', z') := ⟨_, _, _, rfl⟩
        rw [hx] at c0 c1 c2 ht hne
        rw [hx'] at d0 d1 d2 ht hne
        simp only at c0 c1 c2 d0 d1 d2
        clear hx hx'
        have i1 : (k : Int) < m := by omega
        have i0 : (0 : Int) ≤ k := by omega
        by_cases heq : (x, y, z) = (x', y', z')
        · have hT := hid (ht.out heq)
          injection heq with e1 heq
          injection heq with e2 e3
          subst e1; subst e2; subst e3
          clear ht hne
          go_wp2
          go_region
          all_goals
            go_wp2
            go_roundw
            case rel => exact ⟨k + 1, by omega, by go_num, hT.out, _, rfl⟩
            case measure => simp [intOf]; omega
        · have hF : Hid (decide (la = lb) = false) := hid (by simpa using fun e => heq (hne.out e))
          clear ht hne
          have hd : (x == x') = false ∨ ((x == x') = true ∧ (y == y') = false) ∨ ((x == x') = true ∧ (y == y') = true ∧ (z == z') = false) := by
            cases h1 : (x == x') <;> cases h2 : (y == y') <;> cases h3 : (z == z') <;> simp_all
          clear heq
          rcases hd with h1 | ⟨h1, h2⟩ | ⟨h1, h2, h3⟩
          all_goals
            go_wp2
            go_region
            all_goals
              go_wp2
              go_ret
              exact ⟨ret_bool hF.out.symm, _, rfl⟩
      · have e : k = m := by omega
        have i1 : ¬ (k : Int) < m := by omega
        have hT : Hid (decide (la = lb) = true) := hid (by
          have := HS.out
          rw [List.take_of_length_le (by rw [← HM.out]; omega), List.take_of_length_le (by rw [← HN.out]; omega)] at this
          simpa using this)
        clear e
        go_wp2
        go_ret
        exact ⟨ret_bool hT.out.symm, _, rfl⟩
  · have t0 : ((m : Int) != n) = true := by simp; omega
    have hF : Hid (decide (la = lb) = false) := hid (by
      simp only [decide_eq_false_iff_not]
      intro e
      subst e
      exact hmn (HM.out.trans HN.out.symm))
    go_enter Try.func20, Try.ntmps20
    go_wp2
    go_ret
    exact ⟨ret_bool hF.out.symm, 0, rfl⟩
end Go.Proofs.Ytdbfpoplhmonhaa
