/- The reference's Walk. -/
import Derived.Test.YteapnfdpkjbfhaaGreatGa
import Derived.Test.YteapnfdpkjbfhaaGreatGo
namespace Go.Proofs.YteapnfdpkjbfhaaGreat
set_option linter.unusedVariables false
set_option linter.unusedSimpArgs false
open Go.RowKit Go.ChangeShapes Go.WideShapes Go.ChangeAt
def RefAt (w : World) (n : Nat) (g : Nat → Int) (v i : Value) (wr : World) : Prop :=
 ∃ (p : Nat) (l : List (Int × Int × Int)) (L : Option Addr) (d m : Nat), v = .slice L m d ∧ i = .int .i64 (p : Int) ∧ m = l.length ∧ Sofar g n l p ∧ Below w.heap.size w wr ∧ OwO 114 wr w.heap.size (.slice L m d) l
set_option maxHeartbeats 2000000 in
theorem rwalk_any (A : Option Addr) (n c : Nat) (g : Nat → Int) (w : World) (h : By w A n g) (hg : IsB g) (hn : n ≤ 1000000) :
 Calls Tryz.prog 54 #[.slice A n c] w (Walked 114 g n w) := by
 go_enter Tryz.func54, Tryz.ntmps54
 go_wp2
 go_loopw [4, 5] (fun v i wr => RefAt w n g v i wr) (fun _ i _ => n - (intOf i).toNat)
 case atStart => exact ⟨0, [], none, 0, 0, rfl, rfl, rfl, sofar0 g n, Below.refl _ _, Ow.none_⟩
 case round =>
  obtain ⟨p, l, L, d, m, rfl, rfl, hm, hs, hb, ho⟩ := hrel
  have hs' := hs
  obtain ⟨_, hlp, hpn⟩ := hs'
  rw [← hm] at hlp
  have HM := hid hm
  have HS := hid hs
  have HB := hid hb
  have HO := hid ho
  clear hs hm hb ho
  by_cases hlt : p < n
  ·obtain ⟨b, off, rfl, hbw, hc⟩ := h (by omega)
   have c0 : wr.cell? ⟨b, off + p, none⟩ = some (.int .u8 (g p)) := (HB.out.cell (p := ⟨b, off + p, none⟩) hbw).trans (hc p hlt)
   have hbr : b < wr.heap.size := Nat.lt_of_lt_of_le hbw HB.out.size
   have gx := hg p
   have hne := hid (OwO.block_ge HO.out hbw)
   cases hon : oneO g n p with
   | none =>
     have hbad := hid (sofar_bad HS.out hlt hon)
     have hx : ¬ g p < 2 := by intro hx; unfold oneO at hon; rw [if_pos hx] at hon; cases hon
     obtain ⟨x, hgx⟩ : ∃ x, x = g p := ⟨_, rfl⟩
     rw [← hgx] at c0 gx hx
     have t0 : decide (x < 2) = false := by simpa using hx
     obtain ⟨gx1, gx2⟩ := gx
     by_cases hs : n ≤ p + 1
     ·have t1 : decide ((n : Int) ≤ (p : Int) + 1) = true := by simp; omega
      clear hon hc h hg hgx
      go_wp2
      go_ret2
      exact walked_none hbad.out HB.out
     ·have t1 : decide ((n : Int) ≤ (p : Int) + 1) = false := by simp; omega
      have c1 : wr.cell? ⟨b, off + (p + 1), none⟩ = some (.int .u8 (g (p + 1))) := (HB.out.cell (p := ⟨b, off + (p + 1), none⟩) hbw).trans (hc (p + 1) (by omega))
      have gy := hg (p + 1)
      have hy : g (p + 1) < 2 ∨ (n : Int) - p < g (p + 1) := by
       unfold oneO at hon
       rw [if_neg (by omega), if_neg hs] at hon
       by_cases q1 : g (p + 1) < 2
       ·exact .inl q1
       ·rw [if_neg q1] at hon
        by_cases q2 : (n : Int) - p < g (p + 1)
        ·exact .inr q2
        ·rw [if_neg q2] at hon; cases hon
      have e1 : ((p : Int) + 1).toNat = p + 1 := by omega
      obtain ⟨y, hgy⟩ : ∃ y, y = g (p + 1) := ⟨_, rfl⟩
      rw [← hgy] at c1 gy hy
      obtain ⟨gy1, gy2⟩ := gy
      clear hon hc h hg hgx hgy
      by_cases q1 : y < 2
      ·have t2 : decide (y < 2) = true := by simpa using q1
       go_wp2
       go_ret2
       exact walked_none hbad.out HB.out
      ·have t2 : decide (y < 2) = false := by simpa using q1
       have t3 : decide ((n : Int) - p < y) = true := by simp; omega
       go_wp2
       go_ret2
       exact walked_none hbad.out HB.out
   | some o =>
     obtain ⟨ok, oa, ol⟩ := o
     have hon' := one_is hon hlt
     simp only at hon'
     obtain ⟨rfl, rfl, o1, o2, o3, o4⟩ := hon'
     have hlast := hid (fun hk => sofar_last HS.out hlt hon hk)
     have hmore := hid (fun hk => sofar_more HS.out hlt hon hk)
     simp only at hlast hmore
     by_cases hx : g p < 2
     ·have hl : ol = 1 := by unfold oneO at hon; rw [if_pos hx] at hon; injection hon with e; injection e with _ e; injection e with _ e; exact e.symm
      subst hl
      obtain ⟨x, hgx⟩ : ∃ x, x = g p := ⟨_, rfl⟩
      rw [← hgx] at c0 gx hx hlast hmore
      have t0 : decide (x < 2) = true := by simpa using hx
      clear hon hc h hg hgx
      have hx01 : x = 0 ∨ x = 1 := by omega
      rcases hx01 with rfl | rfl
      ·have hL := hid (hlast.out rfl)
       clear hlast hmore
       go_wp2_with (at_builtin; refine wp_app_o rfl (.tmp 18) (.tmp 22) 110 114 rfl Tryz.underlying110 (.inr rfl) w.heap.size _ l m HM.out rfl (Ow.alloc HO.out _) wr.heap.size 1 (0, (p : Int), 1) rfl (Ce.made (w := wr) (l := [.int .i64 (0), .int .i64 ((p : Int)), .int .i64 (1)]) rfl) (by have := HM.out; omega) (by simp; exact Nat.le_succ_of_le HB.out.size) ?_; intro A' c' w3 hown hbel hgr; have HB4 := hid ((HB.out.alloc HB.out.size _).trans hbel); have HO4 := hid hown; clear hown hbel hgr HB HO)
       go_ret2
       exact walked_some hL.out (by rw [HM.out]; simp) HO4.out HB4.out
      ·have hL := hid (hmore.out (by decide))
       clear hlast hmore
       go_wp2_with (at_builtin; refine wp_app_o rfl (.tmp 18) (.tmp 22) 110 114 rfl Tryz.underlying110 (.inr rfl) w.heap.size _ l m HM.out rfl (Ow.alloc HO.out _) wr.heap.size 1 (1, (p : Int), 1) rfl (Ce.made (w := wr) (l := [.int .i64 (1), .int .i64 ((p : Int)), .int .i64 (1)]) rfl) (by have := HM.out; omega) (by simp; exact Nat.le_succ_of_le HB.out.size) ?_; intro A' c' w3 hown hbel hgr; have HB4 := hid ((HB.out.alloc HB.out.size _).trans hbel); have HO4 := hid hown; clear hown hbel hgr HB HO)
       go_roundw
       case rel => exact ⟨p + 1, l ++ [(1, (p : Int), 1)], A', c', m + 1, rfl, by go_num, (by rw [HM.out]; simp), hL.out, HB4.out, HO4.out⟩
       case measure => simp [intOf]; omega
     ·have hs : ¬ n ≤ p + 1 := by intro hs; unfold oneO at hon; rw [if_neg hx, if_pos hs] at hon; cases hon
      have hy : g (p + 1) = ol ∧ ¬ g (p + 1) < 2 ∧ ¬ (n : Int) - p < g (p + 1) := by
       unfold oneO at hon
       rw [if_neg hx, if_neg hs] at hon
       by_cases q1 : g (p + 1) < 2
       ·rw [if_pos q1] at hon; cases hon
       ·rw [if_neg q1] at hon
        by_cases q2 : (n : Int) - p < g (p + 1)
        ·rw [if_pos q2] at hon; cases hon
        ·rw [if_neg q2] at hon; injection hon with e; injection e with _ e; injection e with _ e; exact ⟨e, q1, q2⟩
      have gy := hg (p + 1)
      obtain ⟨e, hy1, hy2⟩ := hy
      have c1 : wr.cell? ⟨b, off + (p + 1), none⟩ = some (.int .u8 (g (p + 1))) := (HB.out.cell (p := ⟨b, off + (p + 1), none⟩) hbw).trans (hc (p + 1) (by omega))
      have c1' : Hid (w.cell? ⟨b, off + (p + 1), none⟩ = some (.int .u8 (g (p + 1)))) := hid (hc (p + 1) (by omega))
      rw [e] at c1 gy hy1 hy2
      have C1 : ∀ w3, Below w.heap.size w w3 → w3.cell? ⟨b, off + (p + 1), none⟩ = some (.int .u8 ol) := fun w3 hb => by rw [hb.cell (p := ⟨b, off + (p + 1), none⟩) hbw, c1'.out, e]
      obtain ⟨x, hgx⟩ : ∃ x, x = g p := ⟨_, rfl⟩
      rw [← hgx] at c0 gx hx hlast hmore
      obtain ⟨gx1, gx2⟩ := gx
      obtain ⟨gy1, gy2⟩ := gy
      have e1 : ((p : Int) + 1).toNat = p + 1 := by omega
      have t0 : decide (x < 2) = false := by simpa using hx
      have t1 : decide ((n : Int) ≤ (p : Int) + 1) = false := by simp; omega
      have t2 : decide (ol < 2) = false := by simpa using hy1
      have t3 : decide ((n : Int) - p < ol) = false := by simpa using hy2
      have hL := hid (hmore.out (by omega))
      have CH := hid C1
      have e3 : (p : Int) + ol = ((p + ol.toNat : Nat) : Int) := by omega
      have E3 := hid e3
      clear hon hc h hg hgx e c1' C1 hlast hmore e3
      go_wp2_with (at_builtin; refine wp_app_o rfl (.tmp 55) (.tmp 65) 110 114 rfl Tryz.underlying110 (.inr rfl) w.heap.size _ l m HM.out rfl (Ow.alloc HO.out _) wr.heap.size 1 (x, (p : Int), ol) rfl (Ce.made (w := wr) (l := [.int .i64 (x), .int .i64 ((p : Int)), .int .i64 (ol)]) rfl) (by have := HM.out; omega) (by simp; exact Nat.le_succ_of_le HB.out.size) ?_; intro A' c' w3 hown hbel hgr; have HB4 := hid ((HB.out.alloc HB.out.size _).trans hbel); have HO4 := hid hown; have c2 := CH.out _ HB4.out; clear hown hbel hgr HB HO)
      go_roundw
      case rel => exact ⟨p + ol.toNat, l ++ [(x, (p : Int), ol)], A', c', m + 1, rfl, (by rw [E3.out]), (by rw [HM.out]; simp), hL.out, HB4.out, HO4.out⟩
      case measure => simp [intOf]; omega
  ·have e1 : p = n := by omega
   have hend := hid (sofar_end HS.out (show n ≤ p by omega))
   have t0 : ¬ (p : Int) < n := by omega
   clear e1
   go_wp2
   go_ret2
   exact walked_some hend.out HM.out HO.out HB.out
end Go.Proofs.YteapnfdpkjbfhaaGreat
