/- roundhouselaw9.PlaneGoes answers true for every row, any three numbers, either way of both; no condition. -/
import Derived.Test.YteapnfdpkjbfhaaGreatGa
import Derived.Test.YteapnfdpkjbfhaaGreatGo
import Derived.Test.YteapnfdpkjbfhaaGreatTopTh
import Derived.Test.YteapnfdpkjbfhaaGreatWirRparse2
import Derived.BigQuiet
import Derived.Deep.RegionHeld3
import Derived.Deep.Cut
import Derived.IntWalk
import Derived.Test.YteapnfdpkjbfhaaGreatGz
import Derived.Test.YteapnfdpkjbfhaaGreatPlNeM
import Derived.Deep.RegionWith
import Derived.Test.YteapnfdpkjbfhaaGreatTopAll
import Derived.Test.YteapnfdpkjbfhaaGreatTopChM
import Derived.Test.YteapnfdpkjbfhaaGreatTopRtS
import Derived.Test.YteapnfdpkjbfhaaGreatTopOut
import Derived.Test.YteapnfdpkjbfhaaGreatTkBy
import Derived.Test.YteapnfdpkjbfhaaGreatPlKn9
import Derived.Deep.LoopGhost
import Derived.Deep.CutRange
import Derived.Deep.CutBlock
/- The reference's Walk. -/
namespace Go.Proofs.YteapnfdpkjbfhaaGreat
set_option linter.unusedVariables false
set_option linter.unusedSimpArgs false
open Go.RowKit Go.ChangeShapes Go.WideShapes Go.ChangeAt
def RefAt (w : World) (n : Nat) (g : Nat → Int) (v i : Value) (wr : World) : Prop :=
 ∃ (p : Nat) (l : List (Int × Int × Int)) (L : Option Addr) (d m : Nat), v = .slice L m d ∧ i = .int .i64 (p : Int) ∧ m = l.length ∧ Sofar g n l p ∧ Below w.heap.size w wr ∧ OwO 114 wr w.heap.size (.slice L m d) l
set_option maxHeartbeats 2000000 in
theorem rwalk_any (A : Option Addr) (n c : Nat) (g : Nat → Int) (w : World) (h : By w A n g) (hg : IsB g) (hn : n ≤ 1000000) :
 Calls Tryz.prog 54 #[.slice A n c] w (Walked 114 g n w) := by
 go_enter Tryz.func54, Tryz.ntmps54
 go_wp2
 go_loopw [4, 5] (fun v i wr => RefAt w n g v i wr) (fun _ i _ => n - (intOf i).toNat)
 case atStart => exact ⟨0, [], none, 0, 0, rfl, rfl, rfl, sofar0 g n, Below.refl _ _, Ow.none_⟩
 case round =>
  obtain ⟨p, l, L, d, m, rfl, rfl, hm, hs, hb, ho⟩ := hrel
  have hs' := hs
  obtain ⟨_, hlp, hpn⟩ := hs'
  rw [← hm] at hlp
  have HM := hid hm
  have HS := hid hs
  have HB := hid hb
  have HO := hid ho
  clear hs hm hb ho
  by_cases hlt : p < n
  ·obtain ⟨b, off, rfl, hbw, hc⟩ := h (by omega)
   have c0 : wr.cell? ⟨b, off + p, none⟩ = some (.int .u8 (g p)) := (HB.out.cell (p := ⟨b, off + p, none⟩) hbw).trans (hc p hlt)
   have hbr : b < wr.heap.size := Nat.lt_of_lt_of_le hbw HB.out.size
   have gx := hg p
   have hne := hid (OwO.block_ge HO.out hbw)
   cases hon : oneO g n p with
   | none =>
     have hbad := hid (sofar_bad HS.out hlt hon)
     have hx : ¬ g p < 2 := by intro hx; unfold oneO at hon; rw [if_pos hx] at hon; cases hon
     obtain ⟨x, hgx⟩ : ∃ x, x = g p := ⟨_, rfl⟩
     rw [← hgx] at c0 gx hx
     have t0 : decide (x < 2) = false := by simpa using hx
     obtain ⟨gx1, gx2⟩ := gx
     by_cases hs : n ≤ p + 1
     ·have t1 : decide ((n : Int) ≤ (p : Int) + 1) = true := by simp; omega
      clear hon hc h hg hgx
      go_wp2
      go_ret2
      exact walked_none hbad.out HB.out
     ·have t1 : decide ((n : Int) ≤ (p : Int) + 1) = false := by simp; omega
      have c1 : wr.cell? ⟨b, off + (p + 1), none⟩ = some (.int .u8 (g (p + 1))) := (HB.out.cell (p := ⟨b, off + (p + 1), none⟩) hbw).trans (hc (p + 1) (by omega))
      have gy := hg (p + 1)
      have hy : g (p + 1) < 2 ∨ (n : Int) - p < g (p + 1) := by
       unfold oneO at hon
       rw [if_neg (by omega), if_neg hs] at hon
       by_cases q1 : g (p + 1) < 2
       ·exact .inl q1
       ·rw [if_neg q1] at hon
        by_cases q2 : (n : Int) - p < g (p + 1)
        ·exact .inr q2
        ·rw [if_neg q2] at hon; cases hon
      have e1 : ((p : Int) + 1).toNat = p + 1 := by omega
      obtain ⟨y, hgy⟩ : ∃ y, y = g (p + 1) := ⟨_, rfl⟩
      rw [← hgy] at c1 gy hy
      obtain ⟨gy1, gy2⟩ := gy
      clear hon hc h hg hgx hgy
      by_cases q1 : y < 2
      ·have t2 : decide (y < 2) = true := by simpa using q1
       go_wp2
       go_ret2
       exact walked_none hbad.out HB.out
      ·have t2 : decide (y < 2) = false := by simpa using q1
       have t3 : decide ((n : Int) - p < y) = true := by simp; omega
       go_wp2
       go_ret2
       exact walked_none hbad.out HB.out
   | some o =>
     obtain ⟨ok, oa, ol⟩ := o
     have hon' := one_is hon hlt
     simp only at hon'
     obtain ⟨rfl, rfl, o1, o2, o3, o4⟩ := hon'
     have hlast := hid (fun hk => sofar_last HS.out hlt hon hk)
     have hmore := hid (fun hk => sofar_more HS.out hlt hon hk)
     simp only at hlast hmore
     by_cases hx : g p < 2
     ·have hl : ol = 1 := by unfold oneO at hon; rw [if_pos hx] at hon; injection hon with e; injection e with _ e; injection e with _ e; exact e.symm
      subst hl
      obtain ⟨x, hgx⟩ : ∃ x, x = g p := ⟨_, rfl⟩
      rw [← hgx] at c0 gx hx hlast hmore
      have t0 : decide (x < 2) = true := by simpa using hx
      clear hon hc h hg hgx
      have hx01 : x = 0 ∨ x = 1 := by omega
      rcases hx01 with rfl | rfl
      ·have hL := hid (hlast.out rfl)
       clear hlast hmore
       go_wp2_with (at_builtin; refine wp_app_o rfl (.tmp 18) (.tmp 22) 110 114 rfl Tryz.underlying110 (.inr rfl) w.heap.size _ l m HM.out rfl (Ow.alloc HO.out _) wr.heap.size 1 (0, (p : Int), 1) rfl (Ce.made (w := wr) (l := [.int .i64 (0), .int .i64 ((p : Int)), .int .i64 (1)]) rfl) (by have := HM.out; omega) (by simp; exact Nat.le_succ_of_le HB.out.size) ?_; intro A' c' w3 hown hbel hgr; have HB4 := hid ((HB.out.alloc HB.out.size _).trans hbel); have HO4 := hid hown; clear hown hbel hgr HB HO)
       go_ret2
       exact walked_some hL.out (by rw [HM.out]; simp) HO4.out HB4.out
      ·have hL := hid (hmore.out (by decide))
       clear hlast hmore
       go_wp2_with (at_builtin; refine wp_app_o rfl (.tmp 18) (.tmp 22) 110 114 rfl Tryz.underlying110 (.inr rfl) w.heap.size _ l m HM.out rfl (Ow.alloc HO.out _) wr.heap.size 1 (1, (p : Int), 1) rfl (Ce.made (w := wr) (l := [.int .i64 (1), .int .i64 ((p : Int)), .int .i64 (1)]) rfl) (by have := HM.out; omega) (by simp; exact Nat.le_succ_of_le HB.out.size) ?_; intro A' c' w3 hown hbel hgr; have HB4 := hid ((HB.out.alloc HB.out.size _).trans hbel); have HO4 := hid hown; clear hown hbel hgr HB HO)
       go_roundw
       case rel => exact ⟨p + 1, l ++ [(1, (p : Int), 1)], A', c', m + 1, rfl, by go_num, (by rw [HM.out]; simp), hL.out, HB4.out, HO4.out⟩
       case measure => simp [intOf]; omega
     ·have hs : ¬ n ≤ p + 1 := by intro hs; unfold oneO at hon; rw [if_neg hx, if_pos hs] at hon; cases hon
      have hy : g (p + 1) = ol ∧ ¬ g (p + 1) < 2 ∧ ¬ (n : Int) - p < g (p + 1) := by
       unfold oneO at hon
       rw [if_neg hx, if_neg hs] at hon
       by_cases q1 : g (p + 1) < 2
       ·rw [if_pos q1] at hon; cases hon
       ·rw [if_neg q1] at hon
        by_cases q2 : (n : Int) - p < g (p + 1)
        ·rw [if_pos q2] at hon; cases hon
        ·rw [if_neg q2] at hon; injection hon with e; injection e with _ e; injection e with _ e; exact ⟨e, q1, q2⟩
      have gy := hg (p + 1)
      obtain ⟨e, hy1, hy2⟩ := hy
      have c1 : wr.cell? ⟨b, off + (p + 1), none⟩ = some (.int .u8 (g (p + 1))) := (HB.out.cell (p := ⟨b, off + (p + 1), none⟩) hbw).trans (hc (p + 1) (by omega))
      have c1' : Hid (w.cell? ⟨b, off + (p + 1), none⟩ = some (.int .u8 (g (p + 1)))) := hid (hc (p + 1) (by omega))
      rw [e] at c1 gy hy1 hy2
      have C1 : ∀ w3, Below w.heap.size w w3 → w3.cell? ⟨b, off + (p + 1), none⟩ = some (.int .u8 ol) := fun w3 hb => by rw [hb.cell (p := ⟨b, off + (p + 1), none⟩) hbw, c1'.out, e]
      obtain ⟨x, hgx⟩ : ∃ x, x = g p := ⟨_, rfl⟩
      rw [← hgx] at c0 gx hx hlast hmore
      obtain ⟨gx1, gx2⟩ := gx
      obtain ⟨gy1, gy2⟩ := gy
      have e1 : ((p : Int) + 1).toNat = p + 1 := by omega
      have t0 : decide (x < 2) = false := by simpa using hx
      have t1 : decide ((n : Int) ≤ (p : Int) + 1) = false := by simp; omega
      have t2 : decide (ol < 2) = false := by simpa using hy1
      have t3 : decide ((n : Int) - p < ol) = false := by simpa using hy2
      have hL := hid (hmore.out (by omega))
      have CH := hid C1
      have e3 : (p : Int) + ol = ((p + ol.toNat : Nat) : Int) := by omega
      have E3 := hid e3
      clear hon hc h hg hgx e c1' C1 hlast hmore e3
      go_wp2_with (at_builtin; refine wp_app_o rfl (.tmp 55) (.tmp 65) 110 114 rfl Tryz.underlying110 (.inr rfl) w.heap.size _ l m HM.out rfl (Ow.alloc HO.out _) wr.heap.size 1 (x, (p : Int), ol) rfl (Ce.made (w := wr) (l := [.int .i64 (x), .int .i64 ((p : Int)), .int .i64 (ol)]) rfl) (by have := HM.out; omega) (by simp; exact Nat.le_succ_of_le HB.out.size) ?_; intro A' c' w3 hown hbel hgr; have HB4 := hid ((HB.out.alloc HB.out.size _).trans hbel); have HO4 := hid hown; have c2 := CH.out _ HB4.out; clear hown hbel hgr HB HO)
      go_roundw
      case rel => exact ⟨p + ol.toNat, l ++ [(x, (p : Int), ol)], A', c', m + 1, rfl, (by rw [E3.out]), (by rw [HM.out]; simp), hL.out, HB4.out, HO4.out⟩
      case measure => simp [intOf]; omega
  ·have e1 : p = n := by omega
   have hend := hid (sofar_end HS.out (show n ≤ p by omega))
   have t0 : ¬ (p : Int) < n := by omega
   clear e1
   go_wp2
   go_ret2
   exact walked_some hend.out HM.out HO.out HB.out
end Go.Proofs.YteapnfdpkjbfhaaGreat

/- The reference's Stamp. -/
namespace Go.Proofs.YteapnfdpkjbfhaaGreat
set_option linter.unusedVariables false
set_option linter.unusedSimpArgs false
open Go.RowKit Go.ChangeShapes Go.WideShapes Go.ChangeAt
theorem stS_wl (g : Nat → Int) (n : Nat) : stamp g n = match fst (wl g n) with
 | none => (0, 0, 0, false)
 | some o => (o.2.1 + 2, numO g (o.2.1.toNat + 2), numO g (o.2.1.toNat + 6), true) := by
 unfold stamp wl stS
 cases walk g n 0 <;> rfl
theorem wl_fst {g : Nat → Int} {n : Nat} {o : Int × Int × Int} (hf : fst (wl g n) = some o) : 0 ≤ o.2.1 ∧ o.2.1.toNat + 10 ≤ n ∧ o.2.1 = o.2.1.toNat := by
 unfold wl at hf
 cases hw : walk g n 0 with
 | none => rw [hw] at hf; cases hf
 | some l => rw [hw] at hf; exact fst_is hw hf
def RstAt (w : World) (l : List (Int × Int × Int)) (A : Option Addr) (i : Value) (wr : World) : Prop :=
 ∃ k : Nat, k ≤ l.length ∧ i = .int .i64 (k : Int) ∧ fst (l.drop k) = fst l ∧ Below w.heap.size w wr ∧ SlO wr A l
set_option maxHeartbeats 2000000 in
theorem rstamp_any (A : Option Addr) (n c : Nat) (g : Nat → Int) (w : World) (h : By w A n g) (hg : IsB g) (hn : n ≤ 1000000) (hc : n ≤ c) :
 Calls Tryz.prog 17 #[.slice A n c] w fun e w' => e = .returned (StV (stamp g n)) ∧ Below w.heap.size w w' := by
 have W := hid (rwalk_any A n c g w h hg hn)
 have hlen := wl_len g n
 have HS := hid (stS_wl g n)
 have HW := fun o => hid (@wl_fst g n o)
 obtain ⟨l, hl⟩ : ∃ l, l = wl g n := ⟨_, rfl⟩
 obtain ⟨m, hm⟩ : ∃ m, m = l.length := ⟨_, rfl⟩
 unfold Walked at W
 rw [← hl] at W HS hlen
 rw [← hm] at W hlen
 have HM := hid hm
 have HL := hid hl
 clear hl hm
 replace HW := hid HW
 have HY := hid h
 have HG := hid hg
 clear h hg
 go_enter Tryz.func17, Tryz.ntmps17
 go_wp2_with fail
 refine W.out.mono ?_
 rintro e w1 ⟨A1, c1, rfl, ho, hb⟩
 have HB := hid hb
 have HO := hid (show SlO w1 A1 l by unfold SlO; rw [HM.out] at ho; have := Ow.sl ho; exact this)
 clear ho hb W
 go_wp2
 go_loopw [8] (fun i wr => RstAt w l A1 i wr) (fun i _ => m - (intOf i).toNat)
 case atStart => exact ⟨0, Nat.zero_le _, rfl, rfl, HB.out, HO.out⟩
 case round =>
  clear HB HO
  obtain ⟨k, hk, rfl, hf, hb, hC⟩ := hrel
  rw [← HM.out] at hk
  by_cases hlt : k < m
  ·have hkl : k < l.length := by rw [← HM.out]; exact hlt
   obtain ⟨b, off, rfl, hbw, hcc⟩ := hC (by omega)
   clear hcc
   obtain ⟨c0, c1, c2⟩ := SlO.cells hC hkl
   have hd := fst_drop hkl
   obtain ⟨x, y, z, hx⟩ : ∃ x y z : Int, l[k] = (x, y, z) := ⟨_, _, _, rfl⟩
   rw [hx] at c0 c1 c2 hd
   simp only at c0 c1 c2
   have HF := hid hf
   have HB := hid hb
   have HC := hid hC
   have i1 : (k : Int) < m := by omega
   have i0 : (0 : Int) ≤ k := by omega
   cases hs : isS (x, y, z)
   ·have hnx : fst (l.drop (k + 1)) = fst l := by rw [← hf, hd, hs]; rfl
    have HN := hid hnx
    have hxz : (x == 8) = false ∨ ((x == 8) = true ∧ (z == 10) = false) := by
     simp only [isS] at hs
     cases h1 : (x == 8) <;> cases h2 : (z == 10) <;> simp_all
    clear hd hx hs hnx hf hb hC
    rcases hxz with h1 | ⟨h1, h2⟩
    all_goals
     go_wp2
     go_roundw
     case rel => exact ⟨k + 1, by rw [← HM.out]; omega, by go_num, HN.out, HB.out, HC.out⟩
     case measure => simp [intOf]; omega
   ·have hfo : fst l = some (x, y, z) := by rw [← hf, hd, hs]; rfl
    have hw := HW.out (x, y, z)
    rw [← HL.out] at hw
    obtain ⟨o1, o2, o3⟩ := hw.out hfo
    obtain ⟨p, hp⟩ : ∃ p, p = y.toNat := ⟨_, rfl⟩
    simp only at o1 o2 o3
    rw [← hp] at o2 o3
    have hxz : (x == 8) = true ∧ (z == 10) = true := by simpa [isS] using hs
    obtain ⟨h1, h2⟩ := hxz
    subst o3
    have HS' : Hid (stamp g n = ((p : Int) + 2, numO g (p + 2), numO g (p + 6), true)) := hid (by rw [HS.out, hfo]; simp)
    clear hd hx hs hf hb hC hfo hw hp HW
    have hy := HY.out.below HB.out (Nat.le_refl _)
    obtain ⟨A2, r2, s2⟩ := cut_from_b A n c (p + 2) (by omega) hc ((p : Int) + 2) (by omega)
    obtain ⟨A3, r3, s3⟩ := cut_from_b A n c (p + 6) (by omega) hc ((p : Int) + 6) (by omega)
    have S2 := hid (s2 wr g hy)
    have S3 := hid (s3 wr g hy)
    have b1 : (0 : Int) ≤ p := by omega
    have b2 : (p : Int) + 10 ≤ n := by omega
    have i4 : IntKind.i64.wrap ((p : Int) + 2 + 4) = (p : Int) + 6 := by rw [IntKind.wrap_i64]; omega
    have j4 : IntKind.i64.wrap ((p : Int) + 6) = (p : Int) + 6 := by rw [IntKind.wrap_i64]; omega
    have O2 := hid (show 4 ≤ n - (p + 2) by omega)
    have O3 := hid (show 4 ≤ n - (p + 6) by omega)
    clear hy s2 s3 HY HF HL o1 o2
    go_wp2
    go_quiet ((go_at_call 55; first | exact q0q (rnum_cut _ _ _ _ _ _ (by first | exact S2.out.drewN _ | exact S3.out.drewN _) HG.out (by first | exact O2.out | exact O3.out)) | exact q1q (rnum_cut _ _ _ _ _ _ (by first | exact S2.out.drewN _ | exact S3.out.drewN _) HG.out (by first | exact O2.out | exact O3.out))))
    go_wp2
    refine bodyPost_ret (v := .tuple #[.int .i64 ((p : Int) + 2), .int .u32 (numO g (p + 2)), .int .u32 (numO g (p + 6)), .bool true]) (by simp [results, Tryz.results17, go_sem]) rfl ⟨by rw [HS'.out]; rfl, below_drewN HB.out _⟩
  ·have i1 : ¬ (k : Int) < m := by omega
   have hnone : fst l = none := by rw [← hf, List.drop_of_length_le (by rw [← HM.out]; omega)]; rfl
   have HN := hid hnone
   have HB := hid hb
   clear hb hC hf hnone
   go_wp2
   refine bodyPost_ret (v := .tuple #[.int .i64 0, .int .u32 0, .int .u32 0, .bool false]) (by simp [results, Tryz.results17, go_sem]) rfl ⟨by rw [HS.out, HN.out]; rfl, HB.out⟩
end Go.Proofs.YteapnfdpkjbfhaaGreat

/- The reference's Parse by things. -/
namespace Go.Proofs.YteapnfdpkjbfhaaGreat
set_option linter.unusedVariables false
set_option linter.unusedSimpArgs false
open Go.RowKit Go.ChangeShapes Go.WideShapes Go.ChangeAt
theorem c_rparse {S : List Nat} {W w : World} {L : List Th} (hS : HS S W w L) (p : Pk) (g : Nat → Int) (n : Nat) (hg : IsB g) (hn : n ≤ 1000000) (hP : parseE g n = 0) (pe : Pe (parseR g n) p) (A : Option Addr) (c : Nat) (hc : n ≤ c) (h : By w A n g) :
 Calls Tryz.prog 16 #[.slice A n c] w fun e w' => ∃ AO cO AD cD, e = .returned (.tuple #[.agg #[.int .i64 p.kind, .int .i64 p.life, .int .i64 p.piece, .int .i64 p.src, .int .i64 p.dst, .int .i64 p.fp, .int .i64 p.tp, .int .i64 p.flags, .int .i64 p.label, .bool p.bare, .int .i64 p.code, .slice AO p.no cO, .slice AD p.nd cD], .int .i64 0]) ∧ HS S W w' (thOD 0 (.slice AO p.no cO) (.slice AD p.nd cD) p.no p.nd p.go p.gd :: L) ∧ p.no ≤ cO ∧ p.nd ≤ cD := by
 refine (rparse_any A n c g w h hg hc hn).mono ?_
 rintro e w' ⟨O, D, rfl, hO, hD, hb⟩
 rw [hP]
 have hv : pkV (parseR g n) O D = pkV p O D := by
  unfold pkV pkL
  rw [pe.kind, pe.life, pe.piece, pe.src, pe.dst, pe.fp, pe.tp, pe.flags, pe.label, pe.bare, pe.code]
 rw [hv]
 rw [pe.no] at hO
 rw [pe.nd] at hD
 obtain ⟨AO, cO, rfl, _, _, _⟩ := hO.form_
 obtain ⟨AD, cD, rfl, _, _, _⟩ := hD.form_
 have hO2 := hO.as2 (fun j hj => pe.go j (by rw [pe.no]; exact hj))
 have hD2 := hD.as2 (fun j hj => pe.gd j (by rw [pe.nd]; exact hj))
 exact ⟨AO, cO, AD, cD, rfl, hS.newP hb hO2 hD2, row_le hO2, row_le hD2⟩
end Go.Proofs.YteapnfdpkjbfhaaGreat

/- What these texts name of the common ones, beside what lies there. -/
namespace Go.Proofs.YteapnfdpkjbfhaaGreat
set_option linter.unusedVariables false
set_option linter.unusedSimpArgs false
open Go.RowKit Go.ChangeShapes Go.WideShapes Go.ChangeAt
set_option maxRecDepth 100000
variable {P : Program} {v : Value} {t : Th} {H : Type} {enc : TypeId × Value → H} {S : List Nat} {W w : World} {L A B : List Th} {ops : Array Oper} {rest : List Oper} {Q : Exit → Act → World → Prop} {o : Oper} {a : Act} {K : Act → World → Prop}
theorem keyOf_prev (r : Rg) : keyOf r ((r.e - 1) % 4) = some r.p := by
 unfold keyOf
 rw [if_pos (by omega)]
theorem rtakes_any (s : Sp) (w : World) : Calls Tryz.prog 26 #[spV s] w fun e w' => e = .returned (.bool (takesB s.st)) ∧ Below w.heap.size w w' := by
 unfold takesB spV
 obtain ⟨st, ad, po, we, si⟩ := s
 simp only
 cases h1 : (st == 1) <;> cases h2 : (st == 2) <;> cases h3 : (st == 3)
 all_goals
  go_enter Tryz.func26, Tryz.ntmps26
  go_wp2
  go_ret
  exact ⟨rfl, (Below.refl _ _).alloc (Nat.le_refl _) _⟩
set_option maxRecDepth 100000 in
set_option maxHeartbeats 4000000 in
theorem rfind_any (p : Pl) (a q : Int) (w : World) : Calls Tryz.prog 24 #[plV p, .int .i64 a, .int .i64 q] w fun x w' => x = .returned (fdV (findO p a q)) ∧ Below w.heap.size w w' := by
 obtain ⟨f, hf⟩ : ∃ f, f = findO p a q := ⟨_, rfl⟩
 have HF := hid hf
 rw [← hf]
 clear hf
 unfold plV fdV
 go_enter Tryz.func24, Tryz.ntmps24
 go_upto_region 1 with (fail)
 have P1 := hid (PoolAt.made (w := w) (p := p) (T := 33) rfl)
 have HB := hid ((Below.refl w.heap.size w).alloc (Nat.le_refl _) (.cells (PA p) 33))
 generalize w.alloc (.cells (PA p) 33) = w1 at *
 generalize hK : w.heap.size = P at *
 have HK := hid hK
 clear hK
 go_wp2_with fail
 go_loopw [8] (fun i wr => ∃ k : Nat, k ≤ 64 ∧ i = .int .i64 (k : Int) ∧ (∀ j, j < k → tkS p a q j = false) ∧ Below w1.heap.size w1 wr) (fun i _ => 64 - (intOf i).toNat)
 case atStart => exact ⟨0, by omega, rfl, fun j hj => absurd hj (by omega), Below.refl _ _⟩
 case round =>
  obtain ⟨k, hk, rfl, hno, hb⟩ := hrel
  replace hno := hid hno
  have P2 := hid (P1.out.below hb)
  have HB2 := hid hb
  clear hb
  by_cases hlt : k < 64
  ·have i1 : (k : Int) < 64 := by omega
   have LK := P2.out.loadK k hlt
   have AT : Hid (tkS p a q k = (takesB (p.s k).st && (p.s k).ad == a && (p.s k).po == q)) := hid rfl
   have TK := hid (fun w => rtakes_any (p.s k) w)
   unfold spV at LK TK
   generalize p.s k = s at *
   obtain ⟨st, ad, po, we, si⟩ := s
   simp only at LK AT TK
   generalize takesB st = tb at *
   go_upto_region 5 with (refine wl_load rfl rfl rfl LK ?_)
   have CX := Ce.made (w := wr) (l := [.int .i64 st, .int .i64 ad, .int .i64 po, .int .i64 we, .int .i64 si]) (T := 25) (g := wr.heap.size) rfl
   have B3 := HB2.out.alloc HB2.out.size (.cells #[.int .i64 st, .int .i64 ad, .int .i64 po, .int .i64 we, .int .i64 si] 25)
   generalize wr.alloc (.cells #[.int .i64 st, .int .i64 ad, .int .i64 po, .int .i64 we, .int .i64 si] 25) = w2 at *
   have lV := HB2.out.size
   generalize wr.heap.size = V at *
   clear LK P2
   have x0 := CX.2.1 0 _ rfl
   have x1 := CX.2.1 1 _ rfl
   have x2 := CX.2.1 2 _ rfl
   have x3 := CX.2.1 3 _ rfl
   have x4 := CX.2.1 4 _ rfl
   go_wp2_with fail
   refine (TK.out _).mono ?_
   rintro x' w3 ⟨rfl, hb⟩
   have CY := CX.below hb
   have B4 := B3.trans (hb.mono (Nat.le_trans lV (Nat.le_of_lt CX.1)))
   clear x0 x1 x2 x3 x4 hb CX B3
   have HB4 := hid B4
   clear B4
   have x0 := CY.2.1 0 _ rfl
   have x1 := CY.2.1 1 _ rfl
   have x2 := CY.2.1 2 _ rfl
   have x3 := CY.2.1 3 _ rfl
   have x4 := CY.2.1 4 _ rfl
   clear CY
   have h6 : tb = false ∨ tb = true ∧ (ad == a) = false ∨ tb = true ∧ (ad == a) = true ∧ (po == q) = false ∨ tb = true ∧ (ad == a) = true ∧ (po == q) = true := by cases tb <;> cases (ad == a) <;> cases (po == q) <;> simp
   rcases h6 with h6 | ⟨h6, h7⟩ | ⟨h6, h7, h8⟩ | ⟨h6, h7, h8⟩
   ·subst h6
    have AF : Hid (tkS p a q k = false) := hid (by rw [AT.out]; simp [])
    clear AT
    go_wp2_with fail
    go_roundw
    case rel => exact ⟨k + 1, by omega, by go_num, fun j hj => (by rcases Nat.lt_or_ge j k with h | h; exact hno.out j h; (rw [show j = k by omega]; exact AF.out)), HB4.out⟩
    case measure => simp [intOf]; omega
   ·subst h6
    have AF : Hid (tkS p a q k = false) := hid (by rw [AT.out]; simp [h7])
    clear AT
    go_wp2_with fail
    go_roundw
    case rel => exact ⟨k + 1, by omega, by go_num, fun j hj => (by rcases Nat.lt_or_ge j k with h | h; exact hno.out j h; (rw [show j = k by omega]; exact AF.out)), HB4.out⟩
    case measure => simp [intOf]; omega
   ·subst h6
    have AF : Hid (tkS p a q k = false) := hid (by rw [AT.out]; simp [h7, h8])
    clear AT
    go_wp2_with fail
    go_roundw
    case rel => exact ⟨k + 1, by omega, by go_num, fun j hj => (by rcases Nat.lt_or_ge j k with h | h; exact hno.out j h; (rw [show j = k by omega]; exact AF.out)), HB4.out⟩
    case measure => simp [intOf]; omega
   ·subst h6
    have AF : Hid (tkS p a q k = true) := hid (by rw [AT.out]; simp [h7, h8])
    clear AT
    have HO : Hid (f = some k) := hid (by rw [HF.out]; exact find_yes k hlt hno.out AF.out)
    go_wp2_with fail
    go_ret2
    exact ⟨by rw [HO.out]; rfl, by rw [HK.out]; exact HB.out.trans (HB4.out.mono (by have := HB.out.size; rw [HK.out] at this; exact this))⟩
  ·have e : k = 64 := by omega
   subst e
   have HO : Hid (f = none) := hid (by rw [HF.out]; exact find_no hno.out)
   go_wp2_with fail
   go_ret2
   exact ⟨by rw [HO.out]; rfl, by rw [HK.out]; exact HB.out.trans (HB2.out.mono (by have := HB.out.size; rw [HK.out] at this; exact this))⟩
theorem rot_ap (p : Pl) (y : Ky) : apR p ⟨6, 0, 0, 0, 0, y⟩ = (⟨p.v + 1, p.a, p.p, p.s, ⟨p.r.e + 1, p.r.c, p.r.n, y⟩⟩, 0) := by
 have hk : chk ⟨6, 0, 0, 0, 0, y⟩ = 0 := by rw [chk_r]; rfl
 have hf : fitB p ⟨6, 0, 0, 0, 0, y⟩ 0 = true := by unfold fitB; rfl
 unfold apR
 rw [if_pos hk]
 simp only [Int.toNat_zero]
 unfold refE
 rw [hf]
 rfl
theorem rapply_fb (p : Pl) (e : En) (hp : PB p) (w : World) : Calls Tryz.prog 19 #[.agg (FA 330 (pc p)), .agg #[.int .i64 e.k, .int .i64 e.s, .int .i64 e.a, .int .i64 e.p, .int .i64 e.w, .int .u64 e.y.a, .int .u64 e.y.b]] w fun x w' => x = .returned (.tuple #[.agg (FA 330 (pc (apR p e).1)), .int .i64 (apR p e).2]) ∧ Below w.heap.size w w' := rapply_any p e hp w
end Go.Proofs.YteapnfdpkjbfhaaGreat

/- What goes out comes back to its slot, pure. -/
namespace Go.Proofs.YteapnfdpkjbfhaaGreat
set_option linter.unusedVariables false
set_option linter.unusedSimpArgs false
open Go.RowKit Go.ChangeShapes Go.WideShapes Go.ChangeAt
set_option maxRecDepth 100000
theorem x_2 {x : Pk} (h : x.kind = 2) : builtF x 0 = 2 := by rw [built_hd (by omega), raw_0, h]
theorem find_tk {p : Pl} {a q : Int} {s : Nat} (h : findO p a q = some s) : takesB (p.s s).st = true := by
 unfold findO at h
 have h1 := List.find?_some h
 unfold tkS at h1
 cases ht : takesB (p.s s).st
 ·rw [ht] at h1; simp at h1
 ·rfl
theorem bt_bare (x : Pk) (b : Bool) (h : x.kind = 1) : builtF { x with bare := b } = builtF x := by
 unfold builtF
 rw [if_neg (fun e => absurd (h.symm.trans e.1) (by decide)), if_neg (fun e => absurd (h.symm.trans e.1) (by decide))]
 rfl
theorem ub_ {z : Int} (h : U32 z) : IsB (mkBO 1 z) := mkB_B ⟨by decide, by decide⟩ h
/-- What the backend sends, as a stream, as a gram; what comes of it; what the client sends back. -/
def gS (x : Pk) (m : Int) : Pk := { x with kind := 1, life := 9, flags := 2, label := 0, no := 12, go := mkBO m 7 }
def gG (x : Pk) : Pk := { x with kind := 2, life := 9, flags := 0, label := 0, bare := false, no := 0, go := fun _ => 0 }
def yS (p : Pl) (x : Pk) (z : Int) : Pk := { kind := 1, life := 8, src := p.a, dst := x.dst, fp := p.p, tp := x.tp, flags := 2, no := 12, go := mkBO z 7, nd := x.nd, gd := x.gd }
def yG (p : Pl) (x : Pk) (z : Int) : Pk := { kind := 2, life := 8, src := p.a, dst := x.dst, fp := p.p, tp := x.tp, label := z, nd := x.nd, gd := x.gd }
def bS (p : Pl) (x : Pk) (z : Int) : Pk := { kind := 1, life := 5, src := x.dst, dst := p.a, fp := x.tp, tp := p.p, flags := 2, no := 12, go := mkBO 1 z }
def bG (p : Pl) (x : Pk) (z : Int) : Pk := { kind := 2, life := 5, src := x.dst, dst := p.a, fp := x.tp, tp := p.p, label := z }
theorem bS_E {p : Pl} (hp : Pt p) {x : Pk} (hI : Onn p x) {z : Int} (hz : U32 z) : buildE (bS p x z) = 0 ∧ Clean (bS p x z) := by
 have hd := hI.dst
 have hM : Mkd (bS p x z) := ⟨.inl rfl, hp.2.2.2.2, by show (0 : Int) ≤ 2 ∧ (2 : Int) ≤ 15; decide, by show (0 : Int) ≤ 0 ∧ (0 : Int) ≤ 65535; decide, ⟨fun h => absurd rfl h, fun _ => ⟨rfl, rfl⟩, rfl⟩, ub_ hz, c0B_, by show 12 ≤ 40; decide, by show 0 ≤ 200; decide⟩
 have h := kd_E hM (by show (0 : Int) ≤ 5 ∧ (5 : Int) ≤ 255; decide) rfl (by show 0 ≤ x.dst ∧ x.dst ≤ _; omega) hp.2.2.2.1 hI.md.tp
 exact ⟨h.1, h.2.1⟩
theorem bG_E {p : Pl} (hp : Pt p) {x : Pk} (hI : Onn p x) {z : Int} (hz : 0 ≤ z ∧ z ≤ 65535) : buildE (bG p x z) = 0 ∧ Clean (bG p x z) := by
 have hd := hI.dst
 have hM : Mkd (bG p x z) := ⟨.inr rfl, hp.2.2.2.2, by show (0 : Int) ≤ 0 ∧ (0 : Int) ≤ 15; decide, hz, ⟨fun _ => ⟨rfl, rfl⟩, fun h => absurd rfl h, rfl⟩, c0B_, c0B_, by show 0 ≤ 40; decide, by show 0 ≤ 200; decide⟩
 have h := kd_E hM (by show (0 : Int) ≤ 5 ∧ (5 : Int) ≤ 255; decide) rfl (by show 0 ≤ x.dst ∧ x.dst ≤ _; omega) hp.2.2.2.1 hI.md.tp
 exact ⟨h.1, h.2.1⟩
structure Nxt (p q : Pl) : Prop where
 pt : Pt q
 pa : q.a = p.a
 pp : q.p = p.p
 ps : q.s = p.s
 ky : keyOf q.r (p.r.e % 4) = some p.r.c
theorem go_read {p q : Pl} (hn : Nxt p q) {x : Pk} {s : Nat} (hs : s < 64) {T kd : Int} (hT : T = 4096 ∨ T = 256) : readC T q.r kd (flP q x.dst x.tp) (cok T p.r.c kd (flP p x.dst x.tp) s (p.r.e % 4)) = some (s : Int) := by
 have hf : flP q x.dst x.tp = flP p x.dst x.tp := by unfold flP; rw [hn.pa, hn.pp]
 rw [hf]
 exact read_cok T q.r p.r.c kd _ s _ hT (by omega) (by omega) hn.ky
theorem goes_s {p q : Pl} (hp : Pt p) (hn : Nxt p q) (h10 : p.a = 10) {x : Pk} (hI : Onn p x) {m : Int} (hm : U32 m) {s : Nat} (hf : findO p x.src x.fp = some s) :
 buildE (gS x m) = 0 ∧ IsB (builtF (gS x m)) ∧ builtF (gS x m) 0 = 1 ∧ lenP (gS x m) ≤ 1500 ∧ s < 64 ∧ ∃ z F nr, U32 z ∧ takeT p true (fun _ => none) (builtF (gS x m)) (lenP (gS x m)) = ⟨0, -1, false, lenP (gS x m), F, nr⟩ ∧ IsB F ∧ parseE F (lenP (gS x m)) = 0 ∧ Pe (parseR F (lenP (gS x m))) (yS p x z) ∧
  buildE (bS p x z) = 0 ∧ IsB (builtF (bS p x z)) ∧ builtF (bS p x z) 0 = 1 ∧ lenP (bS p x z) = 36 ∧ ∃ F2, takeT q true (fun _ => none) (builtF (bS p x z)) 36 = ⟨0, s, true, 36, F2, fun _ => none⟩ := by
 have h7 : U32 7 := ⟨by decide, by decide⟩
 have h1 : U32 1 := ⟨by decide, by decide⟩
 have hd := hI.dst
 have hs := find_lt hf
 obtain ⟨k, hk6, e1, e2⟩ := hI.sl
 have hsk := hp.1 k (by omega)
 obtain ⟨X, hX⟩ : ∃ X : Pk, X = { gS x m with bare := false } := ⟨_, rfl⟩
 have hB : builtF (gS x m) = builtF X := by rw [hX]; exact (bt_bare (gS x m) false rfl).symm
 have hL : lenP (gS x m) = lenP X := by rw [hX]; rfl
 have hE0 : buildE (gS x m) = buildE X := by rw [hX]; rfl
 rw [hB, hL, hE0]
 have kX : X.kind = 1 := by rw [hX]; rfl
 have gX : X.go = mkBO m 7 := by rw [hX]; rfl
 have nX : X.no = 12 := by rw [hX]; rfl
 have hM : Mkd X := by rw [hX]; exact ⟨.inl rfl, hI.md.tp, by show (0 : Int) ≤ 2 ∧ (2 : Int) ≤ 15; decide, by show (0 : Int) ≤ 0 ∧ (0 : Int) ≤ 65535; decide, ⟨fun h => absurd rfl h, fun _ => ⟨rfl, rfl⟩, hI.md.cl.2.2⟩, mkB_B hm h7, hI.md.gd, by show 12 ≤ 40; decide, hI.md.nd⟩
 obtain ⟨hE, hC, _, hl, _⟩ := kd_E hM (by rw [hX]; show (0 : Int) ≤ 9 ∧ (9 : Int) ≤ 255; decide) (by rw [hX]; exact hI.pc) (by rw [hX]; show 0 ≤ x.src ∧ x.src ≤ _; rw [e1]; exact hsk.1) (by rw [hX]; show 0 ≤ x.dst ∧ x.dst ≤ _; omega) (by rw [hX]; show 0 ≤ x.fp ∧ x.fp ≤ _; rw [e2]; exact hsk.2.1)
 have hg := builtF_B hM.gd hM.go hE
 have hq := built_parseE hM.gd hM.go hE
 have pe := built_parse hM.gd hM.go hE hC
 have h0 : builtF X 0 = 1 := x_0 kX
 refine ⟨hE, hg, h0, hl, hs, ?_⟩
 have hst : stO X = (4, m, 7, true) := by unfold stO; rw [nX, gX]; exact stamp_mk0 hm h7
 obtain ⟨c, hc⟩ : ∃ c, c = cok 4096 p.r.c 1 (flP p x.dst x.tp) s (p.r.e % 4) := ⟨_, rfl⟩
 have hcp := cok_parts 4096 p.r.c 1 (flP p x.dst x.tp) s (p.r.e % 4) (.inl rfl) (by omega) (by omega)
 rw [← hc] at hcp
 have hcb : 0 ≤ c ∧ c < 1048576 := ⟨hcp.2.2.2.1, by have := hcp.2.2.2.2; omega⟩
 have hok : okC p X s = c := by unfold okC; rw [hc, kX, hX]; rfl
 have hz : U32 (putV m c) := by unfold U32 at hm ⊢; unfold putV; omega
 obtain ⟨q1, q2, q3, q4, q5⟩ := an_read (s := true) (ad := p.a) (po := p.p) hg hq pe (by rw [hX]; show (1 : Int) < 9; decide) (by omega) hp.2.2.2.1 hp.2.2.2.2
 have hl24 : 24 + X.no ≤ lenP X := by have := (rd_len hg hq).2.2.2.2.2.2.1 (by rw [h0]); rw [pe.no] at this; exact this
 have hw := wr_opt (i := 4) (v := putV m c) q1 (by rw [q5, h0]) (by rw [q3.no]; show _ ≤ X.no; omega)
 have hT : takeT p true (fun _ => none) (builtF X) (lenP X) = ⟨0, -1, false, lenP X, wrF (natF (ageF (builtF X)) (lenP X) true p.a p.p) (lenP X) (24 + 4) 4 (putV m c), setN (fun _ => none) s m⟩ := by
  rw [take_out hq pe (by rw [hX]; exact hI.pc) (by rw [hX]; show (1 : Int) < 9; decide) (by omega) (by rw [hX, h10]; intro h; have h2 : x.dst = 10 := h.1; omega) (by rw [hX]; exact hf)]
  unfold outT
  dsimp only
  rw [if_neg (by omega), hst, if_pos rfl, hok]
  rfl
 have hcl := hI.md.cl.2.2
 have pw := pe_trans hw (pe_go q3)
 have py : Pe (parseR (wrF (natF (ageF (builtF X)) (lenP X) true p.a p.p) (lenP X) (24 + 4) 4 (putV m c)) (lenP X)) (yS p x (putV m c)) :=
  ⟨pw.kind.trans kX, pw.life.trans (by rw [hX]; show (9 : Int) - 1 = 8; decide), pw.piece.trans (by rw [hX]; exact hI.pc), pw.src, pw.dst.trans (by rw [hX]; rfl), pw.fp, pw.tp.trans (by rw [hX]; rfl), pw.flags.trans (by rw [hX]; rfl), pw.label.trans (by rw [hX]; rfl), pw.bare.trans (by rw [hX]; rfl), pw.code.trans (by rw [hX]; exact hcl), pw.no.trans nX, fun j hj => (pw.go j hj).trans (by
   have hj2 : j < 12 := by have e := pw.no.trans nX; rw [← e]; exact hj
   show putF X.go 4 4 (putV m c) j = _
   rw [gX]
   exact put_mk4 hz j hj2), pw.nd.trans (by rw [hX]; rfl), fun j hj => (pw.gd j hj).trans (by rw [hX]; rfl)⟩
 obtain ⟨bE, bC⟩ := bS_E hp hI hz
 have bg := builtF_B (p := bS p x (putV m c)) c0B_ (ub_ hz) bE
 have bq := built_parseE (p := bS p x (putV m c)) c0B_ (ub_ hz) bE
 have bpe := built_parse (p := bS p x (putV m c)) c0B_ (ub_ hz) bE bC
 refine ⟨putV m c, _, _, hz, hT, wr_B q2 _ _ _ _, wr_parse (by omega) q1, py, bE, bg, x_0 rfl, rfl, ?_⟩
 have hca : carT (bS p x (putV m c)) = some c := by
  have hs2 : stO (bS p x (putV m c)) = (4, 1, putV m c, true) := stamp_mk0 h1 hz
  unfold carT
  rw [if_neg (by show ¬ (1 : Int) = 2; decide), if_neg (by show ¬ (2 : Int) = 1; decide), hs2, if_pos rfl]
  show some (putV m c % 1048576) = some c
  rw [show putV m c % 1048576 = c from by unfold putV; omega]
 have hb : byT q (bS p x (putV m c)) = some (s : Int) := by_some hca (by rw [hc]; exact go_read hn hs (.inl rfl)) (by rw [hn.ps]; exact find_tk hf)
 have h36 : lenP (bS p x (putV m c)) = 36 := rfl
 rw [h36] at bq bpe
 exact ⟨_, (take_in bq bpe rfl (by show (1 : Int) < 5; decide) (by show (1 : Int) ≠ 3; decide) ⟨hn.pa.symm, hn.pp.symm⟩).trans (in_some hb)⟩
theorem goes_g {p q : Pl} (hp : Pt p) (hn : Nxt p q) (h10 : p.a = 10) {x : Pk} (hI : Onn p x) {s : Nat} (hf : findO p x.src x.fp = some s) :
 buildE (gG x) = 0 ∧ IsB (builtF (gG x)) ∧ builtF (gG x) 0 = 2 ∧ lenP (gG x) ≤ 1500 ∧ s < 64 ∧ ∃ z F nr, (0 ≤ z ∧ z ≤ 65535) ∧ takeT p true (fun _ => none) (builtF (gG x)) (lenP (gG x)) = ⟨0, -1, false, lenP (gG x), F, nr⟩ ∧ IsB F ∧ parseE F (lenP (gG x)) = 0 ∧ Pe (parseR F (lenP (gG x))) (yG p x z) ∧
  buildE (bG p x z) = 0 ∧ IsB (builtF (bG p x z)) ∧ builtF (bG p x z) 0 = 2 ∧ lenP (bG p x z) = 24 ∧ ∃ t, takeT q true (fun _ => none) (builtF (bG p x z)) 24 = t ∧ (z ≠ 0 → t.d = 0 ∧ t.s = s ∧ t.c = true) := by
 have hd := hI.dst
 have hs := find_lt hf
 obtain ⟨k, hk6, e1, e2⟩ := hI.sl
 have hsk := hp.1 k (by omega)
 have kX : (gG x).kind = 2 := rfl
 have hM : Mkd (gG x) := ⟨.inr rfl, hI.md.tp, by show (0 : Int) ≤ 0 ∧ (0 : Int) ≤ 15; decide, by show (0 : Int) ≤ 0 ∧ (0 : Int) ≤ 65535; decide, ⟨fun _ => ⟨rfl, rfl⟩, fun h => absurd rfl h, hI.md.cl.2.2⟩, c0B_, hI.md.gd, by show 0 ≤ 40; decide, hI.md.nd⟩
 obtain ⟨hE, hC, _, hl, _⟩ := kd_E hM (by show (0 : Int) ≤ 9 ∧ (9 : Int) ≤ 255; decide) hI.pc (by show 0 ≤ x.src ∧ x.src ≤ _; rw [e1]; exact hsk.1) (by show 0 ≤ x.dst ∧ x.dst ≤ _; omega) (by show 0 ≤ x.fp ∧ x.fp ≤ _; rw [e2]; exact hsk.2.1)
 have hg := builtF_B hM.gd hM.go hE
 have hq := built_parseE hM.gd hM.go hE
 have pe := built_parse hM.gd hM.go hE hC
 have h0 : builtF (gG x) 0 = 2 := x_2 rfl
 refine ⟨hE, hg, h0, hl, hs, ?_⟩
 obtain ⟨c, hc⟩ : ∃ c, c = cok 256 p.r.c 2 (flP p x.dst x.tp) s (p.r.e % 4) := ⟨_, rfl⟩
 have hcp := cok_parts 256 p.r.c 2 (flP p x.dst x.tp) s (p.r.e % 4) (.inr rfl) (by omega) (by omega)
 rw [← hc] at hcp
 have hcb : 0 ≤ c ∧ c ≤ 65535 := ⟨hcp.2.2.2.1, by have := hcp.2.2.2.2; omega⟩
 have hok : okC p (gG x) s = c := hc.symm
 obtain ⟨q1, q2, q3, q4, q5⟩ := an_read (s := true) (ad := p.a) (po := p.p) hg hq pe (by show (1 : Int) < 9; decide) (by omega) hp.2.2.2.1 hp.2.2.2.2
 obtain ⟨w1, w2, w3⟩ := wr_lab (v := c) q2 q1 (by rw [q5, h0]) hcb
 have hT : takeT p true (fun _ => none) (builtF (gG x)) (lenP (gG x)) = ⟨0, -1, false, lenP (gG x), wrF (natF (ageF (builtF (gG x))) (lenP (gG x)) true p.a p.p) (lenP (gG x)) 20 2 c, fun _ => none⟩ := by
  rw [take_out hq pe hI.pc (by show (1 : Int) < 9; decide) (by omega) (by rw [h10]; intro h; have h2 : x.dst = 10 := h.1; omega) hf]
  unfold outT
  dsimp only
  rw [if_pos kX, hok]
 have hcl := hI.md.cl.2.2
 have pw := pe_trans w3 (pe_lab q3 c)
 have py : Pe (parseR (wrF (natF (ageF (builtF (gG x))) (lenP (gG x)) true p.a p.p) (lenP (gG x)) 20 2 c) (lenP (gG x))) (yG p x c) :=
  ⟨pw.kind, pw.life.trans (by show (9 : Int) - 1 = 8; decide), pw.piece.trans hI.pc, pw.src, pw.dst, pw.fp, pw.tp, pw.flags, pw.label, pw.bare, pw.code.trans hcl, pw.no, fun j hj => by rw [pw.no] at hj; exact absurd hj (by show ¬ j < 0; omega), pw.nd, pw.gd⟩
 obtain ⟨bE, bC⟩ := bG_E hp hI hcb
 have bg := builtF_B (p := bG p x c) c0B_ c0B_ bE
 have bq := built_parseE (p := bG p x c) c0B_ c0B_ bE
 have bpe := built_parse (p := bG p x c) c0B_ c0B_ bE bC
 refine ⟨c, _, _, hcb, hT, wr_B q2 _ _ _ _, w1, py, bE, bg, x_2 rfl, rfl, _, rfl, fun hz => ?_⟩
 have hca : carT (bG p x c) = some c := by
  unfold carT
  rw [if_pos (by show (2 : Int) = 2; rfl), if_neg (by show ¬ c = 0; exact hz)]
  rfl
 have hb : byT q (bG p x c) = some (s : Int) := by_some hca (by rw [hc]; exact go_read hn hs (.inr rfl)) (by rw [hn.ps]; exact find_tk hf)
 have h24 : lenP (bG p x c) = 24 := rfl
 rw [h24] at bq bpe
 rw [(take_in bq bpe rfl (by show (1 : Int) < 5; decide) (by show (2 : Int) ≠ 3; decide) ⟨hn.pa.symm, hn.pp.symm⟩).trans (in_some hb)]
 exact ⟨rfl, rfl, rfl⟩
end Go.Proofs.YteapnfdpkjbfhaaGreat

namespace Go.Proofs.YteapnfdpkjbfhaaGreat.planeGoes
set_option linter.unusedVariables false
set_option linter.unusedSimpArgs false
open Go.RowKit Go.ChangeShapes Go.WideShapes Go.ChangeAt
theorem rfind_fa (p : Pl) (a q : Int) (w : World) : Calls Tryz.prog 24 #[.agg (FA 330 (_root_.Go.Proofs.YteapnfdpkjbfhaaGreat.pc p)), .int .i64 a, .int .i64 q] w fun x w' => x = .returned (fdV (findO p a q)) ∧ Below w.heap.size w w' := rfind_any p a q w
attribute [local irreducible] FA FL mkBO
set_option maxRecDepth 100000 in
set_option maxHeartbeats 8000000 in
theorem walk (W : World) (A1 : Option Addr) (n1 c1 : Nat) (g1 : Nat → Int) (hn1 : n1 ≤ c1) (hc1 : c1 ≤ maxLen) (hr1 : Is W A1 n1 g1) (hg1 : IsI g1) (hl1 : ∀ ad, A1 = some ad → 0 < n1 → ad.block < W.heap.size) (re1 : c1 * 8 ≤ 140737488351232) (a0 : Int) (r_a0 : -9223372036854775808 ≤ a0 ∧ a0 ≤ 9223372036854775807) (b0 : Int) (r_b0 : -9223372036854775808 ≤ b0 ∧ b0 ≤ 9223372036854775807) (d0 : Int) (r_d0 : -9223372036854775808 ≤ d0 ∧ d0 ≤ 9223372036854775807) (e0 k0 : Bool) :
 Calls Tryz.prog 4 #[.slice A1 n1 c1, .int .i64 a0, .int .i64 b0, .int .i64 d0, .bool e0, .bool k0] W fun e w' => e = .returned (.bool true) ∧ Below W.heap.size W w' := by
 obtain ⟨p, hp⟩ : ∃ p, p = mkP g1 (min n1 60) := ⟨_, rfl⟩
 have HPI := hid (show Pinv p 60 from by rw [hp]; exact (mkP_inv g1 _).mono (by omega))
 have HPC := hid (show p.a = 10 ∧ p.p = 80 from by rw [hp]; exact mkP_ap g1 _)
 have HPT := hid (show Pt p from by rw [hp]; exact mkP_pt g1 _ (by omega))
 have HPW := hid (show Pw p from by rw [hp]; exact mk_pw g1 _)
 have MK := hid (fun (w : World) (hb : Below W.heap.size W w) => (show Calls Tryz.prog 10 #[.slice A1 n1 c1, .int .i64 60] w fun x w' => x = .returned (.agg (FA 330 (pc p))) ∧ Below w.heap.size w w' from by rw [hp]; exact mk_top W A1 n1 c1 g1 hr1 hl1 hn1 hc1 60 (by decide) w hb))
 clear hp hr1 hl1 hg1 re1 hn1 hc1
 have S0 : Hid (HS [] W W []) := hid HS.start
 obtain ⟨y, hy⟩ : ∃ y, y = kyN d0 := ⟨_, rfl⟩
 have LK := hid (fun (w : World) => (show Calls Tryz.prog 20 #[.int .i64 d0] w fun e w' => e = .returned (.agg #[.int .u64 y.a, .int .u64 y.b]) ∧ Below w.heap.size w w' from by rw [hy]; exact lkey_any d0 w))
 clear hy
 obtain ⟨q, hq⟩ : ∃ q : Pl, q = ⟨p.v + 1, p.a, p.p, p.s, ⟨p.r.e + 1, p.r.c, p.r.n, y⟩⟩ := ⟨_, rfl⟩
 have hap := rot_ap p y
 rw [← hq] at hap
 have hpB := HPI.out.pb (by omega)
 have APQ := hid (fun (w : World) => (show Calls Tryz.prog 19 #[.agg (FA 330 (pc p)), .agg #[.int .i64 6, .int .i64 0, .int .i64 0, .int .i64 0, .int .i64 0, .int .u64 y.a, .int .u64 y.b]] w fun x w' => x = .returned (.tuple #[.agg (FA 330 (pc q)), .int .i64 0]) ∧ Below w.heap.size w w' from by have h := rapply_fb p ⟨6, 0, 0, 0, 0, y⟩ hpB w; rw [hap] at h; exact h))
 have h0 : (apR p ⟨6, 0, 0, 0, 0, y⟩).2 = 0 := by rw [hap]
 have e1 : q = (apR p ⟨6, 0, 0, 0, 0, y⟩).1 := by rw [hap]
 have qI := apR_inv HPI.out h0
 rw [← e1] at qI
 have qw := HPW.out.step h0
 rw [← e1] at qw
 have QPT : Pt q := ⟨qw, ⟨by have := qI.2.1; omega, by have := qI.2.1; omega⟩, qI.st, by rw [hq]; exact HPT.out.2.2.2.1, by rw [hq]; exact HPT.out.2.2.2.2⟩
 have HQW := hid qw
 have NXQ := hid (show Nxt p q from ⟨QPT, by rw [hq], by rw [hq], by rw [hq], by have h := keyOf_prev q.r; rw [hq] at h ⊢; rw [show (p.r.e + 1 - 1 : Int) = p.r.e by omega] at h; exact h⟩)
 have NXP := hid (show Nxt p p from ⟨HPT.out, rfl, rfl, rfl, keyOf_now p.r⟩)
 have HN0 := hid (show Nt32 (fun _ => none) from fun j v h => by cases h)
 clear hap hpB h0 e1 qI qw QPT hq
 obtain ⟨m, hm⟩ : ∃ m, m = IntKind.u32.wrap b0 := ⟨_, rfl⟩
 have hu : U32 m := by rw [hm, IntKind.wrap_u32]; unfold U32; omega
 have HM := hid hm.symm
 have HU := hid hu
 clear hm hu
 go_enter Tryz.func4, Tryz.ntmps4
 go_wp2_with fail
 refine (known_9 _).mono ?_
 rintro e w1 ⟨rfl, hb⟩
 have S1 := hid (S0.out.below hb)
 clear hb S0
 go_simp
 go_wp2_with fail
 refine (MK.out _ S1.out.bl).mono ?_
 rintro e w2 ⟨rfl, hb⟩
 have S2 := hid (S1.out.below hb)
 clear hb S1 MK
 go_simp
 go_upto_region 4 with (first | ((with_reducible refine wl_id ?_); refine wl_ow rfl (ow_alloc rfl (zpl2 _) (by omega) S2.out ?_); intro P w_ hZ _; have SA := hid hZ; clear hZ) | ((with_reducible refine wl_id ?_); refine wl_ow rfl (ow_store (A := []) 0 330 (pc p) (pc p) rfl rfl rfl SA.out (by omega) (fun j hj => patch_all _ _ _ j hj) info_pl2 (pc_one _) ?_); intro w_ hZ; have SX := hid hZ; clear hZ))
 have S3 := hid (SX.out)
 clear SX SA S2
 go_upto_region 5 with (first | ((with_reducible refine wl_id ?_); refine wl_ow rfl (ow_load 0 rfl 0 330 (pc p) rfl rfl S3.out (by omega) (fun j hj => by rw [Nat.zero_add]) Tryz.underlying33 rfl info_pl2 ?_)) | ((with_reducible refine wl_id ?_); refine wl_ow rfl (ow_alloc rfl (zpl2 _) (by omega) S3.out ?_); intro Y w_ hZ _; have SA := hid hZ; clear hZ) | ((with_reducible refine wl_id ?_); refine wl_ow rfl (ow_store (A := []) 0 330 (pc p) (pc p) rfl rfl rfl SA.out (by omega) (fun j hj => patch_all _ _ _ j hj) info_pl2 (pc_one _) ?_); intro w_ hZ; have SX := hid hZ; clear hZ))
 have S4 := hid (SX.out)
 clear SX SA S3
 try simp only [Act.put, List.setIfInBounds_toArray, List.set_cons_zero, List.set_cons_succ]
 go_upto_if 40 with (fail)
 go_cut [15, 16] from 40 to 52 (fun _ _ wx => ∃ r : Pl, Nxt p r ∧ Pw r ∧ HS [] W wx [thB Y 330 (pc r), thB P 330 (pc p)])
 case first =>
  cases e0
  ·go_wp2_with fail
   go_meet
   exact ⟨p, NXP.out, HPW.out, S4.out⟩
  ·go_upto_region 6 with (fail)
   refine wp_region_held_drew (S := fun (w' : World) => HS [] W w' [thB Y 330 (pc p), thB P 330 (pc p)]) (by kernel_rfl) ?_ (fun hHeld => ?_)
   ·exact S4.out.drew
   refine tk 0 (v := .agg (FA 330 (pc p))) rfl (by kernel_rfl) (by kernel_rfl) (by kernel_rfl) (fun _ _ _ h => h) rfl (fun w hSw => ex_load rfl rfl ((hSw.fb 1 rfl).load 0 330 (pc p) (by omega) (fun j hj => by rw [Nat.zero_add]) Tryz.underlying33 rfl info_pl2)) hHeld ?_; (try simp only [Act.put, List.setIfInBounds_toArray, List.set_cons_zero, List.set_cons_succ])
   refine tkq 1 hHeld ?_
   refine twoUp 2 8 rfl rfl (by kernel_rfl) rfl rfl (fun K hK => ?_) (fun K hK => ?_)
   ·go_simp
    refine (LK.out _).mono ?_
    rintro e w23 ⟨rfl, hb⟩
    try go_wp2_with fail
    have zhz0 := HS.below hHeld hb
    refine hK.out _ _ zhz0 (fun hz0 => ?_)
    clear hK hb
    try simp only [Act.put, List.setIfInBounds_toArray, List.set_cons_zero, List.set_cons_succ]
    refine tkq 3 hz0 ?_
    refine twoUp 4 8 rfl rfl (by kernel_rfl) rfl rfl (fun K hK => ?_) (fun K hK => ?_)
    ·go_simp
     refine (APQ.out _).mono ?_
     rintro e w24 ⟨rfl, hb⟩
     try go_wp2_with fail
     have zhz1 := HS.below zhz0 hb
     refine hK.out _ _ zhz1 (fun hz1 => ?_)
     clear hK hb
     try simp only [Act.put, List.setIfInBounds_toArray, List.set_cons_zero, List.set_cons_succ]
     refine tkq 5 hz1 ?_
     refine tkq 6 hz1 ?_
     refine tkq 7 hz1 ?_
     refine only 8 rfl (by kernel_rfl) rfl (fun K hK => ?_)
     refine ow_alloc rfl (zpl2 _) (by omega) zhz1 (fun Q w25 zhz2 _ => ?_)
     refine hK.out _ _ zhz2.tail (fun hz2 => ?_)
     clear hK
     try simp only [Act.put, List.setIfInBounds_toArray, List.set_cons_zero, List.set_cons_succ]
     refine only 9 rfl (by kernel_rfl) rfl (fun K hK => ?_)
     refine ow_store (A := []) 0 330 (pc q) (pc q) rfl rfl rfl zhz2 (by omega) (fun j hj => patch_all _ _ _ j hj) info_pl2 (pc_one _) (fun w26 hY => ?_)
     refine hK.out _ _ hY.tail (fun h9 => ?_)
     clear hK
     try simp only [Act.put, List.setIfInBounds_toArray, List.set_cons_zero, List.set_cons_succ]
     refine tkq 10 h9 ?_
     have SQ := hid hY
     refine wpAnyH_done (by kernel_rfl) ?_ _
     go_wp2_with (first | ((with_reducible refine wl_id ?_); refine wl_ow rfl (ow_load 0 rfl 0 330 (pc q) rfl rfl SQ.out (by omega) (fun j hj => by rw [Nat.zero_add]) Tryz.underlying33 rfl info_pl2 ?_)) | ((with_reducible refine wl_id ?_); refine wl_ow rfl (ow_store (A := [thB Q 330 (pc q)]) 0 330 (pc q) (pc q) rfl rfl rfl SQ.out (by omega) (fun j hj => patch_all _ _ _ j hj) info_pl2 (pc_one _) ?_); intro w_ hZ; have SX := hid hZ; clear hZ))
     go_meet
     exact ⟨q, NXQ.out, HQW.out, HS.drop (A := []) (t := thB Q 330 (pc q)) SX.out⟩
    ·refine ow_alloc rfl (zpl2 _) (by omega) zhz0 (fun Q w25 zhz1 _ => ?_)
     refine hK.out _ _ zhz1.tail (fun hz1 => ?_)
     clear hK
     try simp only [Act.put, List.setIfInBounds_toArray, List.set_cons_zero, List.set_cons_succ]
     refine only 4 rfl (by kernel_rfl) rfl (fun K hK => ?_)
     go_simp
     refine (APQ.out _).mono ?_
     rintro e w24 ⟨rfl, hb⟩
     try go_wp2_with fail
     have zhz2 := HS.below zhz1 hb
     refine hK.out _ _ zhz2.tail (fun hz2 => ?_)
     clear hK hb
     try simp only [Act.put, List.setIfInBounds_toArray, List.set_cons_zero, List.set_cons_succ]
     refine tkq 5 hz2 ?_
     refine tkq 6 hz2 ?_
     refine tkq 7 hz2 ?_
     refine only 9 rfl (by kernel_rfl) rfl (fun K hK => ?_)
     refine ow_store (A := []) 0 330 (pc q) (pc q) rfl rfl rfl zhz2 (by omega) (fun j hj => patch_all _ _ _ j hj) info_pl2 (pc_one _) (fun w26 hY => ?_)
     refine hK.out _ _ hY.tail (fun h9 => ?_)
     clear hK
     try simp only [Act.put, List.setIfInBounds_toArray, List.set_cons_zero, List.set_cons_succ]
     refine tkq 10 h9 ?_
     have SQ := hid hY
     refine wpAnyH_done (by kernel_rfl) ?_ _
     go_wp2_with (first | ((with_reducible refine wl_id ?_); refine wl_ow rfl (ow_load 0 rfl 0 330 (pc q) rfl rfl SQ.out (by omega) (fun j hj => by rw [Nat.zero_add]) Tryz.underlying33 rfl info_pl2 ?_)) | ((with_reducible refine wl_id ?_); refine wl_ow rfl (ow_store (A := [thB Q 330 (pc q)]) 0 330 (pc q) (pc q) rfl rfl rfl SQ.out (by omega) (fun j hj => patch_all _ _ _ j hj) info_pl2 (pc_one _) ?_); intro w_ hZ; have SX := hid hZ; clear hZ))
     go_meet
     exact ⟨q, NXQ.out, HQW.out, HS.drop (A := []) (t := thB Q 330 (pc q)) SX.out⟩
   ·refine ow_alloc rfl (zpl2 _) (by omega) hHeld (fun Q w25 zhz0 _ => ?_)
    refine hK.out _ _ zhz0.tail (fun hz0 => ?_)
    clear hK
    try simp only [Act.put, List.setIfInBounds_toArray, List.set_cons_zero, List.set_cons_succ]
    refine only 2 rfl (by kernel_rfl) rfl (fun K hK => ?_)
    go_simp
    refine (LK.out _).mono ?_
    rintro e w23 ⟨rfl, hb⟩
    try go_wp2_with fail
    have zhz1 := HS.below zhz0 hb
    refine hK.out _ _ zhz1.tail (fun hz1 => ?_)
    clear hK hb
    try simp only [Act.put, List.setIfInBounds_toArray, List.set_cons_zero, List.set_cons_succ]
    refine tkq 3 hz1 ?_
    refine only 4 rfl (by kernel_rfl) rfl (fun K hK => ?_)
    go_simp
    refine (APQ.out _).mono ?_
    rintro e w24 ⟨rfl, hb⟩
    try go_wp2_with fail
    have zhz2 := HS.below zhz1 hb
    refine hK.out _ _ zhz2.tail (fun hz2 => ?_)
    clear hK hb
    try simp only [Act.put, List.setIfInBounds_toArray, List.set_cons_zero, List.set_cons_succ]
    refine tkq 5 hz2 ?_
    refine tkq 6 hz2 ?_
    refine tkq 7 hz2 ?_
    refine only 9 rfl (by kernel_rfl) rfl (fun K hK => ?_)
    refine ow_store (A := []) 0 330 (pc q) (pc q) rfl rfl rfl zhz2 (by omega) (fun j hj => patch_all _ _ _ j hj) info_pl2 (pc_one _) (fun w26 hY => ?_)
    refine hK.out _ _ hY.tail (fun h9 => ?_)
    clear hK
    try simp only [Act.put, List.setIfInBounds_toArray, List.set_cons_zero, List.set_cons_succ]
    refine tkq 10 h9 ?_
    have SQ := hid hY
    refine wpAnyH_done (by kernel_rfl) ?_ _
    go_wp2_with (first | ((with_reducible refine wl_id ?_); refine wl_ow rfl (ow_load 0 rfl 0 330 (pc q) rfl rfl SQ.out (by omega) (fun j hj => by rw [Nat.zero_add]) Tryz.underlying33 rfl info_pl2 ?_)) | ((with_reducible refine wl_id ?_); refine wl_ow rfl (ow_store (A := [thB Q 330 (pc q)]) 0 330 (pc q) (pc q) rfl rfl rfl SQ.out (by omega) (fun j hj => patch_all _ _ _ j hj) info_pl2 (pc_one _) ?_); intro w_ hZ; have SX := hid hZ; clear hZ))
    go_meet
    exact ⟨q, NXQ.out, HQW.out, HS.drop (A := []) (t := thB Q 330 (pc q)) SX.out⟩
 case rest =>
  obtain ⟨r, hr, hrw, hz⟩ := hcut
  have S5 := hid (hz)
  have HNX := hid hr
  have HRW := hid hrw
  clear hr hrw hz S4 NXP NXQ LK APQ HQW
  go_wp2_with fail
  refine (plane_new S5.out).mono ?_
  rintro e w80 ⟨pb, rfl, hz⟩
  have S6 := hid (hz)
  clear hz S5
  go_simp
  go_wp2_with fail
  refine (plane_new S6.out).mono ?_
  rintro e w81 ⟨qb, rfl, hz⟩
  have S7 := hid (hz)
  clear hz S6
  go_simp
  go_upto_region 13 with (fail)
  go_wp2_with ((with_reducible refine wl_id ?_); refine wl_ow rfl (ow_load 3 rfl 0 330 (pc p) rfl rfl S7.out (by omega) (fun j hj => by rw [Nat.zero_add]) Tryz.underlying33 rfl info_pl2 ?_))
  refine (c_load (A := [thB qb 130 (plc none false nr0)]) (B := [thB Y 330 (pc r), thB P 330 (pc p)]) (nr := fun _ => none) S7.out p HPW.out).mono ?_
  rintro e w90 ⟨rfl, sb, wb, hne, hz⟩
  have S8 : Hid (HS [] W w90 [thS sb wb p, thB qb 130 (plc none false nr0), thB pb 130 (plf sb (fun _ => none)), thB Y 330 (pc r), thB P 330 (pc p)]) := hid (hz)
  clear hz S7
  have HNE0 := hid hne
  clear hne
  go_simp
  go_upto_region 14 with (fail)
  go_wp2_with ((with_reducible refine wl_id ?_); refine wl_ow rfl (ow_load 3 rfl 0 330 (pc r) rfl rfl S8.out (by omega) (fun j hj => by rw [Nat.zero_add]) Tryz.underlying33 rfl info_pl2 ?_))
  refine (c_load (A := [thS sb wb p]) (B := [thB pb 130 (plf sb (fun _ => none)), thB Y 330 (pc r), thB P 330 (pc p)]) (nr := fun _ => none) S8.out r HRW.out).mono ?_
  rintro e w91 ⟨rfl, sc, wd, hne, hz⟩
  have S9 : Hid (HS [] W w91 [thS sc wd r, thS sb wb p, thB qb 130 (plf sc (fun _ => none)), thB pb 130 (plf sb (fun _ => none)), thB Y 330 (pc r), thB P 330 (pc p)]) := hid (hz)
  clear hz S8
  have HNE1 := hid hne
  clear hne
  go_simp
  go_upto_region 15 with (fail)
  have S10 := hid (HS.drop (A := [_, _, _, _]) S9.out)
  dsimp only [List.cons_append, List.nil_append] at S10
  clear S9 HPW HRW
  go_wp2_with ((with_reducible refine wl_id ?_); refine wl_ow rfl (ow_load 4 rfl 0 330 (pc p) rfl rfl S10.out (by omega) (fun j hj => by rw [Nat.zero_add]) Tryz.underlying33 rfl info_pl2 ?_))
  refine (c_out S10.out p HPT.out a0 b0 r_a0 r_b0).mono ?_
  rintro e w4 ⟨x, AO, cO, AD, cD, bD, rfl, hcO, hI, hz⟩
  have S11 := hid (hz)
  clear hz hcO S10
  have HI := hid hI
  clear hI
  go_simp
  go_upto_region 16 with (first | ((with_reducible refine wl_id ?_); refine wl_ow rfl (ow_allocC rfl (zPk _) (by simp) S11.out ?_); intro X w_ hZ _; have SY := hid hZ; clear hZ) | ((with_reducible refine wl_id ?_); refine wl_ow rfl (ow_storeC (A := []) [.int .i64 x.kind, .int .i64 x.life, .int .i64 x.piece, .int .i64 x.src, .int .i64 x.dst, .int .i64 x.fp, .int .i64 x.tp, .int .i64 x.flags, .int .i64 x.label, .bool x.bare, .int .i64 x.code, .slice AO x.no cO, .slice AD x.nd cD] rfl rfl (rfl) SY.out rfl iPk rfl ?_); intro w_ hZ; have SX := hid hZ; clear hZ))
  have S12 := hid (SX.out)
  clear SX SY S11
  obtain ⟨fo, hfo⟩ : ∃ o, o = findO p x.src x.fp := ⟨_, rfl⟩
  have FND := hid (fun (w : World) => (show Calls Tryz.prog 24 #[.agg (FA 330 (pc p)), .int .i64 x.src, .int .i64 x.fp] w fun e w' => e = .returned (fdV fo) ∧ Below w.heap.size w w' from by rw [hfo]; exact rfind_fa p x.src x.fp w))
  have HFO := hid hfo.symm
  clear hfo
  have x3 := (S12.out.ce 0 rfl).2.1 3 _ rfl
  have x5 := (S12.out.ce 0 rfl).2.1 5 _ rfl
  go_wp2_with ((with_reducible refine wl_id ?_); refine wl_ow rfl (ow_load 7 rfl 0 330 (pc p) rfl rfl S12.out (by omega) (fun j hj => by rw [Nat.zero_add]) Tryz.underlying33 rfl info_pl2 ?_))
  refine (FND.out _).mono ?_
  rintro e w7 ⟨rfl, hb⟩
  have S13 := hid (S12.out.below hb)
  clear hb S12 x3 x5 FND
  unfold fdV
  go_simp
  go_upto_region 17 with (fail)
  have x4 := (S13.out.ce 0 rfl).2.1 4 _ rfl
  have x6 := (S13.out.ce 0 rfl).2.1 6 _ rfl
  have pq := (pool_fb (S13.out.fb 7 rfl)).c1
  have pr := (pool_fb (S13.out.fb 7 rfl)).c2
  have ed : (x.dst == p.a) = false := by have h1 := HI.out.dst; have h2 := HPC.out.1; simp; omega
  skip
  cases fo with
  | none =>
    go_wp2_with fail
    go_ret
    exact ⟨by simp, S13.out.bl⟩
  | some s =>
    dsimp only [Option.getD, Option.isSome, Option.map]
    go_upto_region 19 with (fail)
    clear x4 x6 pq pr ed
    have RMO := hid (fun (w : World) (L : List Th) (h : HS [] W w L) => (show Calls Tryz.prog 13 #[.int .u32 m, .int .u32 7] w fun x w' => ∃ A c, x = .returned (.slice A 12 c) ∧ HS [] W w' (thY (.slice A 12 c) 12 (mkBO m 7) :: L) ∧ 12 ≤ c from c_rmake h m 7 HU.out ⟨by decide, by decide⟩))
    have hm := HM.out
    go_wp2_with fail
    skip
    try rw [hm]
    refine (RMO.out _ _ S13.out).mono ?_
    rintro e w10 ⟨A1, c1, rfl, hz, hcc⟩
    have S14 := hid (hz)
    clear hz hcc hm RMO S13
    go_simp
    have yl := (S14.out.ce 1 rfl).1
    have yf0 := (S14.out.ce 1 rfl).2.2 0
    have yy0 := (S14.out.ce 1 rfl).2.1 0 _ rfl
    have yf1 := (S14.out.ce 1 rfl).2.2 1
    have yy1 := (S14.out.ce 1 rfl).2.1 1 _ rfl
    have yf7 := (S14.out.ce 1 rfl).2.2 7
    have yy7 := (S14.out.ce 1 rfl).2.1 7 _ rfl
    have yf8 := (S14.out.ce 1 rfl).2.2 8
    have yy8 := (S14.out.ce 1 rfl).2.1 8 _ rfl
    have yf11 := (S14.out.ce 1 rfl).2.2 11
    have yy11 := (S14.out.ce 1 rfl).2.1 11 _ rfl
    have yf9 := (S14.out.ce 1 rfl).2.2 9
    have yy9 := (S14.out.ce 1 rfl).2.1 9 _ rfl
    go_upto_region 20 with (fail)
    have SX := hid (show HS [] W (((((w10.setCell ⟨X, 1, none⟩ (.int .i64 9)).setCell ⟨X, 0, none⟩ (.int .i64 1)).setCell ⟨X, 11, none⟩ (.slice A1 12 c1)).setCell ⟨X, 8, none⟩ (.int .i64 0)).setCell ⟨X, 7, none⟩ (.int .i64 2)) [thY (.slice A1 12 c1) 12 (mkBO m 7), thC X [.int .i64 1, .int .i64 9, .int .i64 x.piece, .int .i64 x.src, .int .i64 x.dst, .int .i64 x.fp, .int .i64 x.tp, .int .i64 2, .int .i64 0, .bool x.bare, .int .i64 x.code, .slice A1 12 c1, .slice AD x.nd cD], thY (.slice AO x.no cO) x.no x.go, thR bD AD x.nd x.gd, thS sc wd r, thS sb wb p, thB qb 130 (plf sc (fun _ => none)), thB pb 130 (plf sb (fun _ => none)), thB P 330 (pc p)] from HS.setC (A := [thY (.slice A1 12 c1) 12 (mkBO m 7)]) (HS.setC (A := [thY (.slice A1 12 c1) 12 (mkBO m 7)]) (HS.setC (A := [thY (.slice A1 12 c1) 12 (mkBO m 7)]) (HS.setC (A := [thY (.slice A1 12 c1) 12 (mkBO m 7)]) (HS.setC (A := [thY (.slice A1 12 c1) 12 (mkBO m 7)]) (S14.out) 1 (.int .i64 9) (by simp)) 0 (.int .i64 1) (by simp)) 11 (.slice A1 12 c1) (by simp)) 8 (.int .i64 0) (by simp)) 7 (.int .i64 2) (by simp))
    clear yl yf0 yy0 yf1 yy1 yf7 yy7 yf8 yy8 yf11 yy11 yf9 yy9 S14
    skip
    generalize ((((w10.setCell ⟨X, 1, none⟩ (.int .i64 9)).setCell ⟨X, 0, none⟩ (.int .i64 1)).setCell ⟨X, 11, none⟩ (.slice A1 12 c1)).setCell ⟨X, 8, none⟩ (.int .i64 0)).setCell ⟨X, 7, none⟩ (.int .i64 2) = w11 at *
    have S15 := hid (SX.out)
    clear SX
    cases k0
    all_goals have HNXT := hid HNX.out.pt
    ·go_upto_region 22 with (fail)
     obtain ⟨hE, hGB, hG0, hL, hs64, z, F, nr, hz, hT, hFB, hFq, pe, hE2, hB2, hG2, hL2, F2, hT2⟩ := goes_s HPT.out HNX.out HPC.out.1 HI.out HU.out HFO.out
     obtain ⟨G1, hG1⟩ : ∃ G, G = builtF (gS x m) := ⟨_, rfl⟩
     obtain ⟨n, hn⟩ : ∃ n, n = lenP (gS x m) := ⟨_, rfl⟩
     rw [← hG1] at hGB hG0 hT
     rw [← hn] at hL hT hFq pe
     obtain ⟨G2, hG2e⟩ : ∃ G, G = builtF (bS p x z) := ⟨_, rfl⟩
     rw [← hG2e] at hB2 hG2 hT2
     have BLD := hid (fun (w : World) (L : List Th) (h : HS [] W w L) (HO : By w A1 12 (mkBO m 7)) (HD : By w AD x.nd x.gd) => (show Calls Tryz.prog 14 #[.agg #[.int .i64 1, .int .i64 9, .int .i64 x.piece, .int .i64 x.src, .int .i64 x.dst, .int .i64 x.fp, .int .i64 x.tp, .int .i64 2, .int .i64 0, .bool x.bare, .int .i64 x.code, .slice A1 12 c1, .slice AD x.nd cD]] w fun e w' => ∃ A c, e = .returned (.tuple #[.slice A n c, .int .i64 0]) ∧ HS [] W w' (thY (.slice A n c) n G1 :: L) ∧ n ≤ c from c_rbuild h (gS x m) (.inl rfl) n G1 hn hG1 hE (mkB_B HU.out ⟨by decide, by decide⟩) HI.out.md.gd (by show 12 ≤ 1000000; decide) (Nat.le_trans HI.out.md.nd (by decide)) A1 c1 AD cD HO HD))
     have RPS := hid (fun (w : World) (L : List Th) (h : HS [] W w L) (A : Option Addr) (c' : Nat) (hc : n ≤ c') (hA : By w A n F) => (show Calls Tryz.prog 16 #[.slice A n c'] w fun e w' => ∃ AO cO AD cD, e = .returned (.tuple #[.agg #[.int .i64 1, .int .i64 8, .int .i64 0, .int .i64 p.a, .int .i64 x.dst, .int .i64 p.p, .int .i64 x.tp, .int .i64 2, .int .i64 0, .bool false, .int .i64 0, .slice AO 12 cO, .slice AD x.nd cD], .int .i64 0]) ∧ HS [] W w' (thOD 0 (.slice AO 12 cO) (.slice AD x.nd cD) 12 x.nd (mkBO z 7) x.gd :: L) ∧ 12 ≤ cO ∧ x.nd ≤ cD from c_rparse h (yS p x z) F n hFB (Nat.le_trans hL (by decide)) hFq pe A c' hc hA))
     have BLB := hid (fun (w : World) (L : List Th) (h : HS [] W w L) (A : Option Addr) (c' : Nat) (HO : By w A 12 (mkBO 1 z)) => (show Calls Tryz.prog 14 #[.agg #[.int .i64 1, .int .i64 5, .int .i64 0, .int .i64 x.dst, .int .i64 p.a, .int .i64 x.tp, .int .i64 p.p, .int .i64 2, .int .i64 0, .bool false, .int .i64 0, .slice A 12 c', .slice none 0 0]] w fun e w' => ∃ A c, e = .returned (.tuple #[.slice A 36 c, .int .i64 0]) ∧ HS [] W w' (thY (.slice A 36 c) 36 G2 :: L) ∧ 36 ≤ c from c_rbuild h (bS p x z) (.inl rfl) 36 G2 hL2.symm hG2e hE2 (ub_ hz) c0B_ (by show 12 ≤ 1000000; decide) (by show 0 ≤ 1000000; decide) A c' none 0 HO (fun h => absurd h (by show ¬ 0 < 0; decide))))
     have RST := hid (fun (w : World) (A : Option Addr) (c' : Nat) (hc : 12 ≤ c') (hA : By w A 12 (mkBO z 7)) => (show Calls Tryz.prog 17 #[.slice A 12 c'] w fun e w' => e = .returned (.tuple #[.int .i64 4, .int .u32 z, .int .u32 7, .bool true]) ∧ Below w.heap.size w w' from by have h := rstamp_any A 12 c' (mkBO z 7) w hA (mkB_B hz ⟨by decide, by decide⟩) (by decide) hc; rw [stamp_mk0 hz ⟨by decide, by decide⟩] at h; exact h))
     have RM2 := hid (fun (w : World) (L : List Th) (h : HS [] W w L) => (show Calls Tryz.prog 13 #[.int .u32 1, .int .u32 z] w fun x w' => ∃ A c, x = .returned (.slice A 12 c) ∧ HS [] W w' (thY (.slice A 12 c) 12 (mkBO 1 z) :: L) ∧ 12 ≤ c from c_rmake h 1 z ⟨by decide, by decide⟩ hz))
     have T1 := hid hT
     have T2 := hid hT2
     have BG1 := hid hGB
     have KG1 := hid hG0
     have BG2 := hid hB2
     have KG2 := hid hG2
     have HL := hid hL
     have HS64 := hid hs64
     clear hE hGB hG0 hL hs64 hz hT hFB hFq pe hE2 hB2 hG2 hL2 hT2 hG1 hn hG2e HI HFO HNX
     obtain ⟨y0, y1, y2, y3, y4, y5, y6, y7, y8, y9, y10, y11, y12⟩ := (S15.out.ce 1 rfl).c13
     go_wp2_with fail
     refine (BLD.out _ _ S15.out (S15.out.by_ 0 rfl) (S15.out.byR 3 rfl)).mono ?_
     rintro e w13 ⟨AQ, cQ, rfl, hz, hcc⟩
     have S16 := hid (hz)
     clear hz S15 y0 y1 y2 y3 y4 y5 y6 y7 y8 y9 y10 y11 y12 BLD
     have HCQ := hid hcc
     clear hcc
     go_simp
     go_wp2_with fail
     refine (c_take (A := [thY (.slice AQ n cQ) n G1, thY (.slice A1 12 c1) 12 (mkBO m 7), thC X [.int .i64 1, .int .i64 9, .int .i64 x.piece, .int .i64 x.src, .int .i64 x.dst, .int .i64 x.fp, .int .i64 x.tp, .int .i64 2, .int .i64 0, .bool x.bare, .int .i64 x.code, .slice A1 12 c1, .slice AD x.nd cD], thY (.slice AO x.no cO) x.no x.go, thR bD AD x.nd x.gd, thS sc wd r, thS sb wb p, thB qb 130 (plf sc (fun _ => none))]) (B := [thB P 330 (pc p)]) S16.out (S16.out.st 6 rfl) HNE0.out HPT.out HN0.out G1 n cQ AQ BG1.out (Nat.le_trans HL.out (by decide)) (fun _ => by rw [KG1.out]; decide) (S16.out.by_ 0 rfl) HCQ.out _ T1.out).mono ?_
     rintro e w14 ⟨AR, cR, rfl, hz, hcc⟩
     dsimp only [List.cons_append, List.nil_append] at hz hcc ⊢
     have S17 := hid (hz)
     clear hz S16
     have HCR := hid hcc
     clear hcc
     go_simp
     go_upto_region 24 with (first | ((with_reducible refine wl_id ?_); refine wl_ow rfl (ow_allocC rfl (zOc _) (by simp) S17.out ?_); intro V w_ hZ _; have SY := hid hZ; clear hZ) | ((with_reducible refine wl_id ?_); refine wl_ow rfl (ow_storeC (A := []) [.int .i64 0, .int .i64 (-1), .bool false, .slice AR n cR] rfl rfl (rfl) SY.out rfl iOc rfl ?_); intro w_ hZ; have SX := hid hZ; clear hZ))
     have S18 := hid (SX.out)
     clear SX SY S17
     obtain ⟨f0, f1, f2, f3⟩ := (S18.out.ce 0 rfl).c4
     go_wp2_with fail
     refine (RPS.out _ _ S18.out _ _ HCR.out (S18.out.by_ 1 rfl)).mono ?_
     rintro e w15 ⟨BO, dO, BD, dD, rfl, hz, hc1, _⟩
     have S19 := hid (hz)
     have HC1 := hid hc1
     clear hz hc1 f0 f1 f2 f3 RPS S18
     go_simp
     go_upto_region 25 with (first | ((with_reducible refine wl_id ?_); refine wl_ow rfl (ow_allocC rfl (zPk _) (by simp) S19.out ?_); intro U w_ hZ _; have SY := hid hZ; clear hZ) | ((with_reducible refine wl_id ?_); refine wl_ow rfl (ow_storeC (A := []) [.int .i64 1, .int .i64 8, .int .i64 0, .int .i64 p.a, .int .i64 x.dst, .int .i64 p.p, .int .i64 x.tp, .int .i64 2, .int .i64 0, .bool false, .int .i64 0, .slice BO 12 dO, .slice BD x.nd dD] rfl rfl (rfl) SY.out rfl iPk rfl ?_); intro w_ hZ; have SX := hid hZ; clear hZ))
     have S20 := hid (SX.out)
     clear SX SY S19
     have S21 := hid (HS.drop (A := [_, _, _]) S20.out)
     dsimp only [List.cons_append, List.nil_append] at S21
     clear S20
     have S22 := hid (HS.drop (A := [_, _, _]) S21.out)
     dsimp only [List.cons_append, List.nil_append] at S22
     clear S21
     have S23 := hid (HS.drop (A := [_, _, _, _, _]) S22.out)
     dsimp only [List.cons_append, List.nil_append] at S23
     clear S22
     obtain ⟨u0, u1, u2, u3, u4, u5, u6, u7, u8, u9, u10, u11, u12⟩ := (S23.out.ce 0 rfl).c13
     obtain ⟨f0, f1, f2, f3⟩ := (S23.out.ce 2 rfl).c4
     obtain ⟨y0, y1, y2, y3, y4, y5, y6, y7, y8, y9, y10, y11, y12⟩ := (S23.out.ce 4 rfl).c13
     have pq := (pool_fb (S23.out.fb 10 rfl)).c1
     have pr := (pool_fb (S23.out.fb 10 rfl)).c2
     have ea : (p.a != p.a) = false := by simp
     have ep : (p.p != p.p) = false := by simp
     have ed : (x.dst != x.dst) = false := by simp
     go_upto_region 27 with (fail)
     skip
     go_upto_region 28 with (first | ((with_reducible refine wl_id ?_); refine wl_ow rfl (ow_allocC rfl (zPk _) (by simp) S23.out ?_); intro K w_ hZ _; have SY := hid hZ; clear hZ) | ((with_reducible refine wl_id ?_); refine wl_ow rfl (ow_storeC (A := []) [.int .i64 1, .int .i64 5, .int .i64 0, .int .i64 x.dst, .int .i64 p.a, .int .i64 x.tp, .int .i64 p.p, .int .i64 2, .int .i64 0, .bool false, .int .i64 0, .slice none 0 0, .slice none 0 0] rfl rfl (rfl) SY.out rfl iPk rfl ?_); intro w_ hZ; have SX := hid hZ; clear hZ))
     have S24 := hid (SX.out)
     clear SX SY S23 y0 y1 y2 y3 y4 y5 y6 y7 y8 y9 y10 y11 y12 u0 u1 u2 u3 u4 u5 u6 u7 u8 u9 u10 u11 u12 f0 f1 f2 f3 pq pr ea ep ed
     have u11 := (S24.out.ce 1 rfl).2.1 11 _ rfl
     go_wp2_with fail
     refine (RST.out _ _ _ HC1.out (S24.out.byO 2 rfl).1).mono ?_
     rintro e w16 ⟨rfl, hb⟩
     have S25 := hid (S24.out.below hb)
     clear hb S24 u11 RST
     go_simp
     go_wp2_with fail
     refine (RM2.out _ _ S25.out).mono ?_
     rintro e w17 ⟨A2, c2, rfl, hz, hcc⟩
     have S26 := hid (hz)
     clear hz hcc RM2 S25
     go_simp
     have yl := (S26.out.ce 1 rfl).1
     have yf11 := (S26.out.ce 1 rfl).2.2 11
     have yy11 := (S26.out.ce 1 rfl).2.1 11 _ rfl
     go_upto_region 33 with (fail)
     have S27 : Hid (HS [] W _ [thY (.slice A2 12 c2) 12 (mkBO 1 z), thC K [.int .i64 1, .int .i64 5, .int .i64 0, .int .i64 x.dst, .int .i64 p.a, .int .i64 x.tp, .int .i64 p.p, .int .i64 2, .int .i64 0, .bool false, .int .i64 0, .slice A2 12 c2, .slice none 0 0], thC U [.int .i64 1, .int .i64 8, .int .i64 0, .int .i64 p.a, .int .i64 x.dst, .int .i64 p.p, .int .i64 x.tp, .int .i64 2, .int .i64 0, .bool false, .int .i64 0, .slice BO 12 dO, .slice BD x.nd dD], thOD 0 (.slice BO 12 dO) (.slice BD x.nd dD) 12 x.nd (mkBO z 7) x.gd, thC V [.int .i64 0, .int .i64 (-1), .bool false, .slice AR n cR], thY (.slice A1 12 c1) 12 (mkBO m 7), thC X [.int .i64 1, .int .i64 9, .int .i64 x.piece, .int .i64 x.src, .int .i64 x.dst, .int .i64 x.fp, .int .i64 x.tp, .int .i64 2, .int .i64 0, .bool x.bare, .int .i64 x.code, .slice A1 12 c1, .slice AD x.nd cD], thR bD AD x.nd x.gd, thS sc wd r, thS sb wb p, thB qb 130 (plf sc (fun _ => none)), thB pb 130 (plf sb nr), thB P 330 (pc p)]) := hid (HS.setC (A := [thY (.slice A2 12 c2) 12 (mkBO 1 z)]) S26.out 11 (.slice A2 12 c2) (by simp))
     clear S26 yl yf11 yy11
     obtain ⟨y0, y1, y2, y3, y4, y5, y6, y7, y8, y9, y10, y11, y12⟩ := (S27.out.ce 1 rfl).c13
     go_wp2_with fail
     refine (BLB.out _ _ S27.out _ _ (S27.out.by_ 0 rfl)).mono ?_
     rintro e w18 ⟨AB, cB, rfl, hz, hcc⟩
     have S28 := hid (hz)
     clear hz S27 y0 y1 y2 y3 y4 y5 y6 y7 y8 y9 y10 y11 y12 BLB
     have HCB := hid hcc
     clear hcc
     go_simp
     go_wp2_with fail
     refine (c_take (A := [thY (.slice AB 36 cB) 36 G2, thY (.slice A2 12 c2) 12 (mkBO 1 z), thC K [.int .i64 1, .int .i64 5, .int .i64 0, .int .i64 x.dst, .int .i64 p.a, .int .i64 x.tp, .int .i64 p.p, .int .i64 2, .int .i64 0, .bool false, .int .i64 0, .slice A2 12 c2, .slice none 0 0], thC U [.int .i64 1, .int .i64 8, .int .i64 0, .int .i64 p.a, .int .i64 x.dst, .int .i64 p.p, .int .i64 x.tp, .int .i64 2, .int .i64 0, .bool false, .int .i64 0, .slice BO 12 dO, .slice BD x.nd dD], thOD 0 (.slice BO 12 dO) (.slice BD x.nd dD) 12 x.nd (mkBO z 7) x.gd, thC V [.int .i64 0, .int .i64 (-1), .bool false, .slice AR n cR], thY (.slice A1 12 c1) 12 (mkBO m 7), thC X [.int .i64 1, .int .i64 9, .int .i64 x.piece, .int .i64 x.src, .int .i64 x.dst, .int .i64 x.fp, .int .i64 x.tp, .int .i64 2, .int .i64 0, .bool x.bare, .int .i64 x.code, .slice A1 12 c1, .slice AD x.nd cD], thR bD AD x.nd x.gd, thS sc wd r, thS sb wb p]) (B := [thB pb 130 (plf sb nr), thB P 330 (pc p)]) S28.out (S28.out.st 9 rfl) HNE1.out HNXT.out HN0.out G2 36 cB AB BG2.out (by decide) (fun _ => by rw [KG2.out]; decide) (S28.out.by_ 0 rfl) HCB.out _ T2.out).mono ?_
     rintro e w19 ⟨AR, cR, rfl, hz, hcc⟩
     dsimp only [List.cons_append, List.nil_append] at hz hcc ⊢
     have S29 := hid (hz)
     clear hz hcc S28
     go_simp
     go_upto_region 35 with (first | ((with_reducible refine wl_id ?_); refine wl_ow rfl (ow_allocC rfl (zOc _) (by simp) S29.out ?_); intro Z w_ hZ _; have SY := hid hZ; clear hZ) | ((with_reducible refine wl_id ?_); refine wl_ow rfl (ow_storeC (A := []) [.int .i64 0, .int .i64 s, .bool true, .slice AR 36 cR] rfl rfl (rfl) SY.out rfl iOc rfl ?_); intro w_ hZ; have SX := hid hZ; clear hZ))
     have S30 := hid (SX.out)
     clear SX SY S29
     obtain ⟨f0, f1, f2, f3⟩ := (S30.out.ce 0 rfl).c4
     have es : ((s : Int) == (s : Int)) = true := by simp
     go_wp2_with fail
     go_ret
     exact ⟨by simp, S30.out.bl⟩
    ·have yl := (S15.out.ce 1 rfl).1
     have yf0 := (S15.out.ce 1 rfl).2.2 0
     have yy0 := (S15.out.ce 1 rfl).2.1 0 _ rfl
     have yf7 := (S15.out.ce 1 rfl).2.2 7
     have yy7 := (S15.out.ce 1 rfl).2.1 7 _ rfl
     have yf9 := (S15.out.ce 1 rfl).2.2 9
     have yy9 := (S15.out.ce 1 rfl).2.1 9 _ rfl
     have yf11 := (S15.out.ce 1 rfl).2.2 11
     have yy11 := (S15.out.ce 1 rfl).2.1 11 _ rfl
     go_upto_region 22 with (fail)
     have SX := hid (show HS [] W ((((w11.setCell ⟨X, 0, none⟩ (.int .i64 2)).setCell ⟨X, 11, none⟩ (.slice none 0 0)).setCell ⟨X, 7, none⟩ (.int .i64 0)).setCell ⟨X, 9, none⟩ (.bool false)) [thY (.slice A1 12 c1) 12 (mkBO m 7), thC X [.int .i64 2, .int .i64 9, .int .i64 x.piece, .int .i64 x.src, .int .i64 x.dst, .int .i64 x.fp, .int .i64 x.tp, .int .i64 0, .int .i64 0, .bool false, .int .i64 x.code, .slice none 0 0, .slice AD x.nd cD], thY (.slice AO x.no cO) x.no x.go, thR bD AD x.nd x.gd, thS sc wd r, thS sb wb p, thB qb 130 (plf sc (fun _ => none)), thB pb 130 (plf sb (fun _ => none)), thB P 330 (pc p)] from HS.setC (A := [thY (.slice A1 12 c1) 12 (mkBO m 7)]) (HS.setC (A := [thY (.slice A1 12 c1) 12 (mkBO m 7)]) (HS.setC (A := [thY (.slice A1 12 c1) 12 (mkBO m 7)]) (HS.setC (A := [thY (.slice A1 12 c1) 12 (mkBO m 7)]) (S15.out) 0 (.int .i64 2) (by simp)) 11 (.slice none 0 0) (by simp)) 7 (.int .i64 0) (by simp)) 9 (.bool false) (by simp))
     clear yl yf0 yy0 yf7 yy7 yf9 yy9 yf11 yy11 S15
     generalize (((w11.setCell ⟨X, 0, none⟩ (.int .i64 2)).setCell ⟨X, 11, none⟩ (.slice none 0 0)).setCell ⟨X, 7, none⟩ (.int .i64 0)).setCell ⟨X, 9, none⟩ (.bool false) = w12 at *
     have S16 := hid (SX.out)
     clear SX
     obtain ⟨hE, hGB, hG0, hL, hs64, z, F, nr, hz, hT, hFB, hFq, pe, hE2, hB2, hG2, hL2, tt, hT2, hT3⟩ := goes_g HPT.out HNX.out HPC.out.1 HI.out HFO.out
     obtain ⟨G1, hG1⟩ : ∃ G, G = builtF (gG x) := ⟨_, rfl⟩
     obtain ⟨n, hn⟩ : ∃ n, n = lenP (gG x) := ⟨_, rfl⟩
     rw [← hG1] at hGB hG0 hT
     rw [← hn] at hL hT hFq pe
     obtain ⟨G2, hG2e⟩ : ∃ G, G = builtF (bG p x z) := ⟨_, rfl⟩
     rw [← hG2e] at hB2 hG2 hT2
     have BLD := hid (fun (w : World) (L : List Th) (h : HS [] W w L) (HD : By w AD x.nd x.gd) => (show Calls Tryz.prog 14 #[.agg #[.int .i64 2, .int .i64 9, .int .i64 x.piece, .int .i64 x.src, .int .i64 x.dst, .int .i64 x.fp, .int .i64 x.tp, .int .i64 0, .int .i64 0, .bool false, .int .i64 x.code, .slice none 0 0, .slice AD x.nd cD]] w fun e w' => ∃ A c, e = .returned (.tuple #[.slice A n c, .int .i64 0]) ∧ HS [] W w' (thY (.slice A n c) n G1 :: L) ∧ n ≤ c from c_rbuild h (gG x) (.inr rfl) n G1 hn hG1 hE c0B_ HI.out.md.gd (by show 0 ≤ 1000000; decide) (Nat.le_trans HI.out.md.nd (by decide)) none 0 AD cD (fun h => absurd h (by show ¬ 0 < 0; decide)) HD))
     have RPS := hid (fun (w : World) (L : List Th) (h : HS [] W w L) (A : Option Addr) (c' : Nat) (hc : n ≤ c') (hA : By w A n F) => (show Calls Tryz.prog 16 #[.slice A n c'] w fun e w' => ∃ AO cO AD cD, e = .returned (.tuple #[.agg #[.int .i64 2, .int .i64 8, .int .i64 0, .int .i64 p.a, .int .i64 x.dst, .int .i64 p.p, .int .i64 x.tp, .int .i64 0, .int .i64 z, .bool false, .int .i64 0, .slice AO 0 cO, .slice AD x.nd cD], .int .i64 0]) ∧ HS [] W w' (thOD 0 (.slice AO 0 cO) (.slice AD x.nd cD) 0 x.nd (fun _ => 0) x.gd :: L) ∧ 0 ≤ cO ∧ x.nd ≤ cD from c_rparse h (yG p x z) F n hFB (Nat.le_trans hL (by decide)) hFq pe A c' hc hA))
     have BLB := hid (fun (w : World) (L : List Th) (h : HS [] W w L) => (show Calls Tryz.prog 14 #[.agg #[.int .i64 2, .int .i64 5, .int .i64 0, .int .i64 x.dst, .int .i64 p.a, .int .i64 x.tp, .int .i64 p.p, .int .i64 0, .int .i64 z, .bool false, .int .i64 0, .slice none 0 0, .slice none 0 0]] w fun e w' => ∃ A c, e = .returned (.tuple #[.slice A 24 c, .int .i64 0]) ∧ HS [] W w' (thY (.slice A 24 c) 24 G2 :: L) ∧ 24 ≤ c from c_rbuild h (bG p x z) (.inr rfl) 24 G2 hL2.symm hG2e hE2 c0B_ c0B_ (by show 0 ≤ 1000000; decide) (by show 0 ≤ 1000000; decide) none 0 none 0 (fun h => absurd h (by show ¬ 0 < 0; decide)) (fun h => absurd h (by show ¬ 0 < 0; decide))))
     have T1 := hid hT
     have T2 := hid hT2
     have BG1 := hid hGB
     have KG1 := hid hG0
     have BG2 := hid hB2
     have KG2 := hid hG2
     have HL := hid hL
     have HS64 := hid hs64
     have T3 := hid hT3
     clear hT3
     clear hE hGB hG0 hL hs64 hz hT hFB hFq pe hE2 hB2 hG2 hL2 hT2 hG1 hn hG2e HI HFO HNX
     obtain ⟨y0, y1, y2, y3, y4, y5, y6, y7, y8, y9, y10, y11, y12⟩ := (S16.out.ce 1 rfl).c13
     go_wp2_with fail
     refine (BLD.out _ _ S16.out (S16.out.byR 3 rfl)).mono ?_
     rintro e w13 ⟨AQ, cQ, rfl, hz, hcc⟩
     have S17 := hid (hz)
     clear hz S16 y0 y1 y2 y3 y4 y5 y6 y7 y8 y9 y10 y11 y12 BLD
     have HCQ := hid hcc
     clear hcc
     go_simp
     go_wp2_with fail
     refine (c_take (A := [thY (.slice AQ n cQ) n G1, thY (.slice A1 12 c1) 12 (mkBO m 7), thC X [.int .i64 2, .int .i64 9, .int .i64 x.piece, .int .i64 x.src, .int .i64 x.dst, .int .i64 x.fp, .int .i64 x.tp, .int .i64 0, .int .i64 0, .bool false, .int .i64 x.code, .slice none 0 0, .slice AD x.nd cD], thY (.slice AO x.no cO) x.no x.go, thR bD AD x.nd x.gd, thS sc wd r, thS sb wb p, thB qb 130 (plf sc (fun _ => none))]) (B := [thB P 330 (pc p)]) S17.out (S17.out.st 6 rfl) HNE0.out HPT.out HN0.out G1 n cQ AQ BG1.out (Nat.le_trans HL.out (by decide)) (fun _ => by rw [KG1.out]; decide) (S17.out.by_ 0 rfl) HCQ.out _ T1.out).mono ?_
     rintro e w14 ⟨AR, cR, rfl, hz, hcc⟩
     dsimp only [List.cons_append, List.nil_append] at hz hcc ⊢
     have S18 := hid (hz)
     clear hz S17
     have HCR := hid hcc
     clear hcc
     go_simp
     go_upto_region 24 with (first | ((with_reducible refine wl_id ?_); refine wl_ow rfl (ow_allocC rfl (zOc _) (by simp) S18.out ?_); intro V w_ hZ _; have SY := hid hZ; clear hZ) | ((with_reducible refine wl_id ?_); refine wl_ow rfl (ow_storeC (A := []) [.int .i64 0, .int .i64 (-1), .bool false, .slice AR n cR] rfl rfl (rfl) SY.out rfl iOc rfl ?_); intro w_ hZ; have SX := hid hZ; clear hZ))
     have S19 := hid (SX.out)
     clear SX SY S18
     obtain ⟨f0, f1, f2, f3⟩ := (S19.out.ce 0 rfl).c4
     go_wp2_with fail
     refine (RPS.out _ _ S19.out _ _ HCR.out (S19.out.by_ 1 rfl)).mono ?_
     rintro e w15 ⟨BO, dO, BD, dD, rfl, hz, hc1, _⟩
     have S20 := hid (hz)
     have HC1 := hid hc1
     clear hz hc1 f0 f1 f2 f3 RPS S19
     go_simp
     go_upto_region 25 with (first | ((with_reducible refine wl_id ?_); refine wl_ow rfl (ow_allocC rfl (zPk _) (by simp) S20.out ?_); intro U w_ hZ _; have SY := hid hZ; clear hZ) | ((with_reducible refine wl_id ?_); refine wl_ow rfl (ow_storeC (A := []) [.int .i64 2, .int .i64 8, .int .i64 0, .int .i64 p.a, .int .i64 x.dst, .int .i64 p.p, .int .i64 x.tp, .int .i64 0, .int .i64 z, .bool false, .int .i64 0, .slice BO 0 dO, .slice BD x.nd dD] rfl rfl (rfl) SY.out rfl iPk rfl ?_); intro w_ hZ; have SX := hid hZ; clear hZ))
     have S21 := hid (SX.out)
     clear SX SY S20
     have S22 := hid (HS.drop (A := [_, _, _]) S21.out)
     dsimp only [List.cons_append, List.nil_append] at S22
     clear S21
     have S23 := hid (HS.drop (A := [_, _, _]) S22.out)
     dsimp only [List.cons_append, List.nil_append] at S23
     clear S22
     have S24 := hid (HS.drop (A := [_, _, _, _, _]) S23.out)
     dsimp only [List.cons_append, List.nil_append] at S24
     clear S23
     obtain ⟨u0, u1, u2, u3, u4, u5, u6, u7, u8, u9, u10, u11, u12⟩ := (S24.out.ce 0 rfl).c13
     obtain ⟨f0, f1, f2, f3⟩ := (S24.out.ce 2 rfl).c4
     obtain ⟨y0, y1, y2, y3, y4, y5, y6, y7, y8, y9, y10, y11, y12⟩ := (S24.out.ce 4 rfl).c13
     have pq := (pool_fb (S24.out.fb 10 rfl)).c1
     have pr := (pool_fb (S24.out.fb 10 rfl)).c2
     have ea : (p.a != p.a) = false := by simp
     have ep : (p.p != p.p) = false := by simp
     have ed : (x.dst != x.dst) = false := by simp
     go_upto_region 27 with (fail)
     skip
     go_upto_region 28 with (first | ((with_reducible refine wl_id ?_); refine wl_ow rfl (ow_allocC rfl (zPk _) (by simp) S24.out ?_); intro K w_ hZ _; have SY := hid hZ; clear hZ) | ((with_reducible refine wl_id ?_); refine wl_ow rfl (ow_storeC (A := []) [.int .i64 2, .int .i64 5, .int .i64 0, .int .i64 x.dst, .int .i64 p.a, .int .i64 x.tp, .int .i64 p.p, .int .i64 0, .int .i64 z, .bool false, .int .i64 0, .slice none 0 0, .slice none 0 0] rfl rfl (rfl) SY.out rfl iPk rfl ?_); intro w_ hZ; have SX := hid hZ; clear hZ))
     have S25 := hid (SX.out)
     clear SX SY S24 y0 y1 y2 y3 y4 y5 y6 y7 y8 y9 y10 y11 y12 u0 u1 u2 u3 u4 u5 u6 u7 u8 u9 u10 u11 u12 f0 f1 f2 f3 pq pr ea ep ed
     go_upto_region 33 with (fail)
     obtain ⟨y0, y1, y2, y3, y4, y5, y6, y7, y8, y9, y10, y11, y12⟩ := (S25.out.ce 0 rfl).c13
     go_wp2_with fail
     refine (BLB.out _ _ S25.out).mono ?_
     rintro e w18 ⟨AB, cB, rfl, hz, hcc⟩
     have S26 := hid (hz)
     clear hz S25 y0 y1 y2 y3 y4 y5 y6 y7 y8 y9 y10 y11 y12 BLB
     have HCB := hid hcc
     clear hcc
     go_simp
     go_wp2_with fail
     refine (c_take (A := [thY (.slice AB 24 cB) 24 G2, thC K [.int .i64 2, .int .i64 5, .int .i64 0, .int .i64 x.dst, .int .i64 p.a, .int .i64 x.tp, .int .i64 p.p, .int .i64 0, .int .i64 z, .bool false, .int .i64 0, .slice none 0 0, .slice none 0 0], thC U [.int .i64 2, .int .i64 8, .int .i64 0, .int .i64 p.a, .int .i64 x.dst, .int .i64 p.p, .int .i64 x.tp, .int .i64 0, .int .i64 z, .bool false, .int .i64 0, .slice BO 0 dO, .slice BD x.nd dD], thOD 0 (.slice BO 0 dO) (.slice BD x.nd dD) 0 x.nd (fun _ => 0) x.gd, thC V [.int .i64 0, .int .i64 (-1), .bool false, .slice AR n cR], thY (.slice A1 12 c1) 12 (mkBO m 7), thC X [.int .i64 2, .int .i64 9, .int .i64 x.piece, .int .i64 x.src, .int .i64 x.dst, .int .i64 x.fp, .int .i64 x.tp, .int .i64 0, .int .i64 0, .bool false, .int .i64 x.code, .slice none 0 0, .slice AD x.nd cD], thR bD AD x.nd x.gd, thS sc wd r, thS sb wb p]) (B := [thB pb 130 (plf sb nr), thB P 330 (pc p)]) S26.out (S26.out.st 8 rfl) HNE1.out HNXT.out HN0.out G2 24 cB AB BG2.out (by decide) (fun _ => by rw [KG2.out]; decide) (S26.out.by_ 0 rfl) HCB.out _ T2.out).mono ?_
     rintro e w19 ⟨AR, cR, rfl, hz, hcc⟩
     dsimp only [List.cons_append, List.nil_append] at hz hcc ⊢
     have S27 := hid (hz)
     clear hz hcc S26
     go_simp
     go_upto_region 35 with (first | ((with_reducible refine wl_id ?_); refine wl_ow rfl (ow_allocC rfl (zOc _) (by simp) S27.out ?_); intro Z w_ hZ _; have SY := hid hZ; clear hZ) | ((with_reducible refine wl_id ?_); refine wl_ow rfl (ow_storeC (A := []) [.int .i64 tt.d, .int .i64 tt.s, .bool tt.c, .slice AR tt.n cR] rfl rfl (rfl) SY.out rfl iOc rfl ?_); intro w_ hZ; have SX := hid hZ; clear hZ))
     have S28 := hid (SX.out)
     clear SX SY S27
     obtain ⟨f0, f1, f2, f3⟩ := (S28.out.ce 0 rfl).c4
     have u8 := (S28.out.ce 4 rfl).2.1 8 _ rfl
     by_cases hz0 : z = 0
     ·have zz : (z == 0) = true := by simp [hz0]
      clear hz0
      go_wp2_with fail
      go_ret
      exact ⟨by simp, S28.out.bl⟩
     ·have zz : (z == 0) = false := by simp [hz0]
      obtain ⟨h1, h2, h3⟩ := T3.out hz0
      rw [h1] at f0
      rw [h2] at f1
      rw [h3] at f2
      clear hz0 h1 h2 h3
      have es : ((s : Int) == (s : Int)) = true := by simp
      go_wp2_with fail
      go_ret
      exact ⟨by simp, S28.out.bl⟩
set_option maxRecDepth 100000 in
theorem lifted (os : Os) (started : os.Started) (H : Type) (enc : TypeId × Value → H) :
 ReturnsInHanded {} Tryz.checked os 4 .any (Rows.planeGoesSpec.pre6 enc Tryz.prog Tryz.f4 [] false) (Rows.planeGoesSpec.post enc Tryz.prog Tryz.f4 false true false false) :=
 law_step (s := Rows.planeGoesSpec) started (by kernel_rfl) Tryz.func4
  (ChangeSpec.witness6 (s := Rows.planeGoesSpec) (enc := enc) (C := Tryz.checked) false ⟨#[], #[.slice none 0 0, .int .i64 0, .int .i64 0, .int .i64 0, .bool false, .bool false], []⟩ 8 (by kernel_rfl) (by kernel_rfl) (by kernel_rfl) (by kernel_rfl))
  rfl (by rw [Tryz.params4]; decide +kernel) rfl Tryz.underlying4
  (fun ds h => by
   rw [Tryz.params4] at h
   match ds, h with
   | [_, _, _, _, _, _], _ => rfl)
  (fun W base args ds ps hval hA hsz => by
   rw [Tryz.params4] at hA hval hsz
   obtain ⟨v0, vs0, d0, ds0, p0, q0, hargs, rfl, rfl, h0, r0⟩ := trodAll_cons hA
   obtain ⟨v1, vs1, d1, ds1, p1, q1, rfl, rfl, rfl, h1, r1⟩ := trodAll_cons r0
   obtain ⟨v2, vs2, d2, ds2, p2, q2, rfl, rfl, rfl, h2, r2⟩ := trodAll_cons r1
   obtain ⟨v3, vs3, d3, ds3, p3, q3, rfl, rfl, rfl, h3, r3⟩ := trodAll_cons r2
   obtain ⟨v4, vs4, d4, ds4, p4, q4, rfl, rfl, rfl, h4, r4⟩ := trodAll_cons r3
   obtain ⟨v5, vs5, d5, ds5, p5, q5, rfl, rfl, rfl, h5, r5⟩ := trodAll_cons r4
   obtain ⟨rfl, rfl, rfl⟩ := trodAll_nil r5
   obtain rfl : args = #[v0, v1, v2, v3, v4, v5] := by cases args; simp_all
   obtain ⟨A0, n0, c0, g0, rfl, hn0, hc0, hs0, hw0, hl0, hd0⟩ := open_row Tryz.underlying22 Tryz.underlying3 (by kernel_rfl) (hval 0 22 v0 rfl rfl) h0
   have re0 : c0 * 8 ≤ 140737488351232 := by
    rcases hd0 with ⟨_, h0⟩ | ⟨xs, ys, h1, h2⟩
    ·omega
    ·have := sized_slice hsz (j := 0) (t := 22) (e := 3) rfl (by rw [h1]; rfl) Tryz.underlying22
     rw [h2, show Tryz.prog.bytesOf 3 = 8 from by kernel_rfl] at this
     simpa [reachBytes] using this
   obtain ⟨a1, rfl, rfl, rfl, w1⟩ := open_int Tryz.underlying3 (hval 1 3 v1 rfl rfl) h1
   obtain ⟨a2, rfl, rfl, rfl, w2⟩ := open_int Tryz.underlying3 (hval 2 3 v2 rfl rfl) h2
   obtain ⟨a3, rfl, rfl, rfl, w3⟩ := open_int Tryz.underlying3 (hval 3 3 v3 rfl rfl) h3
   obtain ⟨a4, rfl, rfl, rfl⟩ := open_bool Tryz.underlying4 (hval 4 4 v4 rfl rfl) h4
   obtain ⟨a5, rfl, rfl, rfl⟩ := open_bool Tryz.underlying4 (hval 5 4 v5 rfl rfl) h5
   exact walk W A0 n0 c0 g0 hn0 hc0 hs0 (fun j => bounds_i64 (hw0 j)) hl0 re0 a1 (bounds_i64 w1) a2 (bounds_i64 w2) a3 (bounds_i64 w3) a4 a5)
theorem proved : Rows.PlaneGoesSaid :=
 OpenClaim.holds_of_wide 4 Tryz.f4 rfl rfl rfl rfl rfl rfl rfl ⟨rfl, rfl, rfl, rfl, rfl⟩ rfl rfl rfl rfl rfl (by kernel_rfl) Tryz.func4 (by kernel_rfl)
  (of_decide_eq_true (by kernel_rfl)) (by unfold Func.isWrapper; first | (rw [if_pos (by decide +kernel)]; kernel_rfl) | (rw [if_neg (by decide +kernel)]; exact ⟨rfl, rfl⟩))
  (fun os started H enc _ => lifted os started H enc)
end Go.Proofs.YteapnfdpkjbfhaaGreat.planeGoes
