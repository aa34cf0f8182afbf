/- The reference's Stamp. -/
import Derived.Test.YteapnfdpkjbfhaaGreatGa
import Derived.Test.YteapnfdpkjbfhaaGreatGo
import Derived.Test.YteapnfdpkjbfhaaGreatOptRef
namespace Go.Proofs.YteapnfdpkjbfhaaGreat
set_option linter.unusedVariables false
set_option linter.unusedSimpArgs false
open Go.RowKit Go.ChangeShapes Go.WideShapes Go.ChangeAt
theorem stS_wl (g : Nat → Int) (n : Nat) : stamp g n = match fst (wl g n) with
 | none => (0, 0, 0, false)
 | some o => (o.2.1 + 2, numO g (o.2.1.toNat + 2), numO g (o.2.1.toNat + 6), true) := by
 unfold stamp wl stS
 cases walk g n 0 <;> rfl
theorem wl_fst {g : Nat → Int} {n : Nat} {o : Int × Int × Int} (hf : fst (wl g n) = some o) : 0 ≤ o.2.1 ∧ o.2.1.toNat + 10 ≤ n ∧ o.2.1 = o.2.1.toNat := by
 unfold wl at hf
 cases hw : walk g n 0 with
 | none => rw [hw] at hf; cases hf
 | some l => rw [hw] at hf; exact fst_is hw hf
def RstAt (w : World) (l : List (Int × Int × Int)) (A : Option Addr) (i : Value) (wr : World) : Prop :=
 ∃ k : Nat, k ≤ l.length ∧ i = .int .i64 (k : Int) ∧ fst (l.drop k) = fst l ∧ Below w.heap.size w wr ∧ SlO wr A l
set_option maxHeartbeats 2000000 in
theorem rstamp_any (A : Option Addr) (n c : Nat) (g : Nat → Int) (w : World) (h : By w A n g) (hg : IsB g) (hn : n ≤ 1000000) (hc : n ≤ c) :
 Calls Tryz.prog 17 #[.slice A n c] w fun e w' => e = .returned (StV (stamp g n)) ∧ Below w.heap.size w w' := by
 have W := hid (rwalk_any A n c g w h hg hn)
 have hlen := wl_len g n
 have HS := hid (stS_wl g n)
 have HW := fun o => hid (@wl_fst g n o)
 obtain ⟨l, hl⟩ : ∃ l, l = wl g n := ⟨_, rfl⟩
 obtain ⟨m, hm⟩ : ∃ m, m = l.length := ⟨_, rfl⟩
 unfold Walked at W
 rw [← hl] at W HS hlen
 rw [← hm] at W hlen
 have HM := hid hm
 have HL := hid hl
 clear hl hm
 replace HW := hid HW
 have HY := hid h
 have HG := hid hg
 clear h hg
 go_enter Tryz.func17, Tryz.ntmps17
 go_wp2_with fail
 refine W.out.mono ?_
 rintro e w1 ⟨A1, c1, rfl, ho, hb⟩
 have HB := hid hb
 have HO := hid (show SlO w1 A1 l by unfold SlO; rw [HM.out] at ho; have := Ow.sl ho; exact this)
 clear ho hb W
 go_wp2
 go_loopw [8] (fun i wr => RstAt w l A1 i wr) (fun i _ => m - (intOf i).toNat)
 case atStart => exact ⟨0, Nat.zero_le _, rfl, rfl, HB.out, HO.out⟩
 case round =>
  clear HB HO
  obtain ⟨k, hk, rfl, hf, hb, hC⟩ := hrel
  rw [← HM.out] at hk
  by_cases hlt : k < m
  ·have hkl : k < l.length := by rw [← HM.out]; exact hlt
   obtain ⟨b, off, rfl, hbw, hcc⟩ := hC (by omega)
   clear hcc
   obtain ⟨c0, c1, c2⟩ := SlO.cells hC hkl
   have hd := fst_drop hkl
   obtain ⟨x, y, z, hx⟩ : ∃ x y z : Int, l[k] = (x, y, z) := ⟨_, _, _, rfl⟩
   rw [hx] at c0 c1 c2 hd
   simp only at c0 c1 c2
   have HF := hid hf
   have HB := hid hb
   have HC := hid hC
   have i1 : (k : Int) < m := by omega
   have i0 : (0 : Int) ≤ k := by omega
   cases hs : isS (x, y, z)
   ·have hnx : fst (l.drop (k + 1)) = fst l := by rw [← hf, hd, hs]; rfl
    have HN := hid hnx
    have hxz : (x == 8) = false ∨ ((x == 8) = true ∧ (z == 10) = false) := by
     simp only [isS] at hs
     cases h1 : (x == 8) <;> cases h2 : (z == 10) <;> simp_all
    clear hd hx hs hnx hf hb hC
    rcases hxz with h1 | ⟨h1, h2⟩
    all_goals
     go_wp2
     go_roundw
     case rel => exact ⟨k + 1, by rw [← HM.out]; omega, by go_num, HN.out, HB.out, HC.out⟩
     case measure => simp [intOf]; omega
   ·have hfo : fst l = some (x, y, z) := by rw [← hf, hd, hs]; rfl
    have hw := HW.out (x, y, z)
    rw [← HL.out] at hw
    obtain ⟨o1, o2, o3⟩ := hw.out hfo
    obtain ⟨p, hp⟩ : ∃ p, p = y.toNat := ⟨_, rfl⟩
    simp only at o1 o2 o3
    rw [← hp] at o2 o3
    have hxz : (x == 8) = true ∧ (z == 10) = true := by simpa [isS] using hs
    obtain ⟨h1, h2⟩ := hxz
    subst o3
    have HS' : Hid (stamp g n = ((p : Int) + 2, numO g (p + 2), numO g (p + 6), true)) := hid (by rw [HS.out, hfo]; simp)
    clear hd hx hs hf hb hC hfo hw hp HW
    have hy := HY.out.below HB.out (Nat.le_refl _)
    obtain ⟨A2, r2, s2⟩ := cut_from_b A n c (p + 2) (by omega) hc ((p : Int) + 2) (by omega)
    obtain ⟨A3, r3, s3⟩ := cut_from_b A n c (p + 6) (by omega) hc ((p : Int) + 6) (by omega)
    have S2 := hid (s2 wr g hy)
    have S3 := hid (s3 wr g hy)
    have b1 : (0 : Int) ≤ p := by omega
    have b2 : (p : Int) + 10 ≤ n := by omega
    have i4 : IntKind.i64.wrap ((p : Int) + 2 + 4) = (p : Int) + 6 := by rw [IntKind.wrap_i64]; omega
    have j4 : IntKind.i64.wrap ((p : Int) + 6) = (p : Int) + 6 := by rw [IntKind.wrap_i64]; omega
    have O2 := hid (show 4 ≤ n - (p + 2) by omega)
    have O3 := hid (show 4 ≤ n - (p + 6) by omega)
    clear hy s2 s3 HY HF HL o1 o2
    go_wp2
    go_quiet ((go_at_call 55; first | exact q0q (rnum_cut _ _ _ _ _ _ (by first | exact S2.out.drewN _ | exact S3.out.drewN _) HG.out (by first | exact O2.out | exact O3.out)) | exact q1q (rnum_cut _ _ _ _ _ _ (by first | exact S2.out.drewN _ | exact S3.out.drewN _) HG.out (by first | exact O2.out | exact O3.out))))
    go_wp2
    refine bodyPost_ret (v := .tuple #[.int .i64 ((p : Int) + 2), .int .u32 (numO g (p + 2)), .int .u32 (numO g (p + 6)), .bool true]) (by simp [results, Tryz.results17, go_sem]) rfl ⟨by rw [HS'.out]; rfl, below_drewN HB.out _⟩
  ·have i1 : ¬ (k : Int) < m := by omega
   have hnone : fst l = none := by rw [← hf, List.drop_of_length_le (by rw [← HM.out]; omega)]; rfl
   have HN := hid hnone
   have HB := hid hb
   clear hb hC hf hnone
   go_wp2
   refine bodyPost_ret (v := .tuple #[.int .i64 0, .int .u32 0, .int .u32 0, .bool false]) (by simp [results, Tryz.results17, go_sem]) rfl ⟨by rw [HS.out, HN.out]; rfl, HB.out⟩
end Go.Proofs.YteapnfdpkjbfhaaGreat
