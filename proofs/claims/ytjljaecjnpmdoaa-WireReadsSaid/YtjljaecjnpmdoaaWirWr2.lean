/- Write, Age. -/
import Derived.Test.YtjljaecjnpmdoaaWirWr
import Derived.BigQuiet
import Derived.Deep.RegionHeld3
import Derived.Deep.Cut
namespace Go.Proofs.Ytjljaecjnpmdoaa
set_option linter.unusedVariables false
set_option linter.unusedSimpArgs false
open Go.RowKit Go.ChangeShapes Go.WideShapes Go.ChangeAt

/-- What a function that makes a packet of another one tells: why not, or the row. -/
def Outd (w : World) (E : Int) (L : Nat) (F : Nat → Int) (e : Ending) (w' : World) : Prop := ∃ v : Value, e = .returned (.tuple #[v, .int .i64 E]) ∧ OB w' w.heap.size v (if E = 0 then L else 0) F ∧ Below w.heap.size w w'
theorem parse_life {g : Nat → Int} {n : Nat} (h : parseE g n = 0) : (parseR g n).life = g 1 ∧ (parseR g n).kind = g 0 := by
  unfold parseR
  rw [if_pos h]
  unfold parseP
  split
  · exact ⟨rfl, rfl⟩
  · split <;> exact ⟨rfl, rfl⟩
theorem outd_no {w w' : World} {E : Int} {L : Nat} {F : Nat → Int} (h : E ≠ 0) (hb : Below w.heap.size w w') : Outd w E L F (.returned (.tuple #[.slice none 0 0, .int .i64 E])) w' :=
  ⟨_, rfl, by rw [if_neg h]; exact OB.nil, hb⟩
set_option maxHeartbeats 4000000 in
theorem write_any (A : Option Addr) (L c : Nat) (g : Nat → Int) (w : World) (h : By w A L g) (hg : IsB g) (hc : L ≤ c) (hb : L ≤ 1000000) (a m v : Int) (ra : -9223372036854775808 ≤ a ∧ a ≤ 9223372036854775807) :
    Calls Try.prog 26 #[.slice A L c, .int .i64 a, .int .i64 m, .int .i64 v] w (Outd w (wrE g L a m v) L (wrF g L a.toNat m.toNat v)) := by
  have HP := hid (parse_any A L c g w h hg hc hb)
  have HBY := hid (fun (W : World) (hw : Below w.heap.size w W) => Sl.below h hw (Nat.le_refl _))
  have HG := hid hg
  have HH := hid h
  clear h hg
  obtain ⟨z, hz⟩ : ∃ z, z = parseE g L := ⟨_, rfl⟩
  unfold Parsed at HP
  rw [← hz] at HP
  cases hz0 : (z != 0)
  · have z0 : parseE g L = 0 := by rw [← hz]; simpa using hz0
    have pf := parse_facts z0
    have n24 := pf.1
    have n15 := pf.2.1
    have HE : Hid (wrE g L a m v = if mayB g L a m v = true then 0 else 14) := hid (by unfold wrE; rw [if_neg (fun h => h z0)])
    clear pf z0
    generalize parseR g L = p at HP
    have MA := hid (fun (W : World) (hW : By W A L g) => may_any A L c g W hW n24 n15 a m v ra)
    cases hm : mayB g L a m v
    · rw [hm, if_neg (by decide)] at HE
      rw [hm] at MA
      clear hm hz
      go_enter Try.func26, Try.ntmps26
      go_wp2_with fail
      refine HP.out.mono ?_
      rintro x w1 ⟨O, D, rfl, hO, hD, hb1⟩
      obtain ⟨AO, cO, rfl, _, _, _⟩ := hO.form_
      obtain ⟨AD, cD, rfl, _, _, _⟩ := hD.form_
      have B1 := hid (hb1.alloc hb1.size (.cells #[.int .i64 p.kind, .int .i64 p.life, .int .i64 p.piece, .int .i64 p.src, .int .i64 p.dst, .int .i64 p.fp, .int .i64 p.tp, .int .i64 p.flags, .int .i64 p.label, .bool p.bare, .int .i64 p.code, .slice AO p.no cO, .slice AD p.nd cD] 26))
      clear hb1 HP hO hD
      unfold pkV pkL
      go_simp
      go_wp2_with fail
      refine (MA.out _ (HBY.out _ B1.out)).mono ?_
      rintro e w' ⟨rfl, rfl⟩
      go_wp2_with fail
      refine bodyPost_ret (v := .tuple #[.slice none 0 0, .int .i64 14]) (by simp [results, Try.results26, go_sem]) rfl ?_
      rw [HE.out]
      exact outd_no (by decide) B1.out
    · rw [hm, if_pos rfl] at HE
      rw [hm] at MA
      have mf := mayB_iff hm
      have sl := kind_num g
      have SO : Hid (a.toNat + m.toNat ≤ sumA (g 0) ∨ sumA (g 0) + 2 ≤ a.toNat) := hid (by omega)
      obtain ⟨q, hq⟩ : ∃ q : Nat, a = (q : Int) := ⟨a.toNat, by omega⟩
      obtain ⟨k, hk⟩ : ∃ k : Nat, m = (k : Int) := ⟨m.toNat, by omega⟩
      subst hq
      subst hk
      rw [Int.toNat_natCast, Int.toNat_natCast] at *
      have kq : q + k ≤ L := by omega
      have k4 : 0 < k ∧ k ≤ 4 := by omega
      have q16 : 16 ≤ q := by omega
      obtain ⟨k0, k4⟩ := k4
      clear hm hz mf
      obtain ⟨b, off, rfl, hblt, _⟩ := HH.out (by omega)
      have q1 : IntKind.i64.wrap ((q : Int) + k) = (q : Int) + k := IntWalk.i64_in _ (by omega)
      go_enter Try.func26, Try.ntmps26
      go_wp2_with fail
      refine HP.out.mono ?_
      rintro x w1 ⟨O, D, rfl, hO, hD, hb1⟩
      obtain ⟨AO, cO, rfl, _, _, _⟩ := hO.form_
      obtain ⟨AD, cD, rfl, _, _, _⟩ := hD.form_
      have B1 := hid (hb1.alloc hb1.size (.cells #[.int .i64 p.kind, .int .i64 p.life, .int .i64 p.piece, .int .i64 p.src, .int .i64 p.dst, .int .i64 p.fp, .int .i64 p.tp, .int .i64 p.flags, .int .i64 p.label, .bool p.bare, .int .i64 p.code, .slice AO p.no cO, .slice AD p.nd cD] 26))
      clear hb1 HP hO hD
      unfold pkV pkL
      go_simp
      have CL := hid (fun (W : World) (hW : By W (some ⟨b, off, none⟩) L g) => clone_any (some ⟨b, off, none⟩) L c g W hW hb)
      go_wp2_with fail
      refine (MA.out _ (HBY.out _ B1.out)).mono ?_
      rintro e w' ⟨rfl, rfl⟩
      go_wp2_with fail
      refine (CL.out _ (HBY.out _ B1.out)).mono ?_
      rintro e w2 ⟨G, rfl, hG, hO, hb2⟩
      have O2 := hid (OB.base hO (show w.heap.size ≤ _ from B1.out.size))
      have hGw : w.heap.size ≤ G := Nat.le_trans B1.out.size hG
      have B2 := hid (B1.out.trans (hb2.mono B1.out.size))
      have hne : b ≠ G := by omega
      clear hO hb2 hG MA CL B1
      have CP := fun W => cut_put (G := G) (n := L) (c := L) q k kq (Nat.le_refl _) k0 q (q + k) (q + k) rfl rfl rfl W
      go_wp2_with fail
      refine (put_any O2.out q k k v kq (by omega)).mono ?_
      rintro e w3 ⟨rfl, hO, hg3⟩
      have O3 := hid hO
      have B3 := hid (B2.out.trans (below_of_grown hg3 hGw B2.out.size))
      clear hO hg3 O2 B2 CP
      have IB := hid (isbare_any (some ⟨b, off, none⟩) L c g w3 (HBY.out _ B3.out) HG.out (by omega) (.inr n24) hc hb)
      have PB := hid (putF_B HG.out q k v)
      cases hbf : bareF g
      · have WF : Hid (wrF g L q k v = fillF (tbody (sumA (g 0)) L g ((k + q % 2 + 1) / 2) (q - q % 2) (putF g q k v))) := hid (by unfold wrF; rw [hbf, if_neg (by decide)])
        rw [hbf] at IB
        have TB := hid (turnbody_any O3.out PB.out (HBY.out _ B3.out) hne HG.out (Nat.le_refl _) hc hb n24 q k kq)
        clear hbf
        go_wp2_with fail
        refine IB.out.mono ?_
        rintro e w' ⟨rfl, rfl⟩
        go_wp2_with fail
        refine TB.out.mono ?_
        rintro e w4 ⟨rfl, hO, hg4⟩
        have O4 := hid hO
        have B4 := hid (B3.out.trans (below_of_grown hg4 hGw B3.out.size))
        clear hO hg4 TB IB
        have TBB := hid (tbody_B (s := sumA (g 0)) (L := L) (g := g) ((k + q % 2 + 1) / 2) (q - q % 2) _ PB.out)
        go_wp2_with fail
        refine (fill_any O4.out TBB.out (by omega) (.inr n24) (Nat.le_refl _) hb).mono ?_
        rintro e w5 ⟨rfl, hO, hg5⟩
        have O5 := hid hO
        have B5 := hid (B4.out.trans (below_of_grown hg5 hGw B4.out.size))
        clear hO hg5
        go_wp2_with fail
        refine bodyPost_ret (v := .tuple #[.slice (some ⟨G, 0, none⟩) L L, .int .i64 0]) (by simp [results, Try.results26, go_sem]) rfl ?_
        rw [HE.out, WF.out]
        exact ⟨_, rfl, O5.out, B5.out⟩
      · have WF : Hid (wrF g L q k v = putF g q k v) := hid (by unfold wrF; rw [hbf, if_pos rfl])
        rw [hbf] at IB
        clear hbf
        go_wp2_with fail
        refine IB.out.mono ?_
        rintro e w' ⟨rfl, rfl⟩
        go_wp2_with fail
        refine bodyPost_ret (v := .tuple #[.slice (some ⟨G, 0, none⟩) L L, .int .i64 0]) (by simp [results, Try.results26, go_sem]) rfl ?_
        rw [HE.out, WF.out]
        exact ⟨_, rfl, O3.out, B3.out⟩
  · have HE : Hid (wrE g L a m v = z) := hid (by unfold wrE; rw [← hz, if_pos (by simpa using hz0)])
    have HZ0 : Hid (z ≠ 0) := hid (by simpa using hz0)
    generalize parseR g L = p at HP
    clear hz
    go_enter Try.func26, Try.ntmps26
    go_wp2_with fail
    refine HP.out.mono ?_
    rintro x w1 ⟨O, D, rfl, hO, hD, hb1⟩
    obtain ⟨AO, cO, rfl, _, _, _⟩ := hO.form_
    obtain ⟨AD, cD, rfl, _, _, _⟩ := hD.form_
    have B1 := hid (hb1.alloc hb1.size (.cells #[.int .i64 p.kind, .int .i64 p.life, .int .i64 p.piece, .int .i64 p.src, .int .i64 p.dst, .int .i64 p.fp, .int .i64 p.tp, .int .i64 p.flags, .int .i64 p.label, .bool p.bare, .int .i64 p.code, .slice AO p.no cO, .slice AD p.nd cD] 26))
    clear hb1 HP hO hD
    unfold pkV pkL
    go_simp
    go_wp2_with fail
    refine bodyPost_ret (v := .tuple #[.slice none 0 0, .int .i64 z]) (by simp [results, Try.results26, go_sem]) rfl ?_
    rw [HE.out]
    exact outd_no HZ0.out B1.out
theorem age_eq {g : Nat → Int} : putF (set1 g 1 (g 1 - 1)) 14 2 (turn (num (set1 g 1 (g 1 - 1)) 14 2) (num g 0 2) (num (set1 g 1 (g 1 - 1)) 0 2)) = ageF g := by
  unfold ageF
  rw [show num (set1 g 1 (g 1 - 1)) 14 2 = num g 14 2 from num_ext fun j h1 h2 => by unfold set1; rw [if_neg (by omega)]]
theorem set1_B {g : Nat → Int} (hg : IsB g) (i : Nat) (x : Int) (h : 0 ≤ x) (h' : x ≤ 255) : IsB (set1 g i x) := fun j => by unfold set1; split; exact ⟨h, h'⟩; exact hg j
set_option maxHeartbeats 4000000 in
theorem age_any (A : Option Addr) (L c : Nat) (g : Nat → Int) (w : World) (h : By w A L g) (hg : IsB g) (hc : L ≤ c) (hb : L ≤ 1000000) :
    Calls Try.prog 30 #[.slice A L c] w (Outd w (ageE g L) L (ageF g)) := by
  have HP := hid (parse_any A L c g w h hg hc hb)
  have HBY := hid (fun (W : World) (hw : Below w.heap.size w W) => Sl.below h hw (Nat.le_refl _))
  have HG := hid hg
  have HH := hid h
  clear h hg
  obtain ⟨z, hz⟩ : ∃ z, z = parseE g L := ⟨_, rfl⟩
  unfold Parsed at HP
  rw [← hz] at HP
  cases hz0 : (z != 0)
  · have z0 : parseE g L = 0 := by rw [← hz]; simpa using hz0
    have pf := parse_facts z0
    have n24 := pf.1
    have n15 := pf.2.1
    have HE : Hid (ageE g L = if g 1 ≤ 1 then 7 else 0) := hid (by unfold ageE; rw [if_neg (fun h => h z0)])
    have PL := hid (parse_life z0).1
    clear pf z0
    generalize parseR g L = p at HP PL
    have hl0 := HG.out 1
    rw [← PL.out] at hl0 HE
    obtain ⟨hl0, hl1⟩ := hl0
    by_cases hl : p.life ≤ 1
    · rw [if_pos hl] at HE
      clear hz
      go_enter Try.func30, Try.ntmps30
      go_wp2_with fail
      refine HP.out.mono ?_
      rintro x w1 ⟨O, D, rfl, hO, hD, hb1⟩
      obtain ⟨AO, cO, rfl, _, _, _⟩ := hO.form_
      obtain ⟨AD, cD, rfl, _, _, _⟩ := hD.form_
      have B1 := hid (hb1.alloc hb1.size (.cells #[.int .i64 p.kind, .int .i64 p.life, .int .i64 p.piece, .int .i64 p.src, .int .i64 p.dst, .int .i64 p.fp, .int .i64 p.tp, .int .i64 p.flags, .int .i64 p.label, .bool p.bare, .int .i64 p.code, .slice AO p.no cO, .slice AD p.nd cD] 26))
      clear hb1 HP hO hD
      unfold pkV pkL
      go_simp
      go_wp2_with fail
      refine bodyPost_ret (v := .tuple #[.slice none 0 0, .int .i64 7]) (by simp [results, Try.results30, go_sem]) rfl ?_
      rw [HE.out]
      exact outd_no (by decide) B1.out
    · rw [if_neg hl] at HE
      have hl2 : 1 < p.life := by omega
      clear hz
      obtain ⟨b, off, rfl, hblt, _⟩ := HH.out (by omega)
      have v1 : IntKind.i64.wrap (p.life - 1) = p.life - 1 := IntWalk.i64_in _ (by omega)
      go_enter Try.func30, Try.ntmps30
      go_wp2_with fail
      refine HP.out.mono ?_
      rintro x w1 ⟨O, D, rfl, hO, hD, hb1⟩
      obtain ⟨AO, cO, rfl, _, _, _⟩ := hO.form_
      obtain ⟨AD, cD, rfl, _, _, _⟩ := hD.form_
      have B1 := hid (hb1.alloc hb1.size (.cells #[.int .i64 p.kind, .int .i64 p.life, .int .i64 p.piece, .int .i64 p.src, .int .i64 p.dst, .int .i64 p.fp, .int .i64 p.tp, .int .i64 p.flags, .int .i64 p.label, .bool p.bare, .int .i64 p.code, .slice AO p.no cO, .slice AD p.nd cD] 26))
      clear hb1 HP hO hD
      unfold pkV pkL
      go_simp
      have CL := hid (fun (W : World) (hW : By W (some ⟨b, off, none⟩) L g) => clone_any (some ⟨b, off, none⟩) L c g W hW hb)
      have CE := hid (Ce.made (w := w1) (l := [.int .i64 p.kind, .int .i64 p.life, .int .i64 p.piece, .int .i64 p.src, .int .i64 p.dst, .int .i64 p.fp, .int .i64 p.tp, .int .i64 p.flags, .int .i64 p.label, .bool p.bare, .int .i64 p.code, .slice AO p.no cO, .slice AD p.nd cD]) (T := 26) rfl)
      simp only [List.toArray] at CE
      go_wp2_with fail
      refine (CL.out _ (HBY.out _ B1.out)).mono ?_
      rintro e w2 ⟨G, rfl, hG, hO, hb2⟩
      have O2 := hid (OB.base hO (show w.heap.size ≤ _ from B1.out.size))
      have hGw : w.heap.size ≤ G := Nat.le_trans B1.out.size hG
      have B2 := hid (B1.out.trans (hb2.mono B1.out.size))
      have hne : b ≠ G := by omega
      have CE2 := hid (CE.out.below hb2)
      clear hO hb2 hG CL B1 CE
      have y1 := CE2.out.2.1 1 _ rfl
      obtain ⟨g', e, hB, hgs, hce, hfr⟩ := Ow.block_ O2.out (by omega)
      injection e with e
      injection e with e _
      subst e
      have c1 := hce 1 (by omega)
      have f1 := hfr 1
      have i1 : (1 : Int) < L := by omega
      have u1 : IntKind.u8.wrap (p.life - 1) = p.life - 1 := by rw [IntKind.wrap_u8]; omega
      clear hce hfr
      go_upto_region 8 with (fail)
      have O3 := hid (OB.store O2.out 1 (p.life - 1))
      have B3 := hid (B2.out.trans (below_of_grown (grown_set w2 ⟨G, 1, none⟩ (.int .u8 (p.life - 1))) hGw B2.out.size))
      clear y1 c1 f1 CE2 O2 B2
      generalize w2.setCell ⟨G, 1, none⟩ (.int .u8 (p.life - 1)) = w3 at *
      have XB := hid (set1_B HG.out 1 (p.life - 1) (by omega) (by omega))
      have PG := hid (re_i64 (pair_any_ (some ⟨b, off, none⟩) L c g w3 (HBY.out _ B3.out) HG.out 0 (by omega) hc hb) (show pairF g L 0 = num g 0 2 from by unfold pairF; rw [if_neg (by omega)]))
      have PX := hid (re_i64 (pair_any_ (some ⟨G, 0, none⟩) L L (set1 g 1 (p.life - 1)) w3 O3.out.sl1 XB.out 0 (by omega) (Nat.le_refl _) hb) (show pairF _ L 0 = num (set1 g 1 (p.life - 1)) 0 2 from by unfold pairF; rw [if_neg (by omega)]))
      have b1 := num2_bd HG.out 0
      have b2 := num2_bd XB.out 0
      have TU := hid (wturn_any O3.out XB.out 14 (by omega) (Nat.le_refl _) hb (num g 0 2) (num (set1 g 1 (p.life - 1)) 0 2) b1.1 b1.2 b2.1 b2.2)
      clear b1 b2
      go_wp2_with fail
      refine PG.out.mono ?_
      rintro e w' ⟨rfl, rfl⟩
      go_wp2_with fail
      refine PX.out.mono ?_
      rintro e w' ⟨rfl, rfl⟩
      go_wp2_with fail
      refine TU.out.mono ?_
      rintro e w4 ⟨rfl, hO, hg4⟩
      have O4 := hid hO
      have B4 := hid (B3.out.trans (below_of_grown hg4 hGw B3.out.size))
      clear hO hg4
      go_wp2_with fail
      refine bodyPost_ret (v := .tuple #[.slice (some ⟨G, 0, none⟩) L L, .int .i64 0]) (by simp [results, Try.results30, go_sem]) rfl ?_
      rw [HE.out]
      refine ⟨_, rfl, ?_, B4.out⟩
      have := O4.out
      rw [PL.out, age_eq] at this
      exact this
  · have HE : Hid (ageE g L = z) := hid (by unfold ageE; rw [← hz, if_pos (by simpa using hz0)])
    have HZ0 : Hid (z ≠ 0) := hid (by simpa using hz0)
    generalize parseR g L = p at HP
    clear hz
    go_enter Try.func30, Try.ntmps30
    go_wp2_with fail
    refine HP.out.mono ?_
    rintro x w1 ⟨O, D, rfl, hO, hD, hb1⟩
    obtain ⟨AO, cO, rfl, _, _, _⟩ := hO.form_
    obtain ⟨AD, cD, rfl, _, _, _⟩ := hD.form_
    have B1 := hid (hb1.alloc hb1.size (.cells #[.int .i64 p.kind, .int .i64 p.life, .int .i64 p.piece, .int .i64 p.src, .int .i64 p.dst, .int .i64 p.fp, .int .i64 p.tp, .int .i64 p.flags, .int .i64 p.label, .bool p.bare, .int .i64 p.code, .slice AO p.no cO, .slice AD p.nd cD] 26))
    clear hb1 HP hO hD
    unfold pkV pkL
    go_simp
    go_wp2_with fail
    refine bodyPost_ret (v := .tuple #[.slice none 0 0, .int .i64 z]) (by simp [results, Try.results30, go_sem]) rfl ?_
    rw [HE.out]
    exact outd_no HZ0.out B1.out
end Go.Proofs.Ytjljaecjnpmdoaa
