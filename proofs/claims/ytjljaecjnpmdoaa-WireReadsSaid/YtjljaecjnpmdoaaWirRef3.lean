/- The reference's Nat. -/
import Derived.Test.YtjljaecjnpmdoaaWirRef1
import Derived.Test.YtjljaecjnpmdoaaWirNat
import Derived.BigQuiet
import Derived.Deep.RegionHeld3
import Derived.Deep.Cut
namespace Go.Proofs.Ytjljaecjnpmdoaa
set_option linter.unusedVariables false
set_option linter.unusedSimpArgs false
open Go.RowKit Go.ChangeShapes Go.WideShapes Go.ChangeAt

theorem putF_comm {x : Nat → Int} {s t m n : Nat} {u v : Int} (h : s + m ≤ t ∨ t + n ≤ s) : putF (putF x s m u) t n v = putF (putF x t n v) s m u := by
  funext j
  unfold putF
  by_cases h1 : s ≤ j ∧ j < s + m <;> by_cases h2 : t ≤ j ∧ j < t + n
  · exfalso; omega
  · simp only [h1, h2, if_true, if_false, and_self]
  · simp only [h1, h2, if_true, if_false, and_self]
  · simp only [h1, h2, if_true, if_false, and_self]
/-- Two sums' steps, where neither's pair is the other's sum. -/
theorem tstep_comm {s t L i k : Nat} {g x : Nat → Int} (hst : s + 2 ≤ t ∨ t + 2 ≤ s) (hi : i + 1 < t ∨ t + 2 ≤ i) (hk : k + 1 < s ∨ s + 2 ≤ k) (hiL : i < L) (hkL : k < L) : tstep s L g (tstep t L g x k) i = tstep t L g (tstep s L g x i) k := by
  have e1 : ∀ u, num (putF x t 2 u) s 2 = num x s 2 := fun u => num_out (by omega)
  have e2 : ∀ u, num (putF x s 2 u) t 2 = num x t 2 := fun u => num_out (by omega)
  have e3 : ∀ u, pairF (putF x t 2 u) L i = pairF x L i := fun u => pairF_ext (putF_out (by omega)) (fun _ => putF_out (by omega)) hiL
  have e4 : ∀ u, pairF (putF x s 2 u) L k = pairF x L k := fun u => pairF_ext (putF_out (by omega)) (fun _ => putF_out (by omega)) hkL
  unfold tstep
  rw [e1, e2, e3, e4]
  exact putF_comm (by omega)
/-- The reference's rounds. -/
def rnS (L : Nat) (g : Nat → Int) (was : Bool) (a : Nat) (x : Nat → Int) : Nat → Nat → Int
  | 0 => x
  | k + 1 => if was = true then tstep 14 L g (rnS L g was a x k) (a + 2 * k) else tstep 22 L g (tstep 14 L g (rnS L g was a x k) (a + 2 * k)) (a + 2 * k)
theorem rnS_B {L : Nat} {g x : Nat → Int} (hx : IsB x) (was : Bool) (a : Nat) : ∀ k, IsB (rnS L g was a x k)
  | 0 => hx
  | k + 1 => by
    unfold rnS
    split
    · exact tstep_B (rnS_B hx was a k) _
    · exact tstep_B (tstep_B (rnS_B hx was a k) _) _
theorem rnS_2 {L : Nat} {g x : Nat → Int} {a : Nat} (ha : a + 4 ≤ 14) (hL : 24 ≤ L) : rnS L g false a x 2 = tbody 22 L g 2 a (tbody 14 L g 2 a x) := by
  show tstep 22 L g (tstep 14 L g (tstep 22 L g (tstep 14 L g x (a + 2 * 0)) (a + 2 * 0)) (a + 2 * 1)) (a + 2 * 1) = tstep 22 L g (tstep 22 L g (tstep 14 L g (tstep 14 L g x a) (a + 2)) a) (a + 2)
  rw [show a + 2 * 0 = a from rfl, show a + 2 * 1 = a + 2 from rfl, tstep_comm (s := 14) (t := 22) (i := a + 2) (k := a) (by omega) (by omega) (by omega) (by omega) (by omega)]
theorem rnS_2t {L : Nat} {g x : Nat → Int} {a : Nat} : rnS L g true a x 2 = tbody 14 L g 2 a x := rfl
theorem natF_bare {g : Nat → Int} {L : Nat} {s : Bool} {ad po : Int} (h : bareF g = true) : natF g L s ad po = tbody 14 L g 2 (if s = true then 4 else 8) (natP g s ad po) := by unfold natF; rw [if_pos h]
theorem natF_talk {g : Nat → Int} {L : Nat} {s : Bool} {ad po : Int} (h : bareF g = false) : natF g L s ad po = fillF (tstep 22 L g (tbody 22 L g 2 (if s = true then 4 else 8) (tbody 14 L g 2 (if s = true then 4 else 8) (natP g s ad po))) (if s = true then 16 else 18)) := by unfold natF; rw [if_neg (by rw [h]; decide)]; rfl
theorem natP_B {g : Nat → Int} (hg : IsB g) (s : Bool) (ad po : Int) : IsB (natP g s ad po) := by unfold natP; split <;> exact putF_B (putF_B hg _ _ _) _ _ _
theorem pair_num {x : Nat → Int} {L i : Nat} (h : i + 1 ≠ L) : pairF x L i = num x i 2 := by unfold pairF; rw [if_neg h]
set_option maxHeartbeats 8000000 in
theorem rnat_any (A : Option Addr) (L c : Nat) (g : Nat → Int) (w : World) (h : By w A L g) (hg : IsB g) (hc : L ≤ c) (hb : L ≤ 1000000) (s : Bool) (ad po : Int) :
    Calls Try.prog 29 #[.slice A L c, .bool s, .int .i64 ad, .int .i64 po] w (Outd w (natE g L ad po) L (natF g L s ad po)) := by
  have HP := hid (rparse_any A L c g w h hg hc hb)
  have HBY := hid (fun (W : World) (hw : Below w.heap.size w W) => Sl.below h hw (Nat.le_refl _))
  have HG := hid hg
  have HH := hid h
  clear h hg
  obtain ⟨z, hz⟩ : ∃ z, z = parseE g L := ⟨_, rfl⟩
  unfold Parsed at HP
  rw [← hz] at HP
  cases hz0 : (z != 0)
  · have z0 : parseE g L = 0 := by rw [← hz]; simpa using hz0
    have pf := parse_facts z0
    have n24 := pf.1
    have n15 := pf.2.1
    have PK := hid (parse_life z0).2
    have HE : Hid (natE g L ad po = if g 0 = 3 then 2 else if (inR ad 4294967295 && inR po 65535) = true then 0 else 14) := hid (by unfold natE; rw [if_neg (fun h => h z0)])
    clear pf z0 hz
    generalize parseR g L = p at HP PK
    cases k3 : (p.kind == 3)
    · have k3' : ¬ g 0 = 3 := by rw [← PK.out]; simpa using k3
      rw [if_neg k3'] at HE
      clear k3'
      have RA := hid (fun w => rout_any ad 4294967295 w)
      have RP := hid (fun w => rout_any po 65535 w)
      cases r1 : inR ad 4294967295
      · rw [r1] at RA HE
        rw [Bool.false_and, if_neg (by decide)] at HE
        clear r1
        go_enter Try.func29, Try.ntmps29
        go_wp2_with fail
        refine HP.out.mono ?_
        rintro x w1 ⟨O, D, rfl, hO, hD, hb1⟩
        obtain ⟨AO, cO, rfl, _, _, _⟩ := hO.form_
        obtain ⟨AD, cD, rfl, _, _, _⟩ := hD.form_
        have B1 := hid (hb1.alloc hb1.size (.cells #[.int .i64 p.kind, .int .i64 p.life, .int .i64 p.piece, .int .i64 p.src, .int .i64 p.dst, .int .i64 p.fp, .int .i64 p.tp, .int .i64 p.flags, .int .i64 p.label, .bool p.bare, .int .i64 p.code, .slice AO p.no cO, .slice AD p.nd cD] 26))
        clear hb1 HP hO hD
        unfold pkV pkL
        go_simp
        skip
        have CE := hid (Ce.made (w := w1) (l := [.int .i64 p.kind, .int .i64 p.life, .int .i64 p.piece, .int .i64 p.src, .int .i64 p.dst, .int .i64 p.fp, .int .i64 p.tp, .int .i64 p.flags, .int .i64 p.label, .bool p.bare, .int .i64 p.code, .slice AO p.no cO, .slice AD p.nd cD]) (T := 26) rfl)
        simp only [List.toArray] at CE
        have k0 := CE.out.2.1 0 _ rfl
        go_wp2_with fail
        refine (RA.out _).mono ?_
        rintro e w' ⟨rfl, rfl⟩
        go_wp2_with fail
        refine bodyPost_ret (v := .tuple #[.slice none 0 0, .int .i64 14]) (by simp [results, Try.results29, go_sem]) rfl ?_
        rw [HE.out]
        exact outd_no (by decide) B1.out
      · cases r2 : inR po 65535
        · rw [r1] at RA HE
          rw [r2] at RP HE
          rw [Bool.and_false, if_neg (by decide)] at HE
          clear r1 r2
          go_enter Try.func29, Try.ntmps29
          go_wp2_with fail
          refine HP.out.mono ?_
          rintro x w1 ⟨O, D, rfl, hO, hD, hb1⟩
          obtain ⟨AO, cO, rfl, _, _, _⟩ := hO.form_
          obtain ⟨AD, cD, rfl, _, _, _⟩ := hD.form_
          have B1 := hid (hb1.alloc hb1.size (.cells #[.int .i64 p.kind, .int .i64 p.life, .int .i64 p.piece, .int .i64 p.src, .int .i64 p.dst, .int .i64 p.fp, .int .i64 p.tp, .int .i64 p.flags, .int .i64 p.label, .bool p.bare, .int .i64 p.code, .slice AO p.no cO, .slice AD p.nd cD] 26))
          clear hb1 HP hO hD
          unfold pkV pkL
          go_simp
          skip
          have CE := hid (Ce.made (w := w1) (l := [.int .i64 p.kind, .int .i64 p.life, .int .i64 p.piece, .int .i64 p.src, .int .i64 p.dst, .int .i64 p.fp, .int .i64 p.tp, .int .i64 p.flags, .int .i64 p.label, .bool p.bare, .int .i64 p.code, .slice AO p.no cO, .slice AD p.nd cD]) (T := 26) rfl)
          simp only [List.toArray] at CE
          have k0 := CE.out.2.1 0 _ rfl
          go_wp2_with fail
          refine (RA.out _).mono ?_
          rintro e w' ⟨rfl, rfl⟩
          go_wp2_with fail
          refine (RP.out _).mono ?_
          rintro e w' ⟨rfl, rfl⟩
          go_wp2_with fail
          refine bodyPost_ret (v := .tuple #[.slice none 0 0, .int .i64 14]) (by simp [results, Try.results29, go_sem]) rfl ?_
          rw [HE.out]
          exact outd_no (by decide) B1.out
        · rw [r1] at RA HE
          rw [r2] at RP HE
          rw [Bool.and_true, if_pos rfl] at HE
          clear r1 r2
          obtain ⟨b, off, rfl, hblt, _⟩ := HH.out (by omega)
          cases hbf : bareF g
          · have BF := hid hbf
            clear hbf
            cases s
            · skip
              have NP : natP g false ad po = putF (putF g 8 4 ad) 18 2 po := rfl
              go_enter Try.func29, Try.ntmps29
              go_wp2_with fail
              refine HP.out.mono ?_
              rintro x w1 ⟨O, D, rfl, hO, hD, hb1⟩
              obtain ⟨AO, cO, rfl, _, _, _⟩ := hO.form_
              obtain ⟨AD, cD, rfl, _, _, _⟩ := hD.form_
              have B1 := hid (hb1.alloc hb1.size (.cells #[.int .i64 p.kind, .int .i64 p.life, .int .i64 p.piece, .int .i64 p.src, .int .i64 p.dst, .int .i64 p.fp, .int .i64 p.tp, .int .i64 p.flags, .int .i64 p.label, .bool p.bare, .int .i64 p.code, .slice AO p.no cO, .slice AD p.nd cD] 26))
              clear hb1 HP hO hD
              unfold pkV pkL
              go_simp
              skip
              have CE := hid (Ce.made (w := w1) (l := [.int .i64 p.kind, .int .i64 p.life, .int .i64 p.piece, .int .i64 p.src, .int .i64 p.dst, .int .i64 p.fp, .int .i64 p.tp, .int .i64 p.flags, .int .i64 p.label, .bool p.bare, .int .i64 p.code, .slice AO p.no cO, .slice AD p.nd cD]) (T := 26) rfl)
              simp only [List.toArray] at CE
              have k0 := CE.out.2.1 0 _ rfl
              go_wp2_with fail
              refine (RA.out _).mono ?_
              rintro e w' ⟨rfl, rfl⟩
              go_wp2_with fail
              refine (RP.out _).mono ?_
              rintro e w' ⟨rfl, rfl⟩
              clear k0
              go_upto_region 8 with (fail)
              generalize (w1.alloc (.cells #[.int .i64 p.kind, .int .i64 p.life, .int .i64 p.piece, .int .i64 p.src, .int .i64 p.dst, .int .i64 p.fp, .int .i64 p.tp, .int .i64 p.flags, .int .i64 p.label, .bool p.bare, .int .i64 p.code, .slice AO p.no cO, .slice AD p.nd cD] 26)) = wA at *
              have lA : w.heap.size ≤ wA.heap.size := B1.out.size
              have lP : w1.heap.size < wA.heap.size := CE.out.1
              go_upto_region 9 with (at_builtin; refine wp_app_b0 rfl (.tmp 37) (.tmp 38) rfl wA.heap.size _ rfl (fun f => Ow.new' (w := wA) rfl) _ L _ g rfl (Sl.alloc (HBY.out _ B1.out) _) (by omega) (by simp) ?_; intro A2 c2 w2 h1 h2 h3 h4 h5 h6; have HOx := hid h1; have hc2 := h2; have BA := hid (Below.trans ((Below.refl wA.heap.size wA).alloc (Nat.le_refl _) (.cells #[] 5)) h4); clear h1 h2 h3 h4 h5 h6)
              have CE2 := hid (CE.out.below BA.out)
              have B2 := hid (B1.out.trans (BA.out.mono lA))
              obtain ⟨G, e, hB, hgs, hce, hfr⟩ := Ow.block_ HOx.out (by omega)
              subst e
              have O2 := hid (OB.base HOx.out lA)
              have hGw : w.heap.size ≤ G := by omega
              have hne : b ≠ G := by omega
              have hPG : w1.heap.size ≠ G := by omega
              clear hce hfr hgs HOx CE CE2 BA RA RP
              go_wp2_with fail
              refine (rput_any O2.out 8 4 ad (by omega) (by omega) hb).mono ?_
              rintro e w3 ⟨rfl, hO, hg3⟩
              have O3 := hid hO
              have G3 := hid hg3
              clear hO hg3 O2
              go_wp2_with fail
              refine (rput_any O3.out 18 2 po (by omega) (by omega) hb).mono ?_
              rintro e w4 ⟨rfl, hO, hg3⟩
              rw [← NP] at hO
              have O4 := hid hO
              have G4 := hid (G3.out.trans hg3)
              have B4 := hid (B2.out.trans (below_of_grown G4.out hGw B2.out.size))
              clear hO hg3 O3 G3 NP
              have XB := hid (natP_B HG.out false ad po)
              have BR := hid (re_bool (rbare_any (some ⟨b, off, none⟩) L c g w4 (HBY.out _ B4.out) HG.out (by omega) (.inr n24) hb) BF.out)
              go_wp2_with fail
              refine BR.out.mono ?_
              rintro e w' ⟨rfl, rfl⟩
              clear BR B4
              go_wp2_with fail
              go_loopw [16] (fun i wr => ∃ k : Nat, k ≤ 2 ∧ i = .int .i64 ((8 + 2 * k : Nat) : Int) ∧ OB wr w.heap.size (.slice (some ⟨G, 0, none⟩) L c2) L (rnS L g false 8 (natP g false ad po) k) ∧ w2.grownBy wr (some G)) (fun i _ => 20 - (intOf i).toNat)
              case atStart => exact ⟨0, by omega, rfl, O4.out, G4.out⟩
              case round =>
                obtain ⟨k, hk, rfl, ho, hgr⟩ := hrel
                obtain ⟨i, hi⟩ : ∃ i, i = 8 + 2 * k := ⟨_, rfl⟩
                rw [← hi]
                have HI := hid hi
                have HO := hid ho
                have HR := hid hgr
                have hkK : k < 2 ↔ i < 12 := by omega
                clear hi ho hgr O4 G4
                have B5 := hid (B2.out.trans (below_of_grown HR.out hGw B2.out.size))
                have HB := hid (rnS_B (L := L) (g := g) XB.out false 8 k)
                by_cases hlt : i < 12
                · have i1 : (i : Int) < 12 := by omega
                  have i2 : i + 1 < L := by omega
                  have i3 : IntKind.i64.wrap ((i : Int) + 2) = (i : Int) + 2 := IntWalk.i64_in _ (by omega)
                  have kl := hkK.2 hlt
                  clear hkK hlt
                  have NSa := hid (rnum_any (some ⟨G, 0, none⟩) L c2 _ wr HO.out.sl1 HB.out 14 2 (by omega) (by omega) hb)
                  have NGa := hid (rnum_any (some ⟨b, off, none⟩) L c g wr (HBY.out _ B5.out) HG.out i 2 (by omega) (by omega) hb)
                  have NXa := hid (rnum_any (some ⟨G, 0, none⟩) L c2 _ wr HO.out.sl1 HB.out i 2 (by omega) (by omega) hb)
                  have b1 := num2_bd HB.out 14
                  have b2 := num2_bd HG.out i
                  have b3 := num2_bd HB.out i
                  have TUa := hid (fun w => rturn_any (num (rnS L g false 8 (natP g false ad po) k) 14 2) (num g i 2) (num (rnS L g false 8 (natP g false ad po) k) i 2) w b1.1 b1.2 b2.1 b2.2 b3.1 b3.2)
                  have PUa := hid (rput_any HO.out 14 2 (turn (num (rnS L g false 8 (natP g false ad po) k) 14 2) (num g i 2) (num (rnS L g false 8 (natP g false ad po) k) i 2)) (by omega) (by omega) hb)
                  clear b1 b2 b3
                  go_wp2_with fail
                  refine NSa.out.mono ?_
                  rintro e w' ⟨rfl, rfl⟩
                  go_wp2_with fail
                  refine NGa.out.mono ?_
                  rintro e w' ⟨rfl, rfl⟩
                  go_wp2_with fail
                  refine NXa.out.mono ?_
                  rintro e w' ⟨rfl, rfl⟩
                  go_wp2_with fail
                  refine (TUa.out _).mono ?_
                  rintro e w' ⟨rfl, rfl⟩
                  go_wp2_with fail
                  refine PUa.out.mono ?_
                  rintro e w5 ⟨rfl, ho_a, hg_a⟩
                  have T1 : putF (rnS L g false 8 (natP g false ad po) k) 14 2 (turn (num (rnS L g false 8 (natP g false ad po) k) 14 2) (num g i 2) (num (rnS L g false 8 (natP g false ad po) k) i 2)) = (tstep 14 L g (rnS L g false 8 (natP g false ad po) k) i) := by unfold tstep; rw [pair_num (by omega), pair_num (by omega)]
                  rw [T1] at ho_a
                  have O5 := hid ho_a
                  have R5 := hid (HR.out.trans hg_a)
                  have HB5 := hid (tstep_B (s := 14) (L := L) (g := g) HB.out i)
                  clear ho_a hg_a T1
                  have B6 := hid (B2.out.trans (below_of_grown R5.out hGw B2.out.size))
                  have NSb := hid (rnum_any (some ⟨G, 0, none⟩) L c2 _ w5 O5.out.sl1 HB5.out 22 2 (by omega) (by omega) hb)
                  have NGb := hid (rnum_any (some ⟨b, off, none⟩) L c g w5 (HBY.out _ B6.out) HG.out i 2 (by omega) (by omega) hb)
                  have NXb := hid (rnum_any (some ⟨G, 0, none⟩) L c2 _ w5 O5.out.sl1 HB5.out i 2 (by omega) (by omega) hb)
                  have b1 := num2_bd HB5.out 22
                  have b2 := num2_bd HG.out i
                  have b3 := num2_bd HB5.out i
                  have TUb := hid (fun w => rturn_any (num (tstep 14 L g (rnS L g false 8 (natP g false ad po) k) i) 22 2) (num g i 2) (num (tstep 14 L g (rnS L g false 8 (natP g false ad po) k) i) i 2) w b1.1 b1.2 b2.1 b2.2 b3.1 b3.2)
                  have PUb := hid (rput_any O5.out 22 2 (turn (num (tstep 14 L g (rnS L g false 8 (natP g false ad po) k) i) 22 2) (num g i 2) (num (tstep 14 L g (rnS L g false 8 (natP g false ad po) k) i) i 2)) (by omega) (by omega) hb)
                  clear b1 b2 b3
                  go_wp2_with fail
                  refine NSb.out.mono ?_
                  rintro e w' ⟨rfl, rfl⟩
                  go_wp2_with fail
                  refine NGb.out.mono ?_
                  rintro e w' ⟨rfl, rfl⟩
                  go_wp2_with fail
                  refine NXb.out.mono ?_
                  rintro e w' ⟨rfl, rfl⟩
                  go_wp2_with fail
                  refine (TUb.out _).mono ?_
                  rintro e w' ⟨rfl, rfl⟩
                  go_wp2_with fail
                  refine PUb.out.mono ?_
                  rintro e w6 ⟨rfl, ho_b, hg_b⟩
                  have T2 : putF (tstep 14 L g (rnS L g false 8 (natP g false ad po) k) i) 22 2 (turn (num (tstep 14 L g (rnS L g false 8 (natP g false ad po) k) i) 22 2) (num g i 2) (num (tstep 14 L g (rnS L g false 8 (natP g false ad po) k) i) i 2)) = (tstep 22 L g (tstep 14 L g (rnS L g false 8 (natP g false ad po) k) i) i) := by rw [show (tstep 22 L g (tstep 14 L g (rnS L g false 8 (natP g false ad po) k) i) i) = putF (tstep 14 L g (rnS L g false 8 (natP g false ad po) k) i) 22 2 (turn (num (tstep 14 L g (rnS L g false 8 (natP g false ad po) k) i) 22 2) (pairF g L i) (pairF (tstep 14 L g (rnS L g false 8 (natP g false ad po) k) i) L i)) from rfl, pair_num (by omega), pair_num (by omega)]
                  rw [T2] at ho_b
                  have O6 := hid ho_b
                  have R6 := hid (R5.out.trans hg_b)
                  clear ho_b hg_b T2
                  go_wp2_with fail
                  go_roundw
                  case rel =>
                    refine ⟨k + 1, kl, by rw [HI.out]; go_num, ?_, R6.out⟩
                    have := O6.out
                    rw [HI.out] at this
                    exact this
                  case measure => simp [intOf]; omega
                · have i1 : ¬ (i : Int) < 12 := by omega
                  have kk : k = 2 := by omega
                  subst kk
                  clear hkK hlt HI
                  have NSc := hid (rnum_any (some ⟨G, 0, none⟩) L c2 _ wr HO.out.sl1 HB.out 22 2 (by omega) (by omega) hb)
                  have NGc := hid (rnum_any (some ⟨b, off, none⟩) L c g wr (HBY.out _ B5.out) HG.out 18 2 (by omega) (by omega) hb)
                  have NXc := hid (rnum_any (some ⟨G, 0, none⟩) L c2 _ wr HO.out.sl1 HB.out 18 2 (by omega) (by omega) hb)
                  have b1 := num2_bd HB.out 22
                  have b2 := num2_bd HG.out 18
                  have b3 := num2_bd HB.out 18
                  have TUc := hid (fun w => rturn_any (num (rnS L g false 8 (natP g false ad po) 2) 22 2) (num g 18 2) (num (rnS L g false 8 (natP g false ad po) 2) 18 2) w b1.1 b1.2 b2.1 b2.2 b3.1 b3.2)
                  have PUc := hid (rput_any HO.out 22 2 (turn (num (rnS L g false 8 (natP g false ad po) 2) 22 2) (num g 18 2) (num (rnS L g false 8 (natP g false ad po) 2) 18 2)) (by omega) (by omega) hb)
                  clear b1 b2 b3
                  go_wp2_with fail
                  refine NSc.out.mono ?_
                  rintro e w' ⟨rfl, rfl⟩
                  go_wp2_with fail
                  refine NGc.out.mono ?_
                  rintro e w' ⟨rfl, rfl⟩
                  go_wp2_with fail
                  refine NXc.out.mono ?_
                  rintro e w' ⟨rfl, rfl⟩
                  go_wp2_with fail
                  refine (TUc.out _).mono ?_
                  rintro e w' ⟨rfl, rfl⟩
                  go_wp2_with fail
                  refine PUc.out.mono ?_
                  rintro e w6 ⟨rfl, ho_c, hg_c⟩
                  have T3 : putF (rnS L g false 8 (natP g false ad po) 2) 22 2 (turn (num (rnS L g false 8 (natP g false ad po) 2) 22 2) (num g 18 2) (num (rnS L g false 8 (natP g false ad po) 2) 18 2)) = (tstep 22 L g (rnS L g false 8 (natP g false ad po) 2) 18) := by rw [show (tstep 22 L g (rnS L g false 8 (natP g false ad po) 2) 18) = putF (rnS L g false 8 (natP g false ad po) 2) 22 2 (turn (num (rnS L g false 8 (natP g false ad po) 2) 22 2) (pairF g L 18) (pairF (rnS L g false 8 (natP g false ad po) 2) L 18)) from rfl, pair_num (by omega), pair_num (by omega)]
                  rw [T3] at ho_c
                  have O6 := hid ho_c
                  have B6 := hid (B5.out.trans (below_of_grown hg_c hGw B5.out.size))
                  have HB6 := hid (tstep_B (s := 22) (L := L) (g := g) HB.out 18)
                  clear ho_c hg_c T3
                  go_wp2_with fail
                  refine (rend_any O6.out HB6.out (by omega) (.inr n24) hc2 hb false).mono ?_
                  rintro e w7 ⟨rfl, ho, hg7⟩
                  rw [if_neg (by decide)] at ho
                  have O8 := hid ho
                  have B8 := hid (B6.out.trans (below_of_grown hg7 hGw B6.out.size))
                  clear ho hg7
                  go_wp2_with fail
                  refine bodyPost_ret (v := .tuple #[.slice (some ⟨G, 0, none⟩) L c2, .int .i64 0]) (by simp [results, Try.results29, go_sem]) rfl ?_
                  rw [HE.out, natF_talk BF.out]
                  refine ⟨_, rfl, ?_, B8.out⟩
                  have := O8.out
                  rw [rnS_2 (by omega) n24] at this
                  exact this
            · skip
              have NP : natP g true ad po = putF (putF g 4 4 ad) 16 2 po := rfl
              go_enter Try.func29, Try.ntmps29
              go_wp2_with fail
              refine HP.out.mono ?_
              rintro x w1 ⟨O, D, rfl, hO, hD, hb1⟩
              obtain ⟨AO, cO, rfl, _, _, _⟩ := hO.form_
              obtain ⟨AD, cD, rfl, _, _, _⟩ := hD.form_
              have B1 := hid (hb1.alloc hb1.size (.cells #[.int .i64 p.kind, .int .i64 p.life, .int .i64 p.piece, .int .i64 p.src, .int .i64 p.dst, .int .i64 p.fp, .int .i64 p.tp, .int .i64 p.flags, .int .i64 p.label, .bool p.bare, .int .i64 p.code, .slice AO p.no cO, .slice AD p.nd cD] 26))
              clear hb1 HP hO hD
              unfold pkV pkL
              go_simp
              skip
              have CE := hid (Ce.made (w := w1) (l := [.int .i64 p.kind, .int .i64 p.life, .int .i64 p.piece, .int .i64 p.src, .int .i64 p.dst, .int .i64 p.fp, .int .i64 p.tp, .int .i64 p.flags, .int .i64 p.label, .bool p.bare, .int .i64 p.code, .slice AO p.no cO, .slice AD p.nd cD]) (T := 26) rfl)
              simp only [List.toArray] at CE
              have k0 := CE.out.2.1 0 _ rfl
              go_wp2_with fail
              refine (RA.out _).mono ?_
              rintro e w' ⟨rfl, rfl⟩
              go_wp2_with fail
              refine (RP.out _).mono ?_
              rintro e w' ⟨rfl, rfl⟩
              clear k0
              go_upto_region 8 with (fail)
              generalize (w1.alloc (.cells #[.int .i64 p.kind, .int .i64 p.life, .int .i64 p.piece, .int .i64 p.src, .int .i64 p.dst, .int .i64 p.fp, .int .i64 p.tp, .int .i64 p.flags, .int .i64 p.label, .bool p.bare, .int .i64 p.code, .slice AO p.no cO, .slice AD p.nd cD] 26)) = wA at *
              have lA : w.heap.size ≤ wA.heap.size := B1.out.size
              have lP : w1.heap.size < wA.heap.size := CE.out.1
              go_upto_region 9 with (at_builtin; refine wp_app_b0 rfl (.tmp 37) (.tmp 38) rfl wA.heap.size _ rfl (fun f => Ow.new' (w := wA) rfl) _ L _ g rfl (Sl.alloc (HBY.out _ B1.out) _) (by omega) (by simp) ?_; intro A2 c2 w2 h1 h2 h3 h4 h5 h6; have HOx := hid h1; have hc2 := h2; have BA := hid (Below.trans ((Below.refl wA.heap.size wA).alloc (Nat.le_refl _) (.cells #[] 5)) h4); clear h1 h2 h3 h4 h5 h6)
              have CE2 := hid (CE.out.below BA.out)
              have B2 := hid (B1.out.trans (BA.out.mono lA))
              obtain ⟨G, e, hB, hgs, hce, hfr⟩ := Ow.block_ HOx.out (by omega)
              subst e
              have O2 := hid (OB.base HOx.out lA)
              have hGw : w.heap.size ≤ G := by omega
              have hne : b ≠ G := by omega
              have hPG : w1.heap.size ≠ G := by omega
              clear hce hfr hgs HOx CE CE2 BA RA RP
              go_wp2_with fail
              refine (rput_any O2.out 4 4 ad (by omega) (by omega) hb).mono ?_
              rintro e w3 ⟨rfl, hO, hg3⟩
              have O3 := hid hO
              have G3 := hid hg3
              clear hO hg3 O2
              go_wp2_with fail
              refine (rput_any O3.out 16 2 po (by omega) (by omega) hb).mono ?_
              rintro e w4 ⟨rfl, hO, hg3⟩
              rw [← NP] at hO
              have O4 := hid hO
              have G4 := hid (G3.out.trans hg3)
              have B4 := hid (B2.out.trans (below_of_grown G4.out hGw B2.out.size))
              clear hO hg3 O3 G3 NP
              have XB := hid (natP_B HG.out true ad po)
              have BR := hid (re_bool (rbare_any (some ⟨b, off, none⟩) L c g w4 (HBY.out _ B4.out) HG.out (by omega) (.inr n24) hb) BF.out)
              go_wp2_with fail
              refine BR.out.mono ?_
              rintro e w' ⟨rfl, rfl⟩
              clear BR B4
              go_wp2_with fail
              go_loopw [16] (fun i wr => ∃ k : Nat, k ≤ 2 ∧ i = .int .i64 ((4 + 2 * k : Nat) : Int) ∧ OB wr w.heap.size (.slice (some ⟨G, 0, none⟩) L c2) L (rnS L g false 4 (natP g true ad po) k) ∧ w2.grownBy wr (some G)) (fun i _ => 20 - (intOf i).toNat)
              case atStart => exact ⟨0, by omega, rfl, O4.out, G4.out⟩
              case round =>
                obtain ⟨k, hk, rfl, ho, hgr⟩ := hrel
                obtain ⟨i, hi⟩ : ∃ i, i = 4 + 2 * k := ⟨_, rfl⟩
                rw [← hi]
                have HI := hid hi
                have HO := hid ho
                have HR := hid hgr
                have hkK : k < 2 ↔ i < 8 := by omega
                clear hi ho hgr O4 G4
                have B5 := hid (B2.out.trans (below_of_grown HR.out hGw B2.out.size))
                have HB := hid (rnS_B (L := L) (g := g) XB.out false 4 k)
                by_cases hlt : i < 8
                · have i1 : (i : Int) < 8 := by omega
                  have i2 : i + 1 < L := by omega
                  have i3 : IntKind.i64.wrap ((i : Int) + 2) = (i : Int) + 2 := IntWalk.i64_in _ (by omega)
                  have kl := hkK.2 hlt
                  clear hkK hlt
                  have NSa := hid (rnum_any (some ⟨G, 0, none⟩) L c2 _ wr HO.out.sl1 HB.out 14 2 (by omega) (by omega) hb)
                  have NGa := hid (rnum_any (some ⟨b, off, none⟩) L c g wr (HBY.out _ B5.out) HG.out i 2 (by omega) (by omega) hb)
                  have NXa := hid (rnum_any (some ⟨G, 0, none⟩) L c2 _ wr HO.out.sl1 HB.out i 2 (by omega) (by omega) hb)
                  have b1 := num2_bd HB.out 14
                  have b2 := num2_bd HG.out i
                  have b3 := num2_bd HB.out i
                  have TUa := hid (fun w => rturn_any (num (rnS L g false 4 (natP g true ad po) k) 14 2) (num g i 2) (num (rnS L g false 4 (natP g true ad po) k) i 2) w b1.1 b1.2 b2.1 b2.2 b3.1 b3.2)
                  have PUa := hid (rput_any HO.out 14 2 (turn (num (rnS L g false 4 (natP g true ad po) k) 14 2) (num g i 2) (num (rnS L g false 4 (natP g true ad po) k) i 2)) (by omega) (by omega) hb)
                  clear b1 b2 b3
                  go_wp2_with fail
                  refine NSa.out.mono ?_
                  rintro e w' ⟨rfl, rfl⟩
                  go_wp2_with fail
                  refine NGa.out.mono ?_
                  rintro e w' ⟨rfl, rfl⟩
                  go_wp2_with fail
                  refine NXa.out.mono ?_
                  rintro e w' ⟨rfl, rfl⟩
                  go_wp2_with fail
                  refine (TUa.out _).mono ?_
                  rintro e w' ⟨rfl, rfl⟩
                  go_wp2_with fail
                  refine PUa.out.mono ?_
                  rintro e w5 ⟨rfl, ho_a, hg_a⟩
                  have T1 : putF (rnS L g false 4 (natP g true ad po) k) 14 2 (turn (num (rnS L g false 4 (natP g true ad po) k) 14 2) (num g i 2) (num (rnS L g false 4 (natP g true ad po) k) i 2)) = (tstep 14 L g (rnS L g false 4 (natP g true ad po) k) i) := by unfold tstep; rw [pair_num (by omega), pair_num (by omega)]
                  rw [T1] at ho_a
                  have O5 := hid ho_a
                  have R5 := hid (HR.out.trans hg_a)
                  have HB5 := hid (tstep_B (s := 14) (L := L) (g := g) HB.out i)
                  clear ho_a hg_a T1
                  have B6 := hid (B2.out.trans (below_of_grown R5.out hGw B2.out.size))
                  have NSb := hid (rnum_any (some ⟨G, 0, none⟩) L c2 _ w5 O5.out.sl1 HB5.out 22 2 (by omega) (by omega) hb)
                  have NGb := hid (rnum_any (some ⟨b, off, none⟩) L c g w5 (HBY.out _ B6.out) HG.out i 2 (by omega) (by omega) hb)
                  have NXb := hid (rnum_any (some ⟨G, 0, none⟩) L c2 _ w5 O5.out.sl1 HB5.out i 2 (by omega) (by omega) hb)
                  have b1 := num2_bd HB5.out 22
                  have b2 := num2_bd HG.out i
                  have b3 := num2_bd HB5.out i
                  have TUb := hid (fun w => rturn_any (num (tstep 14 L g (rnS L g false 4 (natP g true ad po) k) i) 22 2) (num g i 2) (num (tstep 14 L g (rnS L g false 4 (natP g true ad po) k) i) i 2) w b1.1 b1.2 b2.1 b2.2 b3.1 b3.2)
                  have PUb := hid (rput_any O5.out 22 2 (turn (num (tstep 14 L g (rnS L g false 4 (natP g true ad po) k) i) 22 2) (num g i 2) (num (tstep 14 L g (rnS L g false 4 (natP g true ad po) k) i) i 2)) (by omega) (by omega) hb)
                  clear b1 b2 b3
                  go_wp2_with fail
                  refine NSb.out.mono ?_
                  rintro e w' ⟨rfl, rfl⟩
                  go_wp2_with fail
                  refine NGb.out.mono ?_
                  rintro e w' ⟨rfl, rfl⟩
                  go_wp2_with fail
                  refine NXb.out.mono ?_
                  rintro e w' ⟨rfl, rfl⟩
                  go_wp2_with fail
                  refine (TUb.out _).mono ?_
                  rintro e w' ⟨rfl, rfl⟩
                  go_wp2_with fail
                  refine PUb.out.mono ?_
                  rintro e w6 ⟨rfl, ho_b, hg_b⟩
                  have T2 : putF (tstep 14 L g (rnS L g false 4 (natP g true ad po) k) i) 22 2 (turn (num (tstep 14 L g (rnS L g false 4 (natP g true ad po) k) i) 22 2) (num g i 2) (num (tstep 14 L g (rnS L g false 4 (natP g true ad po) k) i) i 2)) = (tstep 22 L g (tstep 14 L g (rnS L g false 4 (natP g true ad po) k) i) i) := by rw [show (tstep 22 L g (tstep 14 L g (rnS L g false 4 (natP g true ad po) k) i) i) = putF (tstep 14 L g (rnS L g false 4 (natP g true ad po) k) i) 22 2 (turn (num (tstep 14 L g (rnS L g false 4 (natP g true ad po) k) i) 22 2) (pairF g L i) (pairF (tstep 14 L g (rnS L g false 4 (natP g true ad po) k) i) L i)) from rfl, pair_num (by omega), pair_num (by omega)]
                  rw [T2] at ho_b
                  have O6 := hid ho_b
                  have R6 := hid (R5.out.trans hg_b)
                  clear ho_b hg_b T2
                  go_wp2_with fail
                  go_roundw
                  case rel =>
                    refine ⟨k + 1, kl, by rw [HI.out]; go_num, ?_, R6.out⟩
                    have := O6.out
                    rw [HI.out] at this
                    exact this
                  case measure => simp [intOf]; omega
                · have i1 : ¬ (i : Int) < 8 := by omega
                  have kk : k = 2 := by omega
                  subst kk
                  clear hkK hlt HI
                  have NSc := hid (rnum_any (some ⟨G, 0, none⟩) L c2 _ wr HO.out.sl1 HB.out 22 2 (by omega) (by omega) hb)
                  have NGc := hid (rnum_any (some ⟨b, off, none⟩) L c g wr (HBY.out _ B5.out) HG.out 16 2 (by omega) (by omega) hb)
                  have NXc := hid (rnum_any (some ⟨G, 0, none⟩) L c2 _ wr HO.out.sl1 HB.out 16 2 (by omega) (by omega) hb)
                  have b1 := num2_bd HB.out 22
                  have b2 := num2_bd HG.out 16
                  have b3 := num2_bd HB.out 16
                  have TUc := hid (fun w => rturn_any (num (rnS L g false 4 (natP g true ad po) 2) 22 2) (num g 16 2) (num (rnS L g false 4 (natP g true ad po) 2) 16 2) w b1.1 b1.2 b2.1 b2.2 b3.1 b3.2)
                  have PUc := hid (rput_any HO.out 22 2 (turn (num (rnS L g false 4 (natP g true ad po) 2) 22 2) (num g 16 2) (num (rnS L g false 4 (natP g true ad po) 2) 16 2)) (by omega) (by omega) hb)
                  clear b1 b2 b3
                  go_wp2_with fail
                  refine NSc.out.mono ?_
                  rintro e w' ⟨rfl, rfl⟩
                  go_wp2_with fail
                  refine NGc.out.mono ?_
                  rintro e w' ⟨rfl, rfl⟩
                  go_wp2_with fail
                  refine NXc.out.mono ?_
                  rintro e w' ⟨rfl, rfl⟩
                  go_wp2_with fail
                  refine (TUc.out _).mono ?_
                  rintro e w' ⟨rfl, rfl⟩
                  go_wp2_with fail
                  refine PUc.out.mono ?_
                  rintro e w6 ⟨rfl, ho_c, hg_c⟩
                  have T3 : putF (rnS L g false 4 (natP g true ad po) 2) 22 2 (turn (num (rnS L g false 4 (natP g true ad po) 2) 22 2) (num g 16 2) (num (rnS L g false 4 (natP g true ad po) 2) 16 2)) = (tstep 22 L g (rnS L g false 4 (natP g true ad po) 2) 16) := by rw [show (tstep 22 L g (rnS L g false 4 (natP g true ad po) 2) 16) = putF (rnS L g false 4 (natP g true ad po) 2) 22 2 (turn (num (rnS L g false 4 (natP g true ad po) 2) 22 2) (pairF g L 16) (pairF (rnS L g false 4 (natP g true ad po) 2) L 16)) from rfl, pair_num (by omega), pair_num (by omega)]
                  rw [T3] at ho_c
                  have O6 := hid ho_c
                  have B6 := hid (B5.out.trans (below_of_grown hg_c hGw B5.out.size))
                  have HB6 := hid (tstep_B (s := 22) (L := L) (g := g) HB.out 16)
                  clear ho_c hg_c T3
                  go_wp2_with fail
                  refine (rend_any O6.out HB6.out (by omega) (.inr n24) hc2 hb false).mono ?_
                  rintro e w7 ⟨rfl, ho, hg7⟩
                  rw [if_neg (by decide)] at ho
                  have O8 := hid ho
                  have B8 := hid (B6.out.trans (below_of_grown hg7 hGw B6.out.size))
                  clear ho hg7
                  go_wp2_with fail
                  refine bodyPost_ret (v := .tuple #[.slice (some ⟨G, 0, none⟩) L c2, .int .i64 0]) (by simp [results, Try.results29, go_sem]) rfl ?_
                  rw [HE.out, natF_talk BF.out]
                  refine ⟨_, rfl, ?_, B8.out⟩
                  have := O8.out
                  rw [rnS_2 (by omega) n24] at this
                  exact this
          · have BF := hid hbf
            clear hbf
            cases s
            · skip
              have NP : natP g false ad po = putF (putF g 8 4 ad) 18 2 po := rfl
              go_enter Try.func29, Try.ntmps29
              go_wp2_with fail
              refine HP.out.mono ?_
              rintro x w1 ⟨O, D, rfl, hO, hD, hb1⟩
              obtain ⟨AO, cO, rfl, _, _, _⟩ := hO.form_
              obtain ⟨AD, cD, rfl, _, _, _⟩ := hD.form_
              have B1 := hid (hb1.alloc hb1.size (.cells #[.int .i64 p.kind, .int .i64 p.life, .int .i64 p.piece, .int .i64 p.src, .int .i64 p.dst, .int .i64 p.fp, .int .i64 p.tp, .int .i64 p.flags, .int .i64 p.label, .bool p.bare, .int .i64 p.code, .slice AO p.no cO, .slice AD p.nd cD] 26))
              clear hb1 HP hO hD
              unfold pkV pkL
              go_simp
              skip
              have CE := hid (Ce.made (w := w1) (l := [.int .i64 p.kind, .int .i64 p.life, .int .i64 p.piece, .int .i64 p.src, .int .i64 p.dst, .int .i64 p.fp, .int .i64 p.tp, .int .i64 p.flags, .int .i64 p.label, .bool p.bare, .int .i64 p.code, .slice AO p.no cO, .slice AD p.nd cD]) (T := 26) rfl)
              simp only [List.toArray] at CE
              have k0 := CE.out.2.1 0 _ rfl
              go_wp2_with fail
              refine (RA.out _).mono ?_
              rintro e w' ⟨rfl, rfl⟩
              go_wp2_with fail
              refine (RP.out _).mono ?_
              rintro e w' ⟨rfl, rfl⟩
              clear k0
              go_upto_region 8 with (fail)
              generalize (w1.alloc (.cells #[.int .i64 p.kind, .int .i64 p.life, .int .i64 p.piece, .int .i64 p.src, .int .i64 p.dst, .int .i64 p.fp, .int .i64 p.tp, .int .i64 p.flags, .int .i64 p.label, .bool p.bare, .int .i64 p.code, .slice AO p.no cO, .slice AD p.nd cD] 26)) = wA at *
              have lA : w.heap.size ≤ wA.heap.size := B1.out.size
              have lP : w1.heap.size < wA.heap.size := CE.out.1
              go_upto_region 9 with (at_builtin; refine wp_app_b0 rfl (.tmp 37) (.tmp 38) rfl wA.heap.size _ rfl (fun f => Ow.new' (w := wA) rfl) _ L _ g rfl (Sl.alloc (HBY.out _ B1.out) _) (by omega) (by simp) ?_; intro A2 c2 w2 h1 h2 h3 h4 h5 h6; have HOx := hid h1; have hc2 := h2; have BA := hid (Below.trans ((Below.refl wA.heap.size wA).alloc (Nat.le_refl _) (.cells #[] 5)) h4); clear h1 h2 h3 h4 h5 h6)
              have CE2 := hid (CE.out.below BA.out)
              have B2 := hid (B1.out.trans (BA.out.mono lA))
              obtain ⟨G, e, hB, hgs, hce, hfr⟩ := Ow.block_ HOx.out (by omega)
              subst e
              have O2 := hid (OB.base HOx.out lA)
              have hGw : w.heap.size ≤ G := by omega
              have hne : b ≠ G := by omega
              have hPG : w1.heap.size ≠ G := by omega
              clear hce hfr hgs HOx CE CE2 BA RA RP
              go_wp2_with fail
              refine (rput_any O2.out 8 4 ad (by omega) (by omega) hb).mono ?_
              rintro e w3 ⟨rfl, hO, hg3⟩
              have O3 := hid hO
              have G3 := hid hg3
              clear hO hg3 O2
              go_wp2_with fail
              refine (rput_any O3.out 18 2 po (by omega) (by omega) hb).mono ?_
              rintro e w4 ⟨rfl, hO, hg3⟩
              rw [← NP] at hO
              have O4 := hid hO
              have G4 := hid (G3.out.trans hg3)
              have B4 := hid (B2.out.trans (below_of_grown G4.out hGw B2.out.size))
              clear hO hg3 O3 G3 NP
              have XB := hid (natP_B HG.out false ad po)
              have BR := hid (re_bool (rbare_any (some ⟨b, off, none⟩) L c g w4 (HBY.out _ B4.out) HG.out (by omega) (.inr n24) hb) BF.out)
              go_wp2_with fail
              refine BR.out.mono ?_
              rintro e w' ⟨rfl, rfl⟩
              clear BR B4
              go_wp2_with fail
              go_loopw [16] (fun i wr => ∃ k : Nat, k ≤ 2 ∧ i = .int .i64 ((8 + 2 * k : Nat) : Int) ∧ OB wr w.heap.size (.slice (some ⟨G, 0, none⟩) L c2) L (rnS L g true 8 (natP g false ad po) k) ∧ w2.grownBy wr (some G)) (fun i _ => 20 - (intOf i).toNat)
              case atStart => exact ⟨0, by omega, rfl, O4.out, G4.out⟩
              case round =>
                obtain ⟨k, hk, rfl, ho, hgr⟩ := hrel
                obtain ⟨i, hi⟩ : ∃ i, i = 8 + 2 * k := ⟨_, rfl⟩
                rw [← hi]
                have HI := hid hi
                have HO := hid ho
                have HR := hid hgr
                have hkK : k < 2 ↔ i < 12 := by omega
                clear hi ho hgr O4 G4
                have B5 := hid (B2.out.trans (below_of_grown HR.out hGw B2.out.size))
                have HB := hid (rnS_B (L := L) (g := g) XB.out true 8 k)
                by_cases hlt : i < 12
                · have i1 : (i : Int) < 12 := by omega
                  have i2 : i + 1 < L := by omega
                  have i3 : IntKind.i64.wrap ((i : Int) + 2) = (i : Int) + 2 := IntWalk.i64_in _ (by omega)
                  have kl := hkK.2 hlt
                  clear hkK hlt
                  have NSa := hid (rnum_any (some ⟨G, 0, none⟩) L c2 _ wr HO.out.sl1 HB.out 14 2 (by omega) (by omega) hb)
                  have NGa := hid (rnum_any (some ⟨b, off, none⟩) L c g wr (HBY.out _ B5.out) HG.out i 2 (by omega) (by omega) hb)
                  have NXa := hid (rnum_any (some ⟨G, 0, none⟩) L c2 _ wr HO.out.sl1 HB.out i 2 (by omega) (by omega) hb)
                  have b1 := num2_bd HB.out 14
                  have b2 := num2_bd HG.out i
                  have b3 := num2_bd HB.out i
                  have TUa := hid (fun w => rturn_any (num (rnS L g true 8 (natP g false ad po) k) 14 2) (num g i 2) (num (rnS L g true 8 (natP g false ad po) k) i 2) w b1.1 b1.2 b2.1 b2.2 b3.1 b3.2)
                  have PUa := hid (rput_any HO.out 14 2 (turn (num (rnS L g true 8 (natP g false ad po) k) 14 2) (num g i 2) (num (rnS L g true 8 (natP g false ad po) k) i 2)) (by omega) (by omega) hb)
                  clear b1 b2 b3
                  go_wp2_with fail
                  refine NSa.out.mono ?_
                  rintro e w' ⟨rfl, rfl⟩
                  go_wp2_with fail
                  refine NGa.out.mono ?_
                  rintro e w' ⟨rfl, rfl⟩
                  go_wp2_with fail
                  refine NXa.out.mono ?_
                  rintro e w' ⟨rfl, rfl⟩
                  go_wp2_with fail
                  refine (TUa.out _).mono ?_
                  rintro e w' ⟨rfl, rfl⟩
                  go_wp2_with fail
                  refine PUa.out.mono ?_
                  rintro e w5 ⟨rfl, ho_a, hg_a⟩
                  have T1 : putF (rnS L g true 8 (natP g false ad po) k) 14 2 (turn (num (rnS L g true 8 (natP g false ad po) k) 14 2) (num g i 2) (num (rnS L g true 8 (natP g false ad po) k) i 2)) = (tstep 14 L g (rnS L g true 8 (natP g false ad po) k) i) := by unfold tstep; rw [pair_num (by omega), pair_num (by omega)]
                  rw [T1] at ho_a
                  have O5 := hid ho_a
                  have R5 := hid (HR.out.trans hg_a)
                  have HB5 := hid (tstep_B (s := 14) (L := L) (g := g) HB.out i)
                  clear ho_a hg_a T1
                  go_wp2_with fail
                  go_roundw
                  case rel =>
                    refine ⟨k + 1, kl, by rw [HI.out]; go_num, ?_, R5.out⟩
                    have := O5.out
                    rw [HI.out] at this
                    exact this
                  case measure => simp [intOf]; omega
                · have i1 : ¬ (i : Int) < 12 := by omega
                  have kk : k = 2 := by omega
                  subst kk
                  clear hkK hlt HI
                  go_wp2_with fail
                  refine (rend_any HO.out HB.out (by omega) (.inr n24) hc2 hb true).mono ?_
                  rintro e w7 ⟨rfl, ho, hg7⟩
                  rw [if_pos rfl] at ho
                  have O8 := hid ho
                  have B8 := hid (B5.out.trans (below_of_grown hg7 hGw B5.out.size))
                  clear ho hg7
                  go_wp2_with fail
                  refine bodyPost_ret (v := .tuple #[.slice (some ⟨G, 0, none⟩) L c2, .int .i64 0]) (by simp [results, Try.results29, go_sem]) rfl ?_
                  rw [HE.out, natF_bare BF.out]
                  exact ⟨_, rfl, O8.out, B8.out⟩
            · skip
              have NP : natP g true ad po = putF (putF g 4 4 ad) 16 2 po := rfl
              go_enter Try.func29, Try.ntmps29
              go_wp2_with fail
              refine HP.out.mono ?_
              rintro x w1 ⟨O, D, rfl, hO, hD, hb1⟩
              obtain ⟨AO, cO, rfl, _, _, _⟩ := hO.form_
              obtain ⟨AD, cD, rfl, _, _, _⟩ := hD.form_
              have B1 := hid (hb1.alloc hb1.size (.cells #[.int .i64 p.kind, .int .i64 p.life, .int .i64 p.piece, .int .i64 p.src, .int .i64 p.dst, .int .i64 p.fp, .int .i64 p.tp, .int .i64 p.flags, .int .i64 p.label, .bool p.bare, .int .i64 p.code, .slice AO p.no cO, .slice AD p.nd cD] 26))
              clear hb1 HP hO hD
              unfold pkV pkL
              go_simp
              skip
              have CE := hid (Ce.made (w := w1) (l := [.int .i64 p.kind, .int .i64 p.life, .int .i64 p.piece, .int .i64 p.src, .int .i64 p.dst, .int .i64 p.fp, .int .i64 p.tp, .int .i64 p.flags, .int .i64 p.label, .bool p.bare, .int .i64 p.code, .slice AO p.no cO, .slice AD p.nd cD]) (T := 26) rfl)
              simp only [List.toArray] at CE
              have k0 := CE.out.2.1 0 _ rfl
              go_wp2_with fail
              refine (RA.out _).mono ?_
              rintro e w' ⟨rfl, rfl⟩
              go_wp2_with fail
              refine (RP.out _).mono ?_
              rintro e w' ⟨rfl, rfl⟩
              clear k0
              go_upto_region 8 with (fail)
              generalize (w1.alloc (.cells #[.int .i64 p.kind, .int .i64 p.life, .int .i64 p.piece, .int .i64 p.src, .int .i64 p.dst, .int .i64 p.fp, .int .i64 p.tp, .int .i64 p.flags, .int .i64 p.label, .bool p.bare, .int .i64 p.code, .slice AO p.no cO, .slice AD p.nd cD] 26)) = wA at *
              have lA : w.heap.size ≤ wA.heap.size := B1.out.size
              have lP : w1.heap.size < wA.heap.size := CE.out.1
              go_upto_region 9 with (at_builtin; refine wp_app_b0 rfl (.tmp 37) (.tmp 38) rfl wA.heap.size _ rfl (fun f => Ow.new' (w := wA) rfl) _ L _ g rfl (Sl.alloc (HBY.out _ B1.out) _) (by omega) (by simp) ?_; intro A2 c2 w2 h1 h2 h3 h4 h5 h6; have HOx := hid h1; have hc2 := h2; have BA := hid (Below.trans ((Below.refl wA.heap.size wA).alloc (Nat.le_refl _) (.cells #[] 5)) h4); clear h1 h2 h3 h4 h5 h6)
              have CE2 := hid (CE.out.below BA.out)
              have B2 := hid (B1.out.trans (BA.out.mono lA))
              obtain ⟨G, e, hB, hgs, hce, hfr⟩ := Ow.block_ HOx.out (by omega)
              subst e
              have O2 := hid (OB.base HOx.out lA)
              have hGw : w.heap.size ≤ G := by omega
              have hne : b ≠ G := by omega
              have hPG : w1.heap.size ≠ G := by omega
              clear hce hfr hgs HOx CE CE2 BA RA RP
              go_wp2_with fail
              refine (rput_any O2.out 4 4 ad (by omega) (by omega) hb).mono ?_
              rintro e w3 ⟨rfl, hO, hg3⟩
              have O3 := hid hO
              have G3 := hid hg3
              clear hO hg3 O2
              go_wp2_with fail
              refine (rput_any O3.out 16 2 po (by omega) (by omega) hb).mono ?_
              rintro e w4 ⟨rfl, hO, hg3⟩
              rw [← NP] at hO
              have O4 := hid hO
              have G4 := hid (G3.out.trans hg3)
              have B4 := hid (B2.out.trans (below_of_grown G4.out hGw B2.out.size))
              clear hO hg3 O3 G3 NP
              have XB := hid (natP_B HG.out true ad po)
              have BR := hid (re_bool (rbare_any (some ⟨b, off, none⟩) L c g w4 (HBY.out _ B4.out) HG.out (by omega) (.inr n24) hb) BF.out)
              go_wp2_with fail
              refine BR.out.mono ?_
              rintro e w' ⟨rfl, rfl⟩
              clear BR B4
              go_wp2_with fail
              go_loopw [16] (fun i wr => ∃ k : Nat, k ≤ 2 ∧ i = .int .i64 ((4 + 2 * k : Nat) : Int) ∧ OB wr w.heap.size (.slice (some ⟨G, 0, none⟩) L c2) L (rnS L g true 4 (natP g true ad po) k) ∧ w2.grownBy wr (some G)) (fun i _ => 20 - (intOf i).toNat)
              case atStart => exact ⟨0, by omega, rfl, O4.out, G4.out⟩
              case round =>
                obtain ⟨k, hk, rfl, ho, hgr⟩ := hrel
                obtain ⟨i, hi⟩ : ∃ i, i = 4 + 2 * k := ⟨_, rfl⟩
                rw [← hi]
                have HI := hid hi
                have HO := hid ho
                have HR := hid hgr
                have hkK : k < 2 ↔ i < 8 := by omega
                clear hi ho hgr O4 G4
                have B5 := hid (B2.out.trans (below_of_grown HR.out hGw B2.out.size))
                have HB := hid (rnS_B (L := L) (g := g) XB.out true 4 k)
                by_cases hlt : i < 8
                · have i1 : (i : Int) < 8 := by omega
                  have i2 : i + 1 < L := by omega
                  have i3 : IntKind.i64.wrap ((i : Int) + 2) = (i : Int) + 2 := IntWalk.i64_in _ (by omega)
                  have kl := hkK.2 hlt
                  clear hkK hlt
                  have NSa := hid (rnum_any (some ⟨G, 0, none⟩) L c2 _ wr HO.out.sl1 HB.out 14 2 (by omega) (by omega) hb)
                  have NGa := hid (rnum_any (some ⟨b, off, none⟩) L c g wr (HBY.out _ B5.out) HG.out i 2 (by omega) (by omega) hb)
                  have NXa := hid (rnum_any (some ⟨G, 0, none⟩) L c2 _ wr HO.out.sl1 HB.out i 2 (by omega) (by omega) hb)
                  have b1 := num2_bd HB.out 14
                  have b2 := num2_bd HG.out i
                  have b3 := num2_bd HB.out i
                  have TUa := hid (fun w => rturn_any (num (rnS L g true 4 (natP g true ad po) k) 14 2) (num g i 2) (num (rnS L g true 4 (natP g true ad po) k) i 2) w b1.1 b1.2 b2.1 b2.2 b3.1 b3.2)
                  have PUa := hid (rput_any HO.out 14 2 (turn (num (rnS L g true 4 (natP g true ad po) k) 14 2) (num g i 2) (num (rnS L g true 4 (natP g true ad po) k) i 2)) (by omega) (by omega) hb)
                  clear b1 b2 b3
                  go_wp2_with fail
                  refine NSa.out.mono ?_
                  rintro e w' ⟨rfl, rfl⟩
                  go_wp2_with fail
                  refine NGa.out.mono ?_
                  rintro e w' ⟨rfl, rfl⟩
                  go_wp2_with fail
                  refine NXa.out.mono ?_
                  rintro e w' ⟨rfl, rfl⟩
                  go_wp2_with fail
                  refine (TUa.out _).mono ?_
                  rintro e w' ⟨rfl, rfl⟩
                  go_wp2_with fail
                  refine PUa.out.mono ?_
                  rintro e w5 ⟨rfl, ho_a, hg_a⟩
                  have T1 : putF (rnS L g true 4 (natP g true ad po) k) 14 2 (turn (num (rnS L g true 4 (natP g true ad po) k) 14 2) (num g i 2) (num (rnS L g true 4 (natP g true ad po) k) i 2)) = (tstep 14 L g (rnS L g true 4 (natP g true ad po) k) i) := by unfold tstep; rw [pair_num (by omega), pair_num (by omega)]
                  rw [T1] at ho_a
                  have O5 := hid ho_a
                  have R5 := hid (HR.out.trans hg_a)
                  have HB5 := hid (tstep_B (s := 14) (L := L) (g := g) HB.out i)
                  clear ho_a hg_a T1
                  go_wp2_with fail
                  go_roundw
                  case rel =>
                    refine ⟨k + 1, kl, by rw [HI.out]; go_num, ?_, R5.out⟩
                    have := O5.out
                    rw [HI.out] at this
                    exact this
                  case measure => simp [intOf]; omega
                · have i1 : ¬ (i : Int) < 8 := by omega
                  have kk : k = 2 := by omega
                  subst kk
                  clear hkK hlt HI
                  go_wp2_with fail
                  refine (rend_any HO.out HB.out (by omega) (.inr n24) hc2 hb true).mono ?_
                  rintro e w7 ⟨rfl, ho, hg7⟩
                  rw [if_pos rfl] at ho
                  have O8 := hid ho
                  have B8 := hid (B5.out.trans (below_of_grown hg7 hGw B5.out.size))
                  clear ho hg7
                  go_wp2_with fail
                  refine bodyPost_ret (v := .tuple #[.slice (some ⟨G, 0, none⟩) L c2, .int .i64 0]) (by simp [results, Try.results29, go_sem]) rfl ?_
                  rw [HE.out, natF_bare BF.out]
                  exact ⟨_, rfl, O8.out, B8.out⟩
    · have k3' : g 0 = 3 := by rw [← PK.out]; simpa using k3
      rw [if_pos k3'] at HE
      clear k3'
      go_enter Try.func29, Try.ntmps29
      go_wp2_with fail
      refine HP.out.mono ?_
      rintro x w1 ⟨O, D, rfl, hO, hD, hb1⟩
      obtain ⟨AO, cO, rfl, _, _, _⟩ := hO.form_
      obtain ⟨AD, cD, rfl, _, _, _⟩ := hD.form_
      have B1 := hid (hb1.alloc hb1.size (.cells #[.int .i64 p.kind, .int .i64 p.life, .int .i64 p.piece, .int .i64 p.src, .int .i64 p.dst, .int .i64 p.fp, .int .i64 p.tp, .int .i64 p.flags, .int .i64 p.label, .bool p.bare, .int .i64 p.code, .slice AO p.no cO, .slice AD p.nd cD] 26))
      clear hb1 HP hO hD
      unfold pkV pkL
      go_simp
      skip
      have CE := hid (Ce.made (w := w1) (l := [.int .i64 p.kind, .int .i64 p.life, .int .i64 p.piece, .int .i64 p.src, .int .i64 p.dst, .int .i64 p.fp, .int .i64 p.tp, .int .i64 p.flags, .int .i64 p.label, .bool p.bare, .int .i64 p.code, .slice AO p.no cO, .slice AD p.nd cD]) (T := 26) rfl)
      simp only [List.toArray] at CE
      have k0 := CE.out.2.1 0 _ rfl
      go_wp2_with fail
      refine bodyPost_ret (v := .tuple #[.slice none 0 0, .int .i64 2]) (by simp [results, Try.results29, go_sem]) rfl ?_
      rw [HE.out]
      exact outd_no (by decide) B1.out
  · have HE : Hid (natE g L ad po = z) := hid (by unfold natE; rw [← hz, if_pos (by simpa using hz0)])
    have HZ0 : Hid (z ≠ 0) := hid (by simpa using hz0)
    generalize parseR g L = p at HP
    clear hz
    go_enter Try.func29, Try.ntmps29
    go_wp2_with fail
    refine HP.out.mono ?_
    rintro x w1 ⟨O, D, rfl, hO, hD, hb1⟩
    obtain ⟨AO, cO, rfl, _, _, _⟩ := hO.form_
    obtain ⟨AD, cD, rfl, _, _, _⟩ := hD.form_
    have B1 := hid (hb1.alloc hb1.size (.cells #[.int .i64 p.kind, .int .i64 p.life, .int .i64 p.piece, .int .i64 p.src, .int .i64 p.dst, .int .i64 p.fp, .int .i64 p.tp, .int .i64 p.flags, .int .i64 p.label, .bool p.bare, .int .i64 p.code, .slice AO p.no cO, .slice AD p.nd cD] 26))
    clear hb1 HP hO hD
    unfold pkV pkL
    go_simp
    skip
    go_wp2_with fail
    refine bodyPost_ret (v := .tuple #[.slice none 0 0, .int .i64 z]) (by simp [results, Try.results29, go_sem]) rfl ?_
    rw [HE.out]
    exact outd_no HZ0.out B1.out
end Go.Proofs.Ytjljaecjnpmdoaa
