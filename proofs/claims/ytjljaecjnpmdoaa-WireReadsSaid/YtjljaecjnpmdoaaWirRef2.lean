/- The reference's Write. -/
import Derived.Test.YtjljaecjnpmdoaaWirRef1
import Derived.BigQuiet
import Derived.Deep.RegionHeld3
import Derived.Deep.Cut
namespace Go.Proofs.Ytjljaecjnpmdoaa
set_option linter.unusedVariables false
set_option linter.unusedSimpArgs false
open Go.RowKit Go.ChangeShapes Go.WideShapes Go.ChangeAt

theorem tmod_two (q : Nat) : (q : Int).tmod 2 = ((q % 2 : Nat) : Int) := by
  rw [Int.tmod_eq_emod_of_nonneg (by omega)]; omega
set_option maxHeartbeats 8000000 in
theorem rwrite1_any (A : Option Addr) (L c : Nat) (g : Nat → Int) (w : World) (h : By w A L g) (hg : IsB g) (hc : L ≤ c) (hb : L ≤ 1000000) (a v : Int) (ra : -9223372036854775808 ≤ a ∧ a ≤ 9223372036854775807) :
    Calls Try.prog 27 #[.slice A L c, .int .i64 a, .int .i64 1, .int .i64 v] w (Outd w (wrE g L a 1 v) L (wrF g L a.toNat 1 v)) := by
  have HP := hid (rparse_any A L c g w h hg hc hb)
  have HBY := hid (fun (W : World) (hw : Below w.heap.size w W) => Sl.below h hw (Nat.le_refl _))
  have HG := hid hg
  have HH := hid h
  clear h hg
  obtain ⟨z, hz⟩ : ∃ z, z = parseE g L := ⟨_, rfl⟩
  unfold Parsed at HP
  rw [← hz] at HP
  cases hz0 : (z != 0)
  · have z0 : parseE g L = 0 := by rw [← hz]; simpa using hz0
    have pf := parse_facts z0
    have n24 := pf.1
    have n15 := pf.2.1
    have HE : Hid (wrE g L a 1 v = if mayB g L a 1 v = true then 0 else 14) := hid (by unfold wrE; rw [if_neg (fun h => h z0)])
    have PK := hid (parse_life z0).2
    clear pf z0
    generalize parseR g L = p at HP PK
    have sl := kind_num g
    obtain ⟨s, hs⟩ : ∃ s, s = sumA (g 0) := ⟨_, rfl⟩
    have PA := hid (fun w => re_i64 (place_any p.kind w) (show ((sumA p.kind : Nat) : Int) = (s : Int) from by rw [PK.out, hs]))
    have HM : Hid (mayB g L a 1 v = (!decide (v < 0) && !decide (256 ≤ v) && !decide (a < 16) && !decide ((L : Int) - 1 < a) && !(decide (a < (s : Int) + 2) && decide ((s : Int) < a + 1)))) := hid (by
      rw [hs, Bool.eq_iff_iff]
      unfold mayB
      simp only [Bool.and_eq_true, Bool.or_eq_true, decide_eq_true_eq, beq_iff_eq, Bool.not_eq_true', decide_eq_false_iff_not, Bool.and_eq_false_iff]
      constructor
      · rintro ⟨⟨⟨⟨h1, h2⟩, h3⟩, h4⟩, h5⟩
        refine ⟨⟨⟨⟨by omega, by omega⟩, by omega⟩, by omega⟩, by omega⟩
      · rintro ⟨⟨⟨⟨h1, h2⟩, h3⟩, h4⟩, h5⟩
        refine ⟨⟨⟨⟨?_, by omega⟩, by omega⟩, by omega⟩, by omega⟩
        simp
        omega)
    have HS := hid hs
    rw [← hs] at sl
    have qs : IntKind.i64.wrap ((s : Int) + 2) = (s : Int) + 2 := IntWalk.i64_in _ (by omega)
    clear hz hs
    cases d1 : decide (v < 0)
    · cases d2 : decide ((256 : Int) ≤ v)
      · cases d3 : decide (a < 16)
        · have e3 : 16 ≤ a := by simpa using d3
          cases d4 : decide ((L : Int) - 1 < a)
          · have e4 : a ≤ (L : Int) - 1 := by simpa using d4
            have q2 : IntKind.i64.wrap (a + 1) = a + 1 := IntWalk.i64_in _ (by omega)
            cases d5 : decide (a < (s : Int) + 2)
            · have hd : mayB g L a 1 v = true := by rw [HM.out, d1, d2, d3, d4, d5]; rfl
              rw [hd, if_pos rfl] at HE
              have e5 : (s : Int) + 2 ≤ a := by simpa using d5
              have SO : s + 2 ≤ a ∨ a + 1 ≤ s := .inl e5
              replace SO := hid SO
              have e1 : ¬ v < 0 := by simpa using d1
              have e2 : ¬ (256 : Int) ≤ v := by simpa using d2
              clear hd d1 d2 d3 d4 d5
              obtain ⟨q, hq⟩ : ∃ q : Nat, a = (q : Int) := ⟨a.toNat, by omega⟩
              subst hq
              rw [Int.toNat_natCast] at *
              obtain ⟨b, off, rfl, hblt, _⟩ := HH.out (by omega)
              have q16 : 16 ≤ q := by omega
              have kq : q + 1 ≤ L := by omega
              have tq := tmod_two q
              obtain ⟨r, hr⟩ : ∃ r, r = q % 2 := ⟨_, rfl⟩
              rw [← hr] at tq
              have HRr := hid hr
              have rle : r ≤ 1 := by omega
              obtain ⟨a0, ha0⟩ : ∃ a0, a0 = q - q % 2 := ⟨_, rfl⟩
              have A0 := hid ha0
              have qa : (q : Int) - (r : Int) = (a0 : Int) := by omega
              have qw : IntKind.i64.wrap ((q : Int) - (r : Int)) = (a0 : Int) := by rw [qa]; exact IntWalk.i64_in _ (by omega)
              have a0le : a0 ≤ q := by omega
              obtain ⟨K, hK⟩ : ∃ K, K = (1 + q % 2 + 1) / 2 := ⟨_, rfl⟩
              have KK := hid hK
              have WF0 := hid (show wrF g L q 1 v = if bareF g = true then putF g q 1 v else fillF (tbody s L g K a0 (putF g q 1 v)) from by rw [hK, ha0, HS.out]; rfl)
              clear hr ha0 hK qa
              have PB := hid (putF_B HG.out q 1 v)
              have SO2 : s + 2 ≤ q ∨ q + 1 ≤ s := by have := SO.out; omega
              replace SO2 := hid SO2
              go_enter Try.func27, Try.ntmps27
              go_wp2_with fail
              refine HP.out.mono ?_
              rintro x w1 ⟨O, D, rfl, hO, hD, hb1⟩
              obtain ⟨AO, cO, rfl, _, _, _⟩ := hO.form_
              obtain ⟨AD, cD, rfl, _, _, _⟩ := hD.form_
              have B1 := hid (hb1.alloc hb1.size (.cells #[.int .i64 p.kind, .int .i64 p.life, .int .i64 p.piece, .int .i64 p.src, .int .i64 p.dst, .int .i64 p.fp, .int .i64 p.tp, .int .i64 p.flags, .int .i64 p.label, .bool p.bare, .int .i64 p.code, .slice AO p.no cO, .slice AD p.nd cD] 26))
              clear hb1 HP hO hD
              unfold pkV pkL
              go_simp
              skip
              have CE := hid (Ce.made (w := w1) (l := [.int .i64 p.kind, .int .i64 p.life, .int .i64 p.piece, .int .i64 p.src, .int .i64 p.dst, .int .i64 p.fp, .int .i64 p.tp, .int .i64 p.flags, .int .i64 p.label, .bool p.bare, .int .i64 p.code, .slice AO p.no cO, .slice AD p.nd cD]) (T := 26) rfl)
              simp only [List.toArray] at CE
              have k0 := CE.out.2.1 0 _ rfl
              go_wp2_with fail
              refine (PA.out _).mono ?_
              rintro e w' ⟨rfl, rfl⟩
              clear k0
              go_upto_region 9 with (fail)
              generalize (w1.alloc (.cells #[.int .i64 p.kind, .int .i64 p.life, .int .i64 p.piece, .int .i64 p.src, .int .i64 p.dst, .int .i64 p.fp, .int .i64 p.tp, .int .i64 p.flags, .int .i64 p.label, .bool p.bare, .int .i64 p.code, .slice AO p.no cO, .slice AD p.nd cD] 26)) = wA at *
              have lA : w.heap.size ≤ wA.heap.size := B1.out.size
              have lP : w1.heap.size < wA.heap.size := CE.out.1
              go_upto_region 10 with (at_builtin; refine wp_app_b0 rfl (.tmp 72) (.tmp 73) rfl wA.heap.size _ rfl (fun f => Ow.new' (w := wA) rfl) _ L _ g rfl (Sl.alloc (HBY.out _ B1.out) _) (by omega) (by simp) ?_; intro A2 c2 w2 h1 h2 h3 h4 h5 h6; have HOx := hid h1; have hc2 := h2; have BA := hid (Below.trans ((Below.refl wA.heap.size wA).alloc (Nat.le_refl _) (.cells #[] 5)) h4); clear h1 h2 h3 h4 h5 h6)
              have CE2 := hid (CE.out.below BA.out)
              have B2 := hid (B1.out.trans (BA.out.mono lA))
              obtain ⟨G, e, hB, hgs, hce, hfr⟩ := Ow.block_ HOx.out (by omega)
              subst e
              have O2 := hid (OB.base HOx.out lA)
              have hGw : w.heap.size ≤ G := by omega
              have hne : b ≠ G := by omega
              have hPG : w1.heap.size ≠ G := by omega
              clear hce hfr hgs HOx CE CE2 BA
              go_wp2_with fail
              refine (rput_any O2.out q 1 v kq (by omega) hb).mono ?_
              rintro e w3 ⟨rfl, hO, hg3⟩
              have O3 := hid hO
              have G3 := hid hg3
              have B3 := hid (B2.out.trans (below_of_grown hg3 hGw B2.out.size))
              clear hO hg3 O2
              have BR := hid (rbare_any (some ⟨b, off, none⟩) L c g w3 (HBY.out _ B3.out) HG.out (by omega) (.inr n24) hb)
              cases hbf : bareF g
              · rw [hbf] at BR
                have WF : Hid (wrF g L q 1 v = fillF (tbody s L g K a0 (putF g q 1 v))) := hid (by rw [WF0.out, hbf, if_neg (by decide)])
                clear hbf WF0
                go_wp2_with fail
                refine BR.out.mono ?_
                rintro e w' ⟨rfl, rfl⟩
                go_wp2_with fail
                go_loopw [15] (fun i wr => ∃ k : Nat, k ≤ K ∧ i = .int .i64 ((a0 + 2 * k : Nat) : Int) ∧ OB wr w.heap.size (.slice (some ⟨G, 0, none⟩) L c2) L (tbody s L g k a0 (putF g q 1 v)) ∧ w2.grownBy wr (some G)) (fun i _ => (q + 1 + 2) - (intOf i).toNat)
                case atStart => exact ⟨0, by omega, by go_num, O3.out, G3.out⟩
                case round =>
                  obtain ⟨k, hk, rfl, ho, hgr⟩ := hrel
                  obtain ⟨i, hi⟩ : ∃ i, i = a0 + 2 * k := ⟨_, rfl⟩
                  rw [← hi]
                  have HI := hid hi
                  have HO := hid ho
                  have HR := hid hgr
                  have hkK : k < K ↔ i < q + 1 := by have := A0.out; have := KK.out; omega
                  clear hi ho hgr O3 G3
                  have B5 := hid (B2.out.trans (below_of_grown HR.out hGw B2.out.size))
                  by_cases hlt : i < q + 1
                  · have i1 : (i : Int) < (q : Int) + 1 := by omega
                    have i2 : i < L := by omega
                    have i3 : IntKind.i64.wrap ((i : Int) + 2) = (i : Int) + 2 := IntWalk.i64_in _ (by omega)
                    have HB := hid (tbody_B (s := s) (L := L) (g := g) k a0 _ PB.out)
                    have kl := hkK.2 hlt
                    have bs := num2_bd HB.out s
                    have bx := pairF_bd HB.out L i
                    have bg := pairF_bd HG.out L i
                    have NS := hid (rnum_any (some ⟨G, 0, none⟩) L c2 _ wr HO.out.sl1 HB.out s 2 (by omega) (by omega) hb)
                    have PG := hid (rpair_any_ (some ⟨b, off, none⟩) L c g wr (HBY.out _ B5.out) HG.out i i2 hb)
                    have PO := hid (rpair_any_ (some ⟨G, 0, none⟩) L c2 _ wr HO.out.sl1 HB.out i i2 hb)
                    have TU := hid (fun w => rturn_any (num (tbody s L g k a0 (putF g q 1 v)) s 2) (pairF g L i) (pairF (tbody s L g k a0 (putF g q 1 v)) L i) w bs.1 bs.2 bg.1 bg.2 bx.1 bx.2)
                    have PU := hid (rput_any HO.out s 2 (turn (num (tbody s L g k a0 (putF g q 1 v)) s 2) (pairF g L i) (pairF (tbody s L g k a0 (putF g q 1 v)) L i)) (by omega) (by omega) hb)
                    clear hkK bx bg bs hlt
                    go_wp2_with fail
                    refine NS.out.mono ?_
                    rintro e w' ⟨rfl, rfl⟩
                    go_wp2_with fail
                    refine PG.out.mono ?_
                    rintro e w' ⟨rfl, rfl⟩
                    go_wp2_with fail
                    refine PO.out.mono ?_
                    rintro e w' ⟨rfl, rfl⟩
                    go_wp2_with fail
                    refine (TU.out _).mono ?_
                    rintro e w' ⟨rfl, rfl⟩
                    go_wp2_with fail
                    refine PU.out.mono ?_
                    rintro e w5 ⟨rfl, ho2, hg2⟩
                    have HO2 := hid ho2
                    have HR2 := hid (HR.out.trans hg2)
                    clear ho2 hg2
                    go_wp2_with fail
                    go_roundw
                    case rel =>
                      refine ⟨k + 1, kl, by rw [HI.out]; go_num, ?_, HR2.out⟩
                      have e := tbody_snoc s L g k a0 (putF g q 1 v)
                      rw [← e, ← HI.out]
                      exact HO2.out
                    case measure => simp [intOf]; omega
                  · have i1 : ¬ (i : Int) < (q : Int) + 1 := by omega
                    have kk : k = K := by omega
                    subst kk
                    clear hkK hlt
                    have HB := hid (tbody_B (s := s) (L := L) (g := g) k a0 _ PB.out)
                    go_wp2_with fail
                    refine (rend_any HO.out HB.out (by omega) (.inr n24) hc2 hb false).mono ?_
                    rintro e w5 ⟨rfl, ho2, hg2⟩
                    have HO2 := hid ho2
                    have B6 := hid (B5.out.trans (below_of_grown hg2 hGw B5.out.size))
                    clear ho2 hg2
                    go_wp2_with fail
                    refine bodyPost_ret (v := .tuple #[.slice (some ⟨G, 0, none⟩) L c2, .int .i64 0]) (by simp [results, Try.results27, go_sem]) rfl ?_
                    rw [HE.out, WF.out]
                    refine ⟨_, rfl, ?_, B6.out⟩
                    have := HO2.out
                    rw [if_neg (by decide)] at this
                    exact this
              · rw [hbf] at BR
                have WF : Hid (wrF g L q 1 v = putF g q 1 v) := hid (by rw [WF0.out, hbf, if_pos rfl])
                clear hbf WF0
                go_wp2_with fail
                refine BR.out.mono ?_
                rintro e w' ⟨rfl, rfl⟩
                go_wp2_with fail
                go_loopw [15] (fun i wr => i = .int .i64 (a0 : Int) ∧ OB wr w.heap.size (.slice (some ⟨G, 0, none⟩) L c2) L (putF g q 1 v) ∧ w2.grownBy wr (some G)) (fun i _ => 0)
                case atStart => exact ⟨by go_num, O3.out, G3.out⟩
                case round =>
                  obtain ⟨rfl, ho, hgr⟩ := hrel
                  have HO := hid ho
                  have HR := hid hgr
                  clear ho hgr O3 G3
                  have B5 := hid (B2.out.trans (below_of_grown HR.out hGw B2.out.size))
                  cases lt : decide ((a0 : Int) < (q : Int) + 1)
                  all_goals
                    go_wp2_with fail
                    refine (rend_any HO.out PB.out (by omega) (.inr n24) hc2 hb true).mono ?_
                    rintro e w5 ⟨rfl, ho2, hg2⟩
                    have HO2 := hid ho2
                    have B6 := hid (B5.out.trans (below_of_grown hg2 hGw B5.out.size))
                    clear ho2 hg2
                    go_wp2_with fail
                    refine bodyPost_ret (v := .tuple #[.slice (some ⟨G, 0, none⟩) L c2, .int .i64 0]) (by simp [results, Try.results27, go_sem]) rfl ?_
                    rw [HE.out, WF.out]
                    refine ⟨_, rfl, ?_, B6.out⟩
                    have := HO2.out
                    rw [if_pos True.intro] at this
                    exact this
            · cases d6 : decide ((s : Int) < a + 1)
              · have hd : mayB g L a 1 v = true := by rw [HM.out, d1, d2, d3, d4, d5, d6]; rfl
                rw [hd, if_pos rfl] at HE
                have e6 : a + 1 ≤ (s : Int) := by simpa using d6
                have e5 : a < (s : Int) + 2 := by simpa using d5
                have SO : (s : Int) + 2 ≤ a ∨ a + 1 ≤ (s : Int) := .inr e6
                replace SO := hid SO
                have e1 : ¬ v < 0 := by simpa using d1
                have e2 : ¬ (256 : Int) ≤ v := by simpa using d2
                clear hd d1 d2 d3 d4 d5 d6
                obtain ⟨q, hq⟩ : ∃ q : Nat, a = (q : Int) := ⟨a.toNat, by omega⟩
                subst hq
                rw [Int.toNat_natCast] at *
                obtain ⟨b, off, rfl, hblt, _⟩ := HH.out (by omega)
                have q16 : 16 ≤ q := by omega
                have kq : q + 1 ≤ L := by omega
                have tq := tmod_two q
                obtain ⟨r, hr⟩ : ∃ r, r = q % 2 := ⟨_, rfl⟩
                rw [← hr] at tq
                have HRr := hid hr
                have rle : r ≤ 1 := by omega
                obtain ⟨a0, ha0⟩ : ∃ a0, a0 = q - q % 2 := ⟨_, rfl⟩
                have A0 := hid ha0
                have qa : (q : Int) - (r : Int) = (a0 : Int) := by omega
                have qw : IntKind.i64.wrap ((q : Int) - (r : Int)) = (a0 : Int) := by rw [qa]; exact IntWalk.i64_in _ (by omega)
                have a0le : a0 ≤ q := by omega
                obtain ⟨K, hK⟩ : ∃ K, K = (1 + q % 2 + 1) / 2 := ⟨_, rfl⟩
                have KK := hid hK
                have WF0 := hid (show wrF g L q 1 v = if bareF g = true then putF g q 1 v else fillF (tbody s L g K a0 (putF g q 1 v)) from by rw [hK, ha0, HS.out]; rfl)
                clear hr ha0 hK qa
                have PB := hid (putF_B HG.out q 1 v)
                have SO2 : s + 2 ≤ q ∨ q + 1 ≤ s := by have := SO.out; omega
                replace SO2 := hid SO2
                go_enter Try.func27, Try.ntmps27
                go_wp2_with fail
                refine HP.out.mono ?_
                rintro x w1 ⟨O, D, rfl, hO, hD, hb1⟩
                obtain ⟨AO, cO, rfl, _, _, _⟩ := hO.form_
                obtain ⟨AD, cD, rfl, _, _, _⟩ := hD.form_
                have B1 := hid (hb1.alloc hb1.size (.cells #[.int .i64 p.kind, .int .i64 p.life, .int .i64 p.piece, .int .i64 p.src, .int .i64 p.dst, .int .i64 p.fp, .int .i64 p.tp, .int .i64 p.flags, .int .i64 p.label, .bool p.bare, .int .i64 p.code, .slice AO p.no cO, .slice AD p.nd cD] 26))
                clear hb1 HP hO hD
                unfold pkV pkL
                go_simp
                skip
                have CE := hid (Ce.made (w := w1) (l := [.int .i64 p.kind, .int .i64 p.life, .int .i64 p.piece, .int .i64 p.src, .int .i64 p.dst, .int .i64 p.fp, .int .i64 p.tp, .int .i64 p.flags, .int .i64 p.label, .bool p.bare, .int .i64 p.code, .slice AO p.no cO, .slice AD p.nd cD]) (T := 26) rfl)
                simp only [List.toArray] at CE
                have k0 := CE.out.2.1 0 _ rfl
                go_wp2_with fail
                refine (PA.out _).mono ?_
                rintro e w' ⟨rfl, rfl⟩
                clear k0
                go_upto_region 9 with (fail)
                generalize (w1.alloc (.cells #[.int .i64 p.kind, .int .i64 p.life, .int .i64 p.piece, .int .i64 p.src, .int .i64 p.dst, .int .i64 p.fp, .int .i64 p.tp, .int .i64 p.flags, .int .i64 p.label, .bool p.bare, .int .i64 p.code, .slice AO p.no cO, .slice AD p.nd cD] 26)) = wA at *
                have lA : w.heap.size ≤ wA.heap.size := B1.out.size
                have lP : w1.heap.size < wA.heap.size := CE.out.1
                go_upto_region 10 with (at_builtin; refine wp_app_b0 rfl (.tmp 72) (.tmp 73) rfl wA.heap.size _ rfl (fun f => Ow.new' (w := wA) rfl) _ L _ g rfl (Sl.alloc (HBY.out _ B1.out) _) (by omega) (by simp) ?_; intro A2 c2 w2 h1 h2 h3 h4 h5 h6; have HOx := hid h1; have hc2 := h2; have BA := hid (Below.trans ((Below.refl wA.heap.size wA).alloc (Nat.le_refl _) (.cells #[] 5)) h4); clear h1 h2 h3 h4 h5 h6)
                have CE2 := hid (CE.out.below BA.out)
                have B2 := hid (B1.out.trans (BA.out.mono lA))
                obtain ⟨G, e, hB, hgs, hce, hfr⟩ := Ow.block_ HOx.out (by omega)
                subst e
                have O2 := hid (OB.base HOx.out lA)
                have hGw : w.heap.size ≤ G := by omega
                have hne : b ≠ G := by omega
                have hPG : w1.heap.size ≠ G := by omega
                clear hce hfr hgs HOx CE CE2 BA
                go_wp2_with fail
                refine (rput_any O2.out q 1 v kq (by omega) hb).mono ?_
                rintro e w3 ⟨rfl, hO, hg3⟩
                have O3 := hid hO
                have G3 := hid hg3
                have B3 := hid (B2.out.trans (below_of_grown hg3 hGw B2.out.size))
                clear hO hg3 O2
                have BR := hid (rbare_any (some ⟨b, off, none⟩) L c g w3 (HBY.out _ B3.out) HG.out (by omega) (.inr n24) hb)
                cases hbf : bareF g
                · rw [hbf] at BR
                  have WF : Hid (wrF g L q 1 v = fillF (tbody s L g K a0 (putF g q 1 v))) := hid (by rw [WF0.out, hbf, if_neg (by decide)])
                  clear hbf WF0
                  go_wp2_with fail
                  refine BR.out.mono ?_
                  rintro e w' ⟨rfl, rfl⟩
                  go_wp2_with fail
                  go_loopw [15] (fun i wr => ∃ k : Nat, k ≤ K ∧ i = .int .i64 ((a0 + 2 * k : Nat) : Int) ∧ OB wr w.heap.size (.slice (some ⟨G, 0, none⟩) L c2) L (tbody s L g k a0 (putF g q 1 v)) ∧ w2.grownBy wr (some G)) (fun i _ => (q + 1 + 2) - (intOf i).toNat)
                  case atStart => exact ⟨0, by omega, by go_num, O3.out, G3.out⟩
                  case round =>
                    obtain ⟨k, hk, rfl, ho, hgr⟩ := hrel
                    obtain ⟨i, hi⟩ : ∃ i, i = a0 + 2 * k := ⟨_, rfl⟩
                    rw [← hi]
                    have HI := hid hi
                    have HO := hid ho
                    have HR := hid hgr
                    have hkK : k < K ↔ i < q + 1 := by have := A0.out; have := KK.out; omega
                    clear hi ho hgr O3 G3
                    have B5 := hid (B2.out.trans (below_of_grown HR.out hGw B2.out.size))
                    by_cases hlt : i < q + 1
                    · have i1 : (i : Int) < (q : Int) + 1 := by omega
                      have i2 : i < L := by omega
                      have i3 : IntKind.i64.wrap ((i : Int) + 2) = (i : Int) + 2 := IntWalk.i64_in _ (by omega)
                      have HB := hid (tbody_B (s := s) (L := L) (g := g) k a0 _ PB.out)
                      have kl := hkK.2 hlt
                      have bs := num2_bd HB.out s
                      have bx := pairF_bd HB.out L i
                      have bg := pairF_bd HG.out L i
                      have NS := hid (rnum_any (some ⟨G, 0, none⟩) L c2 _ wr HO.out.sl1 HB.out s 2 (by omega) (by omega) hb)
                      have PG := hid (rpair_any_ (some ⟨b, off, none⟩) L c g wr (HBY.out _ B5.out) HG.out i i2 hb)
                      have PO := hid (rpair_any_ (some ⟨G, 0, none⟩) L c2 _ wr HO.out.sl1 HB.out i i2 hb)
                      have TU := hid (fun w => rturn_any (num (tbody s L g k a0 (putF g q 1 v)) s 2) (pairF g L i) (pairF (tbody s L g k a0 (putF g q 1 v)) L i) w bs.1 bs.2 bg.1 bg.2 bx.1 bx.2)
                      have PU := hid (rput_any HO.out s 2 (turn (num (tbody s L g k a0 (putF g q 1 v)) s 2) (pairF g L i) (pairF (tbody s L g k a0 (putF g q 1 v)) L i)) (by omega) (by omega) hb)
                      clear hkK bx bg bs hlt
                      go_wp2_with fail
                      refine NS.out.mono ?_
                      rintro e w' ⟨rfl, rfl⟩
                      go_wp2_with fail
                      refine PG.out.mono ?_
                      rintro e w' ⟨rfl, rfl⟩
                      go_wp2_with fail
                      refine PO.out.mono ?_
                      rintro e w' ⟨rfl, rfl⟩
                      go_wp2_with fail
                      refine (TU.out _).mono ?_
                      rintro e w' ⟨rfl, rfl⟩
                      go_wp2_with fail
                      refine PU.out.mono ?_
                      rintro e w5 ⟨rfl, ho2, hg2⟩
                      have HO2 := hid ho2
                      have HR2 := hid (HR.out.trans hg2)
                      clear ho2 hg2
                      go_wp2_with fail
                      go_roundw
                      case rel =>
                        refine ⟨k + 1, kl, by rw [HI.out]; go_num, ?_, HR2.out⟩
                        have e := tbody_snoc s L g k a0 (putF g q 1 v)
                        rw [← e, ← HI.out]
                        exact HO2.out
                      case measure => simp [intOf]; omega
                    · have i1 : ¬ (i : Int) < (q : Int) + 1 := by omega
                      have kk : k = K := by omega
                      subst kk
                      clear hkK hlt
                      have HB := hid (tbody_B (s := s) (L := L) (g := g) k a0 _ PB.out)
                      go_wp2_with fail
                      refine (rend_any HO.out HB.out (by omega) (.inr n24) hc2 hb false).mono ?_
                      rintro e w5 ⟨rfl, ho2, hg2⟩
                      have HO2 := hid ho2
                      have B6 := hid (B5.out.trans (below_of_grown hg2 hGw B5.out.size))
                      clear ho2 hg2
                      go_wp2_with fail
                      refine bodyPost_ret (v := .tuple #[.slice (some ⟨G, 0, none⟩) L c2, .int .i64 0]) (by simp [results, Try.results27, go_sem]) rfl ?_
                      rw [HE.out, WF.out]
                      refine ⟨_, rfl, ?_, B6.out⟩
                      have := HO2.out
                      rw [if_neg (by decide)] at this
                      exact this
                · rw [hbf] at BR
                  have WF : Hid (wrF g L q 1 v = putF g q 1 v) := hid (by rw [WF0.out, hbf, if_pos rfl])
                  clear hbf WF0
                  go_wp2_with fail
                  refine BR.out.mono ?_
                  rintro e w' ⟨rfl, rfl⟩
                  go_wp2_with fail
                  go_loopw [15] (fun i wr => i = .int .i64 (a0 : Int) ∧ OB wr w.heap.size (.slice (some ⟨G, 0, none⟩) L c2) L (putF g q 1 v) ∧ w2.grownBy wr (some G)) (fun i _ => 0)
                  case atStart => exact ⟨by go_num, O3.out, G3.out⟩
                  case round =>
                    obtain ⟨rfl, ho, hgr⟩ := hrel
                    have HO := hid ho
                    have HR := hid hgr
                    clear ho hgr O3 G3
                    have B5 := hid (B2.out.trans (below_of_grown HR.out hGw B2.out.size))
                    cases lt : decide ((a0 : Int) < (q : Int) + 1)
                    all_goals
                      go_wp2_with fail
                      refine (rend_any HO.out PB.out (by omega) (.inr n24) hc2 hb true).mono ?_
                      rintro e w5 ⟨rfl, ho2, hg2⟩
                      have HO2 := hid ho2
                      have B6 := hid (B5.out.trans (below_of_grown hg2 hGw B5.out.size))
                      clear ho2 hg2
                      go_wp2_with fail
                      refine bodyPost_ret (v := .tuple #[.slice (some ⟨G, 0, none⟩) L c2, .int .i64 0]) (by simp [results, Try.results27, go_sem]) rfl ?_
                      rw [HE.out, WF.out]
                      refine ⟨_, rfl, ?_, B6.out⟩
                      have := HO2.out
                      rw [if_pos True.intro] at this
                      exact this
              · have hd : mayB g L a 1 v = false := by rw [HM.out, d1, d2, d3, d4, d5, d6]; rfl
                rw [hd, if_neg (by decide)] at HE
                clear hd
                go_enter Try.func27, Try.ntmps27
                go_wp2_with fail
                refine HP.out.mono ?_
                rintro x w1 ⟨O, D, rfl, hO, hD, hb1⟩
                obtain ⟨AO, cO, rfl, _, _, _⟩ := hO.form_
                obtain ⟨AD, cD, rfl, _, _, _⟩ := hD.form_
                have B1 := hid (hb1.alloc hb1.size (.cells #[.int .i64 p.kind, .int .i64 p.life, .int .i64 p.piece, .int .i64 p.src, .int .i64 p.dst, .int .i64 p.fp, .int .i64 p.tp, .int .i64 p.flags, .int .i64 p.label, .bool p.bare, .int .i64 p.code, .slice AO p.no cO, .slice AD p.nd cD] 26))
                clear hb1 HP hO hD
                unfold pkV pkL
                go_simp
                skip
                have CE := hid (Ce.made (w := w1) (l := [.int .i64 p.kind, .int .i64 p.life, .int .i64 p.piece, .int .i64 p.src, .int .i64 p.dst, .int .i64 p.fp, .int .i64 p.tp, .int .i64 p.flags, .int .i64 p.label, .bool p.bare, .int .i64 p.code, .slice AO p.no cO, .slice AD p.nd cD]) (T := 26) rfl)
                simp only [List.toArray] at CE
                have k0 := CE.out.2.1 0 _ rfl
                go_wp2_with fail
                refine (PA.out _).mono ?_
                rintro e w' ⟨rfl, rfl⟩
                go_wp2_with fail
                refine bodyPost_ret (v := .tuple #[.slice none 0 0, .int .i64 14]) (by simp [results, Try.results27, go_sem]) rfl ?_
                rw [HE.out]
                exact outd_no (by decide) B1.out
          · have hd : mayB g L a 1 v = false := by rw [HM.out, d1, d2, d3, d4]; rfl
            rw [hd, if_neg (by decide)] at HE
            clear hd
            go_enter Try.func27, Try.ntmps27
            go_wp2_with fail
            refine HP.out.mono ?_
            rintro x w1 ⟨O, D, rfl, hO, hD, hb1⟩
            obtain ⟨AO, cO, rfl, _, _, _⟩ := hO.form_
            obtain ⟨AD, cD, rfl, _, _, _⟩ := hD.form_
            have B1 := hid (hb1.alloc hb1.size (.cells #[.int .i64 p.kind, .int .i64 p.life, .int .i64 p.piece, .int .i64 p.src, .int .i64 p.dst, .int .i64 p.fp, .int .i64 p.tp, .int .i64 p.flags, .int .i64 p.label, .bool p.bare, .int .i64 p.code, .slice AO p.no cO, .slice AD p.nd cD] 26))
            clear hb1 HP hO hD
            unfold pkV pkL
            go_simp
            skip
            go_wp2_with fail
            refine bodyPost_ret (v := .tuple #[.slice none 0 0, .int .i64 14]) (by simp [results, Try.results27, go_sem]) rfl ?_
            rw [HE.out]
            exact outd_no (by decide) B1.out
        · have hd : mayB g L a 1 v = false := by rw [HM.out, d1, d2, d3]; rfl
          rw [hd, if_neg (by decide)] at HE
          clear hd
          go_enter Try.func27, Try.ntmps27
          go_wp2_with fail
          refine HP.out.mono ?_
          rintro x w1 ⟨O, D, rfl, hO, hD, hb1⟩
          obtain ⟨AO, cO, rfl, _, _, _⟩ := hO.form_
          obtain ⟨AD, cD, rfl, _, _, _⟩ := hD.form_
          have B1 := hid (hb1.alloc hb1.size (.cells #[.int .i64 p.kind, .int .i64 p.life, .int .i64 p.piece, .int .i64 p.src, .int .i64 p.dst, .int .i64 p.fp, .int .i64 p.tp, .int .i64 p.flags, .int .i64 p.label, .bool p.bare, .int .i64 p.code, .slice AO p.no cO, .slice AD p.nd cD] 26))
          clear hb1 HP hO hD
          unfold pkV pkL
          go_simp
          skip
          go_wp2_with fail
          refine bodyPost_ret (v := .tuple #[.slice none 0 0, .int .i64 14]) (by simp [results, Try.results27, go_sem]) rfl ?_
          rw [HE.out]
          exact outd_no (by decide) B1.out
      · have hd : mayB g L a 1 v = false := by rw [HM.out, d1, d2]; rfl
        rw [hd, if_neg (by decide)] at HE
        clear hd
        go_enter Try.func27, Try.ntmps27
        go_wp2_with fail
        refine HP.out.mono ?_
        rintro x w1 ⟨O, D, rfl, hO, hD, hb1⟩
        obtain ⟨AO, cO, rfl, _, _, _⟩ := hO.form_
        obtain ⟨AD, cD, rfl, _, _, _⟩ := hD.form_
        have B1 := hid (hb1.alloc hb1.size (.cells #[.int .i64 p.kind, .int .i64 p.life, .int .i64 p.piece, .int .i64 p.src, .int .i64 p.dst, .int .i64 p.fp, .int .i64 p.tp, .int .i64 p.flags, .int .i64 p.label, .bool p.bare, .int .i64 p.code, .slice AO p.no cO, .slice AD p.nd cD] 26))
        clear hb1 HP hO hD
        unfold pkV pkL
        go_simp
        skip
        go_wp2_with fail
        refine bodyPost_ret (v := .tuple #[.slice none 0 0, .int .i64 14]) (by simp [results, Try.results27, go_sem]) rfl ?_
        rw [HE.out]
        exact outd_no (by decide) B1.out
    · have hd : mayB g L a 1 v = false := by rw [HM.out, d1]; rfl
      rw [hd, if_neg (by decide)] at HE
      clear hd
      go_enter Try.func27, Try.ntmps27
      go_wp2_with fail
      refine HP.out.mono ?_
      rintro x w1 ⟨O, D, rfl, hO, hD, hb1⟩
      obtain ⟨AO, cO, rfl, _, _, _⟩ := hO.form_
      obtain ⟨AD, cD, rfl, _, _, _⟩ := hD.form_
      have B1 := hid (hb1.alloc hb1.size (.cells #[.int .i64 p.kind, .int .i64 p.life, .int .i64 p.piece, .int .i64 p.src, .int .i64 p.dst, .int .i64 p.fp, .int .i64 p.tp, .int .i64 p.flags, .int .i64 p.label, .bool p.bare, .int .i64 p.code, .slice AO p.no cO, .slice AD p.nd cD] 26))
      clear hb1 HP hO hD
      unfold pkV pkL
      go_simp
      skip
      go_wp2_with fail
      refine bodyPost_ret (v := .tuple #[.slice none 0 0, .int .i64 14]) (by simp [results, Try.results27, go_sem]) rfl ?_
      rw [HE.out]
      exact outd_no (by decide) B1.out
  · have HE : Hid (wrE g L a 1 v = z) := hid (by unfold wrE; rw [← hz, if_pos (by simpa using hz0)])
    have HZ0 : Hid (z ≠ 0) := hid (by simpa using hz0)
    generalize parseR g L = p at HP
    clear hz
    go_enter Try.func27, Try.ntmps27
    go_wp2_with fail
    refine HP.out.mono ?_
    rintro x w1 ⟨O, D, rfl, hO, hD, hb1⟩
    obtain ⟨AO, cO, rfl, _, _, _⟩ := hO.form_
    obtain ⟨AD, cD, rfl, _, _, _⟩ := hD.form_
    have B1 := hid (hb1.alloc hb1.size (.cells #[.int .i64 p.kind, .int .i64 p.life, .int .i64 p.piece, .int .i64 p.src, .int .i64 p.dst, .int .i64 p.fp, .int .i64 p.tp, .int .i64 p.flags, .int .i64 p.label, .bool p.bare, .int .i64 p.code, .slice AO p.no cO, .slice AD p.nd cD] 26))
    clear hb1 HP hO hD
    unfold pkV pkL
    go_simp
    skip
    go_wp2_with fail
    refine bodyPost_ret (v := .tuple #[.slice none 0 0, .int .i64 z]) (by simp [results, Try.results27, go_sem]) rfl ?_
    rw [HE.out]
    exact outd_no HZ0.out B1.out
set_option maxHeartbeats 8000000 in
theorem rwrite2_any (A : Option Addr) (L c : Nat) (g : Nat → Int) (w : World) (h : By w A L g) (hg : IsB g) (hc : L ≤ c) (hb : L ≤ 1000000) (a v : Int) (ra : -9223372036854775808 ≤ a ∧ a ≤ 9223372036854775807) :
    Calls Try.prog 27 #[.slice A L c, .int .i64 a, .int .i64 2, .int .i64 v] w (Outd w (wrE g L a 2 v) L (wrF g L a.toNat 2 v)) := by
  have HP := hid (rparse_any A L c g w h hg hc hb)
  have HBY := hid (fun (W : World) (hw : Below w.heap.size w W) => Sl.below h hw (Nat.le_refl _))
  have HG := hid hg
  have HH := hid h
  clear h hg
  obtain ⟨z, hz⟩ : ∃ z, z = parseE g L := ⟨_, rfl⟩
  unfold Parsed at HP
  rw [← hz] at HP
  cases hz0 : (z != 0)
  · have z0 : parseE g L = 0 := by rw [← hz]; simpa using hz0
    have pf := parse_facts z0
    have n24 := pf.1
    have n15 := pf.2.1
    have HE : Hid (wrE g L a 2 v = if mayB g L a 2 v = true then 0 else 14) := hid (by unfold wrE; rw [if_neg (fun h => h z0)])
    have PK := hid (parse_life z0).2
    clear pf z0
    generalize parseR g L = p at HP PK
    have sl := kind_num g
    obtain ⟨s, hs⟩ : ∃ s, s = sumA (g 0) := ⟨_, rfl⟩
    have PA := hid (fun w => re_i64 (place_any p.kind w) (show ((sumA p.kind : Nat) : Int) = (s : Int) from by rw [PK.out, hs]))
    have HM : Hid (mayB g L a 2 v = (!decide (v < 0) && !decide (65536 ≤ v) && !decide (a < 16) && !decide ((L : Int) - 2 < a) && !(decide (a < (s : Int) + 2) && decide ((s : Int) < a + 2)))) := hid (by
      rw [hs, Bool.eq_iff_iff]
      unfold mayB
      simp only [Bool.and_eq_true, Bool.or_eq_true, decide_eq_true_eq, beq_iff_eq, Bool.not_eq_true', decide_eq_false_iff_not, Bool.and_eq_false_iff]
      constructor
      · rintro ⟨⟨⟨⟨h1, h2⟩, h3⟩, h4⟩, h5⟩
        refine ⟨⟨⟨⟨by omega, by omega⟩, by omega⟩, by omega⟩, by omega⟩
      · rintro ⟨⟨⟨⟨h1, h2⟩, h3⟩, h4⟩, h5⟩
        refine ⟨⟨⟨⟨?_, by omega⟩, by omega⟩, by omega⟩, by omega⟩
        simp
        omega)
    have HS := hid hs
    rw [← hs] at sl
    have qs : IntKind.i64.wrap ((s : Int) + 2) = (s : Int) + 2 := IntWalk.i64_in _ (by omega)
    clear hz hs
    cases d1 : decide (v < 0)
    · cases d2 : decide ((65536 : Int) ≤ v)
      · cases d3 : decide (a < 16)
        · have e3 : 16 ≤ a := by simpa using d3
          cases d4 : decide ((L : Int) - 2 < a)
          · have e4 : a ≤ (L : Int) - 2 := by simpa using d4
            have q2 : IntKind.i64.wrap (a + 2) = a + 2 := IntWalk.i64_in _ (by omega)
            cases d5 : decide (a < (s : Int) + 2)
            · have hd : mayB g L a 2 v = true := by rw [HM.out, d1, d2, d3, d4, d5]; rfl
              rw [hd, if_pos rfl] at HE
              have e5 : (s : Int) + 2 ≤ a := by simpa using d5
              have SO : s + 2 ≤ a ∨ a + 2 ≤ s := .inl e5
              replace SO := hid SO
              have e1 : ¬ v < 0 := by simpa using d1
              have e2 : ¬ (65536 : Int) ≤ v := by simpa using d2
              clear hd d1 d2 d3 d4 d5
              obtain ⟨q, hq⟩ : ∃ q : Nat, a = (q : Int) := ⟨a.toNat, by omega⟩
              subst hq
              rw [Int.toNat_natCast] at *
              obtain ⟨b, off, rfl, hblt, _⟩ := HH.out (by omega)
              have q16 : 16 ≤ q := by omega
              have kq : q + 2 ≤ L := by omega
              have tq := tmod_two q
              obtain ⟨r, hr⟩ : ∃ r, r = q % 2 := ⟨_, rfl⟩
              rw [← hr] at tq
              have HRr := hid hr
              have rle : r ≤ 1 := by omega
              obtain ⟨a0, ha0⟩ : ∃ a0, a0 = q - q % 2 := ⟨_, rfl⟩
              have A0 := hid ha0
              have qa : (q : Int) - (r : Int) = (a0 : Int) := by omega
              have qw : IntKind.i64.wrap ((q : Int) - (r : Int)) = (a0 : Int) := by rw [qa]; exact IntWalk.i64_in _ (by omega)
              have a0le : a0 ≤ q := by omega
              obtain ⟨K, hK⟩ : ∃ K, K = (2 + q % 2 + 1) / 2 := ⟨_, rfl⟩
              have KK := hid hK
              have WF0 := hid (show wrF g L q 2 v = if bareF g = true then putF g q 2 v else fillF (tbody s L g K a0 (putF g q 2 v)) from by rw [hK, ha0, HS.out]; rfl)
              clear hr ha0 hK qa
              have PB := hid (putF_B HG.out q 2 v)
              have SO2 : s + 2 ≤ q ∨ q + 2 ≤ s := by have := SO.out; omega
              replace SO2 := hid SO2
              go_enter Try.func27, Try.ntmps27
              go_wp2_with fail
              refine HP.out.mono ?_
              rintro x w1 ⟨O, D, rfl, hO, hD, hb1⟩
              obtain ⟨AO, cO, rfl, _, _, _⟩ := hO.form_
              obtain ⟨AD, cD, rfl, _, _, _⟩ := hD.form_
              have B1 := hid (hb1.alloc hb1.size (.cells #[.int .i64 p.kind, .int .i64 p.life, .int .i64 p.piece, .int .i64 p.src, .int .i64 p.dst, .int .i64 p.fp, .int .i64 p.tp, .int .i64 p.flags, .int .i64 p.label, .bool p.bare, .int .i64 p.code, .slice AO p.no cO, .slice AD p.nd cD] 26))
              clear hb1 HP hO hD
              unfold pkV pkL
              go_simp
              skip
              have CE := hid (Ce.made (w := w1) (l := [.int .i64 p.kind, .int .i64 p.life, .int .i64 p.piece, .int .i64 p.src, .int .i64 p.dst, .int .i64 p.fp, .int .i64 p.tp, .int .i64 p.flags, .int .i64 p.label, .bool p.bare, .int .i64 p.code, .slice AO p.no cO, .slice AD p.nd cD]) (T := 26) rfl)
              simp only [List.toArray] at CE
              have k0 := CE.out.2.1 0 _ rfl
              go_wp2_with fail
              refine (PA.out _).mono ?_
              rintro e w' ⟨rfl, rfl⟩
              clear k0
              go_upto_region 9 with (fail)
              generalize (w1.alloc (.cells #[.int .i64 p.kind, .int .i64 p.life, .int .i64 p.piece, .int .i64 p.src, .int .i64 p.dst, .int .i64 p.fp, .int .i64 p.tp, .int .i64 p.flags, .int .i64 p.label, .bool p.bare, .int .i64 p.code, .slice AO p.no cO, .slice AD p.nd cD] 26)) = wA at *
              have lA : w.heap.size ≤ wA.heap.size := B1.out.size
              have lP : w1.heap.size < wA.heap.size := CE.out.1
              go_upto_region 10 with (at_builtin; refine wp_app_b0 rfl (.tmp 72) (.tmp 73) rfl wA.heap.size _ rfl (fun f => Ow.new' (w := wA) rfl) _ L _ g rfl (Sl.alloc (HBY.out _ B1.out) _) (by omega) (by simp) ?_; intro A2 c2 w2 h1 h2 h3 h4 h5 h6; have HOx := hid h1; have hc2 := h2; have BA := hid (Below.trans ((Below.refl wA.heap.size wA).alloc (Nat.le_refl _) (.cells #[] 5)) h4); clear h1 h2 h3 h4 h5 h6)
              have CE2 := hid (CE.out.below BA.out)
              have B2 := hid (B1.out.trans (BA.out.mono lA))
              obtain ⟨G, e, hB, hgs, hce, hfr⟩ := Ow.block_ HOx.out (by omega)
              subst e
              have O2 := hid (OB.base HOx.out lA)
              have hGw : w.heap.size ≤ G := by omega
              have hne : b ≠ G := by omega
              have hPG : w1.heap.size ≠ G := by omega
              clear hce hfr hgs HOx CE CE2 BA
              go_wp2_with fail
              refine (rput_any O2.out q 2 v kq (by omega) hb).mono ?_
              rintro e w3 ⟨rfl, hO, hg3⟩
              have O3 := hid hO
              have G3 := hid hg3
              have B3 := hid (B2.out.trans (below_of_grown hg3 hGw B2.out.size))
              clear hO hg3 O2
              have BR := hid (rbare_any (some ⟨b, off, none⟩) L c g w3 (HBY.out _ B3.out) HG.out (by omega) (.inr n24) hb)
              cases hbf : bareF g
              · rw [hbf] at BR
                have WF : Hid (wrF g L q 2 v = fillF (tbody s L g K a0 (putF g q 2 v))) := hid (by rw [WF0.out, hbf, if_neg (by decide)])
                clear hbf WF0
                go_wp2_with fail
                refine BR.out.mono ?_
                rintro e w' ⟨rfl, rfl⟩
                go_wp2_with fail
                go_loopw [15] (fun i wr => ∃ k : Nat, k ≤ K ∧ i = .int .i64 ((a0 + 2 * k : Nat) : Int) ∧ OB wr w.heap.size (.slice (some ⟨G, 0, none⟩) L c2) L (tbody s L g k a0 (putF g q 2 v)) ∧ w2.grownBy wr (some G)) (fun i _ => (q + 2 + 2) - (intOf i).toNat)
                case atStart => exact ⟨0, by omega, by go_num, O3.out, G3.out⟩
                case round =>
                  obtain ⟨k, hk, rfl, ho, hgr⟩ := hrel
                  obtain ⟨i, hi⟩ : ∃ i, i = a0 + 2 * k := ⟨_, rfl⟩
                  rw [← hi]
                  have HI := hid hi
                  have HO := hid ho
                  have HR := hid hgr
                  have hkK : k < K ↔ i < q + 2 := by have := A0.out; have := KK.out; omega
                  clear hi ho hgr O3 G3
                  have B5 := hid (B2.out.trans (below_of_grown HR.out hGw B2.out.size))
                  by_cases hlt : i < q + 2
                  · have i1 : (i : Int) < (q : Int) + 2 := by omega
                    have i2 : i < L := by omega
                    have i3 : IntKind.i64.wrap ((i : Int) + 2) = (i : Int) + 2 := IntWalk.i64_in _ (by omega)
                    have HB := hid (tbody_B (s := s) (L := L) (g := g) k a0 _ PB.out)
                    have kl := hkK.2 hlt
                    have bs := num2_bd HB.out s
                    have bx := pairF_bd HB.out L i
                    have bg := pairF_bd HG.out L i
                    have NS := hid (rnum_any (some ⟨G, 0, none⟩) L c2 _ wr HO.out.sl1 HB.out s 2 (by omega) (by omega) hb)
                    have PG := hid (rpair_any_ (some ⟨b, off, none⟩) L c g wr (HBY.out _ B5.out) HG.out i i2 hb)
                    have PO := hid (rpair_any_ (some ⟨G, 0, none⟩) L c2 _ wr HO.out.sl1 HB.out i i2 hb)
                    have TU := hid (fun w => rturn_any (num (tbody s L g k a0 (putF g q 2 v)) s 2) (pairF g L i) (pairF (tbody s L g k a0 (putF g q 2 v)) L i) w bs.1 bs.2 bg.1 bg.2 bx.1 bx.2)
                    have PU := hid (rput_any HO.out s 2 (turn (num (tbody s L g k a0 (putF g q 2 v)) s 2) (pairF g L i) (pairF (tbody s L g k a0 (putF g q 2 v)) L i)) (by omega) (by omega) hb)
                    clear hkK bx bg bs hlt
                    go_wp2_with fail
                    refine NS.out.mono ?_
                    rintro e w' ⟨rfl, rfl⟩
                    go_wp2_with fail
                    refine PG.out.mono ?_
                    rintro e w' ⟨rfl, rfl⟩
                    go_wp2_with fail
                    refine PO.out.mono ?_
                    rintro e w' ⟨rfl, rfl⟩
                    go_wp2_with fail
                    refine (TU.out _).mono ?_
                    rintro e w' ⟨rfl, rfl⟩
                    go_wp2_with fail
                    refine PU.out.mono ?_
                    rintro e w5 ⟨rfl, ho2, hg2⟩
                    have HO2 := hid ho2
                    have HR2 := hid (HR.out.trans hg2)
                    clear ho2 hg2
                    go_wp2_with fail
                    go_roundw
                    case rel =>
                      refine ⟨k + 1, kl, by rw [HI.out]; go_num, ?_, HR2.out⟩
                      have e := tbody_snoc s L g k a0 (putF g q 2 v)
                      rw [← e, ← HI.out]
                      exact HO2.out
                    case measure => simp [intOf]; omega
                  · have i1 : ¬ (i : Int) < (q : Int) + 2 := by omega
                    have kk : k = K := by omega
                    subst kk
                    clear hkK hlt
                    have HB := hid (tbody_B (s := s) (L := L) (g := g) k a0 _ PB.out)
                    go_wp2_with fail
                    refine (rend_any HO.out HB.out (by omega) (.inr n24) hc2 hb false).mono ?_
                    rintro e w5 ⟨rfl, ho2, hg2⟩
                    have HO2 := hid ho2
                    have B6 := hid (B5.out.trans (below_of_grown hg2 hGw B5.out.size))
                    clear ho2 hg2
                    go_wp2_with fail
                    refine bodyPost_ret (v := .tuple #[.slice (some ⟨G, 0, none⟩) L c2, .int .i64 0]) (by simp [results, Try.results27, go_sem]) rfl ?_
                    rw [HE.out, WF.out]
                    refine ⟨_, rfl, ?_, B6.out⟩
                    have := HO2.out
                    rw [if_neg (by decide)] at this
                    exact this
              · rw [hbf] at BR
                have WF : Hid (wrF g L q 2 v = putF g q 2 v) := hid (by rw [WF0.out, hbf, if_pos rfl])
                clear hbf WF0
                go_wp2_with fail
                refine BR.out.mono ?_
                rintro e w' ⟨rfl, rfl⟩
                go_wp2_with fail
                go_loopw [15] (fun i wr => i = .int .i64 (a0 : Int) ∧ OB wr w.heap.size (.slice (some ⟨G, 0, none⟩) L c2) L (putF g q 2 v) ∧ w2.grownBy wr (some G)) (fun i _ => 0)
                case atStart => exact ⟨by go_num, O3.out, G3.out⟩
                case round =>
                  obtain ⟨rfl, ho, hgr⟩ := hrel
                  have HO := hid ho
                  have HR := hid hgr
                  clear ho hgr O3 G3
                  have B5 := hid (B2.out.trans (below_of_grown HR.out hGw B2.out.size))
                  cases lt : decide ((a0 : Int) < (q : Int) + 2)
                  all_goals
                    go_wp2_with fail
                    refine (rend_any HO.out PB.out (by omega) (.inr n24) hc2 hb true).mono ?_
                    rintro e w5 ⟨rfl, ho2, hg2⟩
                    have HO2 := hid ho2
                    have B6 := hid (B5.out.trans (below_of_grown hg2 hGw B5.out.size))
                    clear ho2 hg2
                    go_wp2_with fail
                    refine bodyPost_ret (v := .tuple #[.slice (some ⟨G, 0, none⟩) L c2, .int .i64 0]) (by simp [results, Try.results27, go_sem]) rfl ?_
                    rw [HE.out, WF.out]
                    refine ⟨_, rfl, ?_, B6.out⟩
                    have := HO2.out
                    rw [if_pos True.intro] at this
                    exact this
            · cases d6 : decide ((s : Int) < a + 2)
              · have hd : mayB g L a 2 v = true := by rw [HM.out, d1, d2, d3, d4, d5, d6]; rfl
                rw [hd, if_pos rfl] at HE
                have e6 : a + 2 ≤ (s : Int) := by simpa using d6
                have e5 : a < (s : Int) + 2 := by simpa using d5
                have SO : (s : Int) + 2 ≤ a ∨ a + 2 ≤ (s : Int) := .inr e6
                replace SO := hid SO
                have e1 : ¬ v < 0 := by simpa using d1
                have e2 : ¬ (65536 : Int) ≤ v := by simpa using d2
                clear hd d1 d2 d3 d4 d5 d6
                obtain ⟨q, hq⟩ : ∃ q : Nat, a = (q : Int) := ⟨a.toNat, by omega⟩
                subst hq
                rw [Int.toNat_natCast] at *
                obtain ⟨b, off, rfl, hblt, _⟩ := HH.out (by omega)
                have q16 : 16 ≤ q := by omega
                have kq : q + 2 ≤ L := by omega
                have tq := tmod_two q
                obtain ⟨r, hr⟩ : ∃ r, r = q % 2 := ⟨_, rfl⟩
                rw [← hr] at tq
                have HRr := hid hr
                have rle : r ≤ 1 := by omega
                obtain ⟨a0, ha0⟩ : ∃ a0, a0 = q - q % 2 := ⟨_, rfl⟩
                have A0 := hid ha0
                have qa : (q : Int) - (r : Int) = (a0 : Int) := by omega
                have qw : IntKind.i64.wrap ((q : Int) - (r : Int)) = (a0 : Int) := by rw [qa]; exact IntWalk.i64_in _ (by omega)
                have a0le : a0 ≤ q := by omega
                obtain ⟨K, hK⟩ : ∃ K, K = (2 + q % 2 + 1) / 2 := ⟨_, rfl⟩
                have KK := hid hK
                have WF0 := hid (show wrF g L q 2 v = if bareF g = true then putF g q 2 v else fillF (tbody s L g K a0 (putF g q 2 v)) from by rw [hK, ha0, HS.out]; rfl)
                clear hr ha0 hK qa
                have PB := hid (putF_B HG.out q 2 v)
                have SO2 : s + 2 ≤ q ∨ q + 2 ≤ s := by have := SO.out; omega
                replace SO2 := hid SO2
                go_enter Try.func27, Try.ntmps27
                go_wp2_with fail
                refine HP.out.mono ?_
                rintro x w1 ⟨O, D, rfl, hO, hD, hb1⟩
                obtain ⟨AO, cO, rfl, _, _, _⟩ := hO.form_
                obtain ⟨AD, cD, rfl, _, _, _⟩ := hD.form_
                have B1 := hid (hb1.alloc hb1.size (.cells #[.int .i64 p.kind, .int .i64 p.life, .int .i64 p.piece, .int .i64 p.src, .int .i64 p.dst, .int .i64 p.fp, .int .i64 p.tp, .int .i64 p.flags, .int .i64 p.label, .bool p.bare, .int .i64 p.code, .slice AO p.no cO, .slice AD p.nd cD] 26))
                clear hb1 HP hO hD
                unfold pkV pkL
                go_simp
                skip
                have CE := hid (Ce.made (w := w1) (l := [.int .i64 p.kind, .int .i64 p.life, .int .i64 p.piece, .int .i64 p.src, .int .i64 p.dst, .int .i64 p.fp, .int .i64 p.tp, .int .i64 p.flags, .int .i64 p.label, .bool p.bare, .int .i64 p.code, .slice AO p.no cO, .slice AD p.nd cD]) (T := 26) rfl)
                simp only [List.toArray] at CE
                have k0 := CE.out.2.1 0 _ rfl
                go_wp2_with fail
                refine (PA.out _).mono ?_
                rintro e w' ⟨rfl, rfl⟩
                clear k0
                go_upto_region 9 with (fail)
                generalize (w1.alloc (.cells #[.int .i64 p.kind, .int .i64 p.life, .int .i64 p.piece, .int .i64 p.src, .int .i64 p.dst, .int .i64 p.fp, .int .i64 p.tp, .int .i64 p.flags, .int .i64 p.label, .bool p.bare, .int .i64 p.code, .slice AO p.no cO, .slice AD p.nd cD] 26)) = wA at *
                have lA : w.heap.size ≤ wA.heap.size := B1.out.size
                have lP : w1.heap.size < wA.heap.size := CE.out.1
                go_upto_region 10 with (at_builtin; refine wp_app_b0 rfl (.tmp 72) (.tmp 73) rfl wA.heap.size _ rfl (fun f => Ow.new' (w := wA) rfl) _ L _ g rfl (Sl.alloc (HBY.out _ B1.out) _) (by omega) (by simp) ?_; intro A2 c2 w2 h1 h2 h3 h4 h5 h6; have HOx := hid h1; have hc2 := h2; have BA := hid (Below.trans ((Below.refl wA.heap.size wA).alloc (Nat.le_refl _) (.cells #[] 5)) h4); clear h1 h2 h3 h4 h5 h6)
                have CE2 := hid (CE.out.below BA.out)
                have B2 := hid (B1.out.trans (BA.out.mono lA))
                obtain ⟨G, e, hB, hgs, hce, hfr⟩ := Ow.block_ HOx.out (by omega)
                subst e
                have O2 := hid (OB.base HOx.out lA)
                have hGw : w.heap.size ≤ G := by omega
                have hne : b ≠ G := by omega
                have hPG : w1.heap.size ≠ G := by omega
                clear hce hfr hgs HOx CE CE2 BA
                go_wp2_with fail
                refine (rput_any O2.out q 2 v kq (by omega) hb).mono ?_
                rintro e w3 ⟨rfl, hO, hg3⟩
                have O3 := hid hO
                have G3 := hid hg3
                have B3 := hid (B2.out.trans (below_of_grown hg3 hGw B2.out.size))
                clear hO hg3 O2
                have BR := hid (rbare_any (some ⟨b, off, none⟩) L c g w3 (HBY.out _ B3.out) HG.out (by omega) (.inr n24) hb)
                cases hbf : bareF g
                · rw [hbf] at BR
                  have WF : Hid (wrF g L q 2 v = fillF (tbody s L g K a0 (putF g q 2 v))) := hid (by rw [WF0.out, hbf, if_neg (by decide)])
                  clear hbf WF0
                  go_wp2_with fail
                  refine BR.out.mono ?_
                  rintro e w' ⟨rfl, rfl⟩
                  go_wp2_with fail
                  go_loopw [15] (fun i wr => ∃ k : Nat, k ≤ K ∧ i = .int .i64 ((a0 + 2 * k : Nat) : Int) ∧ OB wr w.heap.size (.slice (some ⟨G, 0, none⟩) L c2) L (tbody s L g k a0 (putF g q 2 v)) ∧ w2.grownBy wr (some G)) (fun i _ => (q + 2 + 2) - (intOf i).toNat)
                  case atStart => exact ⟨0, by omega, by go_num, O3.out, G3.out⟩
                  case round =>
                    obtain ⟨k, hk, rfl, ho, hgr⟩ := hrel
                    obtain ⟨i, hi⟩ : ∃ i, i = a0 + 2 * k := ⟨_, rfl⟩
                    rw [← hi]
                    have HI := hid hi
                    have HO := hid ho
                    have HR := hid hgr
                    have hkK : k < K ↔ i < q + 2 := by have := A0.out; have := KK.out; omega
                    clear hi ho hgr O3 G3
                    have B5 := hid (B2.out.trans (below_of_grown HR.out hGw B2.out.size))
                    by_cases hlt : i < q + 2
                    · have i1 : (i : Int) < (q : Int) + 2 := by omega
                      have i2 : i < L := by omega
                      have i3 : IntKind.i64.wrap ((i : Int) + 2) = (i : Int) + 2 := IntWalk.i64_in _ (by omega)
                      have HB := hid (tbody_B (s := s) (L := L) (g := g) k a0 _ PB.out)
                      have kl := hkK.2 hlt
                      have bs := num2_bd HB.out s
                      have bx := pairF_bd HB.out L i
                      have bg := pairF_bd HG.out L i
                      have NS := hid (rnum_any (some ⟨G, 0, none⟩) L c2 _ wr HO.out.sl1 HB.out s 2 (by omega) (by omega) hb)
                      have PG := hid (rpair_any_ (some ⟨b, off, none⟩) L c g wr (HBY.out _ B5.out) HG.out i i2 hb)
                      have PO := hid (rpair_any_ (some ⟨G, 0, none⟩) L c2 _ wr HO.out.sl1 HB.out i i2 hb)
                      have TU := hid (fun w => rturn_any (num (tbody s L g k a0 (putF g q 2 v)) s 2) (pairF g L i) (pairF (tbody s L g k a0 (putF g q 2 v)) L i) w bs.1 bs.2 bg.1 bg.2 bx.1 bx.2)
                      have PU := hid (rput_any HO.out s 2 (turn (num (tbody s L g k a0 (putF g q 2 v)) s 2) (pairF g L i) (pairF (tbody s L g k a0 (putF g q 2 v)) L i)) (by omega) (by omega) hb)
                      clear hkK bx bg bs hlt
                      go_wp2_with fail
                      refine NS.out.mono ?_
                      rintro e w' ⟨rfl, rfl⟩
                      go_wp2_with fail
                      refine PG.out.mono ?_
                      rintro e w' ⟨rfl, rfl⟩
                      go_wp2_with fail
                      refine PO.out.mono ?_
                      rintro e w' ⟨rfl, rfl⟩
                      go_wp2_with fail
                      refine (TU.out _).mono ?_
                      rintro e w' ⟨rfl, rfl⟩
                      go_wp2_with fail
                      refine PU.out.mono ?_
                      rintro e w5 ⟨rfl, ho2, hg2⟩
                      have HO2 := hid ho2
                      have HR2 := hid (HR.out.trans hg2)
                      clear ho2 hg2
                      go_wp2_with fail
                      go_roundw
                      case rel =>
                        refine ⟨k + 1, kl, by rw [HI.out]; go_num, ?_, HR2.out⟩
                        have e := tbody_snoc s L g k a0 (putF g q 2 v)
                        rw [← e, ← HI.out]
                        exact HO2.out
                      case measure => simp [intOf]; omega
                    · have i1 : ¬ (i : Int) < (q : Int) + 2 := by omega
                      have kk : k = K := by omega
                      subst kk
                      clear hkK hlt
                      have HB := hid (tbody_B (s := s) (L := L) (g := g) k a0 _ PB.out)
                      go_wp2_with fail
                      refine (rend_any HO.out HB.out (by omega) (.inr n24) hc2 hb false).mono ?_
                      rintro e w5 ⟨rfl, ho2, hg2⟩
                      have HO2 := hid ho2
                      have B6 := hid (B5.out.trans (below_of_grown hg2 hGw B5.out.size))
                      clear ho2 hg2
                      go_wp2_with fail
                      refine bodyPost_ret (v := .tuple #[.slice (some ⟨G, 0, none⟩) L c2, .int .i64 0]) (by simp [results, Try.results27, go_sem]) rfl ?_
                      rw [HE.out, WF.out]
                      refine ⟨_, rfl, ?_, B6.out⟩
                      have := HO2.out
                      rw [if_neg (by decide)] at this
                      exact this
                · rw [hbf] at BR
                  have WF : Hid (wrF g L q 2 v = putF g q 2 v) := hid (by rw [WF0.out, hbf, if_pos rfl])
                  clear hbf WF0
                  go_wp2_with fail
                  refine BR.out.mono ?_
                  rintro e w' ⟨rfl, rfl⟩
                  go_wp2_with fail
                  go_loopw [15] (fun i wr => i = .int .i64 (a0 : Int) ∧ OB wr w.heap.size (.slice (some ⟨G, 0, none⟩) L c2) L (putF g q 2 v) ∧ w2.grownBy wr (some G)) (fun i _ => 0)
                  case atStart => exact ⟨by go_num, O3.out, G3.out⟩
                  case round =>
                    obtain ⟨rfl, ho, hgr⟩ := hrel
                    have HO := hid ho
                    have HR := hid hgr
                    clear ho hgr O3 G3
                    have B5 := hid (B2.out.trans (below_of_grown HR.out hGw B2.out.size))
                    cases lt : decide ((a0 : Int) < (q : Int) + 2)
                    all_goals
                      go_wp2_with fail
                      refine (rend_any HO.out PB.out (by omega) (.inr n24) hc2 hb true).mono ?_
                      rintro e w5 ⟨rfl, ho2, hg2⟩
                      have HO2 := hid ho2
                      have B6 := hid (B5.out.trans (below_of_grown hg2 hGw B5.out.size))
                      clear ho2 hg2
                      go_wp2_with fail
                      refine bodyPost_ret (v := .tuple #[.slice (some ⟨G, 0, none⟩) L c2, .int .i64 0]) (by simp [results, Try.results27, go_sem]) rfl ?_
                      rw [HE.out, WF.out]
                      refine ⟨_, rfl, ?_, B6.out⟩
                      have := HO2.out
                      rw [if_pos True.intro] at this
                      exact this
              · have hd : mayB g L a 2 v = false := by rw [HM.out, d1, d2, d3, d4, d5, d6]; rfl
                rw [hd, if_neg (by decide)] at HE
                clear hd
                go_enter Try.func27, Try.ntmps27
                go_wp2_with fail
                refine HP.out.mono ?_
                rintro x w1 ⟨O, D, rfl, hO, hD, hb1⟩
                obtain ⟨AO, cO, rfl, _, _, _⟩ := hO.form_
                obtain ⟨AD, cD, rfl, _, _, _⟩ := hD.form_
                have B1 := hid (hb1.alloc hb1.size (.cells #[.int .i64 p.kind, .int .i64 p.life, .int .i64 p.piece, .int .i64 p.src, .int .i64 p.dst, .int .i64 p.fp, .int .i64 p.tp, .int .i64 p.flags, .int .i64 p.label, .bool p.bare, .int .i64 p.code, .slice AO p.no cO, .slice AD p.nd cD] 26))
                clear hb1 HP hO hD
                unfold pkV pkL
                go_simp
                skip
                have CE := hid (Ce.made (w := w1) (l := [.int .i64 p.kind, .int .i64 p.life, .int .i64 p.piece, .int .i64 p.src, .int .i64 p.dst, .int .i64 p.fp, .int .i64 p.tp, .int .i64 p.flags, .int .i64 p.label, .bool p.bare, .int .i64 p.code, .slice AO p.no cO, .slice AD p.nd cD]) (T := 26) rfl)
                simp only [List.toArray] at CE
                have k0 := CE.out.2.1 0 _ rfl
                go_wp2_with fail
                refine (PA.out _).mono ?_
                rintro e w' ⟨rfl, rfl⟩
                go_wp2_with fail
                refine bodyPost_ret (v := .tuple #[.slice none 0 0, .int .i64 14]) (by simp [results, Try.results27, go_sem]) rfl ?_
                rw [HE.out]
                exact outd_no (by decide) B1.out
          · have hd : mayB g L a 2 v = false := by rw [HM.out, d1, d2, d3, d4]; rfl
            rw [hd, if_neg (by decide)] at HE
            clear hd
            go_enter Try.func27, Try.ntmps27
            go_wp2_with fail
            refine HP.out.mono ?_
            rintro x w1 ⟨O, D, rfl, hO, hD, hb1⟩
            obtain ⟨AO, cO, rfl, _, _, _⟩ := hO.form_
            obtain ⟨AD, cD, rfl, _, _, _⟩ := hD.form_
            have B1 := hid (hb1.alloc hb1.size (.cells #[.int .i64 p.kind, .int .i64 p.life, .int .i64 p.piece, .int .i64 p.src, .int .i64 p.dst, .int .i64 p.fp, .int .i64 p.tp, .int .i64 p.flags, .int .i64 p.label, .bool p.bare, .int .i64 p.code, .slice AO p.no cO, .slice AD p.nd cD] 26))
            clear hb1 HP hO hD
            unfold pkV pkL
            go_simp
            skip
            go_wp2_with fail
            refine bodyPost_ret (v := .tuple #[.slice none 0 0, .int .i64 14]) (by simp [results, Try.results27, go_sem]) rfl ?_
            rw [HE.out]
            exact outd_no (by decide) B1.out
        · have hd : mayB g L a 2 v = false := by rw [HM.out, d1, d2, d3]; rfl
          rw [hd, if_neg (by decide)] at HE
          clear hd
          go_enter Try.func27, Try.ntmps27
          go_wp2_with fail
          refine HP.out.mono ?_
          rintro x w1 ⟨O, D, rfl, hO, hD, hb1⟩
          obtain ⟨AO, cO, rfl, _, _, _⟩ := hO.form_
          obtain ⟨AD, cD, rfl, _, _, _⟩ := hD.form_
          have B1 := hid (hb1.alloc hb1.size (.cells #[.int .i64 p.kind, .int .i64 p.life, .int .i64 p.piece, .int .i64 p.src, .int .i64 p.dst, .int .i64 p.fp, .int .i64 p.tp, .int .i64 p.flags, .int .i64 p.label, .bool p.bare, .int .i64 p.code, .slice AO p.no cO, .slice AD p.nd cD] 26))
          clear hb1 HP hO hD
          unfold pkV pkL
          go_simp
          skip
          go_wp2_with fail
          refine bodyPost_ret (v := .tuple #[.slice none 0 0, .int .i64 14]) (by simp [results, Try.results27, go_sem]) rfl ?_
          rw [HE.out]
          exact outd_no (by decide) B1.out
      · have hd : mayB g L a 2 v = false := by rw [HM.out, d1, d2]; rfl
        rw [hd, if_neg (by decide)] at HE
        clear hd
        go_enter Try.func27, Try.ntmps27
        go_wp2_with fail
        refine HP.out.mono ?_
        rintro x w1 ⟨O, D, rfl, hO, hD, hb1⟩
        obtain ⟨AO, cO, rfl, _, _, _⟩ := hO.form_
        obtain ⟨AD, cD, rfl, _, _, _⟩ := hD.form_
        have B1 := hid (hb1.alloc hb1.size (.cells #[.int .i64 p.kind, .int .i64 p.life, .int .i64 p.piece, .int .i64 p.src, .int .i64 p.dst, .int .i64 p.fp, .int .i64 p.tp, .int .i64 p.flags, .int .i64 p.label, .bool p.bare, .int .i64 p.code, .slice AO p.no cO, .slice AD p.nd cD] 26))
        clear hb1 HP hO hD
        unfold pkV pkL
        go_simp
        skip
        go_wp2_with fail
        refine bodyPost_ret (v := .tuple #[.slice none 0 0, .int .i64 14]) (by simp [results, Try.results27, go_sem]) rfl ?_
        rw [HE.out]
        exact outd_no (by decide) B1.out
    · have hd : mayB g L a 2 v = false := by rw [HM.out, d1]; rfl
      rw [hd, if_neg (by decide)] at HE
      clear hd
      go_enter Try.func27, Try.ntmps27
      go_wp2_with fail
      refine HP.out.mono ?_
      rintro x w1 ⟨O, D, rfl, hO, hD, hb1⟩
      obtain ⟨AO, cO, rfl, _, _, _⟩ := hO.form_
      obtain ⟨AD, cD, rfl, _, _, _⟩ := hD.form_
      have B1 := hid (hb1.alloc hb1.size (.cells #[.int .i64 p.kind, .int .i64 p.life, .int .i64 p.piece, .int .i64 p.src, .int .i64 p.dst, .int .i64 p.fp, .int .i64 p.tp, .int .i64 p.flags, .int .i64 p.label, .bool p.bare, .int .i64 p.code, .slice AO p.no cO, .slice AD p.nd cD] 26))
      clear hb1 HP hO hD
      unfold pkV pkL
      go_simp
      skip
      go_wp2_with fail
      refine bodyPost_ret (v := .tuple #[.slice none 0 0, .int .i64 14]) (by simp [results, Try.results27, go_sem]) rfl ?_
      rw [HE.out]
      exact outd_no (by decide) B1.out
  · have HE : Hid (wrE g L a 2 v = z) := hid (by unfold wrE; rw [← hz, if_pos (by simpa using hz0)])
    have HZ0 : Hid (z ≠ 0) := hid (by simpa using hz0)
    generalize parseR g L = p at HP
    clear hz
    go_enter Try.func27, Try.ntmps27
    go_wp2_with fail
    refine HP.out.mono ?_
    rintro x w1 ⟨O, D, rfl, hO, hD, hb1⟩
    obtain ⟨AO, cO, rfl, _, _, _⟩ := hO.form_
    obtain ⟨AD, cD, rfl, _, _, _⟩ := hD.form_
    have B1 := hid (hb1.alloc hb1.size (.cells #[.int .i64 p.kind, .int .i64 p.life, .int .i64 p.piece, .int .i64 p.src, .int .i64 p.dst, .int .i64 p.fp, .int .i64 p.tp, .int .i64 p.flags, .int .i64 p.label, .bool p.bare, .int .i64 p.code, .slice AO p.no cO, .slice AD p.nd cD] 26))
    clear hb1 HP hO hD
    unfold pkV pkL
    go_simp
    skip
    go_wp2_with fail
    refine bodyPost_ret (v := .tuple #[.slice none 0 0, .int .i64 z]) (by simp [results, Try.results27, go_sem]) rfl ?_
    rw [HE.out]
    exact outd_no HZ0.out B1.out
set_option maxHeartbeats 8000000 in
theorem rwrite4_any (A : Option Addr) (L c : Nat) (g : Nat → Int) (w : World) (h : By w A L g) (hg : IsB g) (hc : L ≤ c) (hb : L ≤ 1000000) (a v : Int) (ra : -9223372036854775808 ≤ a ∧ a ≤ 9223372036854775807) :
    Calls Try.prog 27 #[.slice A L c, .int .i64 a, .int .i64 4, .int .i64 v] w (Outd w (wrE g L a 4 v) L (wrF g L a.toNat 4 v)) := by
  have HP := hid (rparse_any A L c g w h hg hc hb)
  have HBY := hid (fun (W : World) (hw : Below w.heap.size w W) => Sl.below h hw (Nat.le_refl _))
  have HG := hid hg
  have HH := hid h
  clear h hg
  obtain ⟨z, hz⟩ : ∃ z, z = parseE g L := ⟨_, rfl⟩
  unfold Parsed at HP
  rw [← hz] at HP
  cases hz0 : (z != 0)
  · have z0 : parseE g L = 0 := by rw [← hz]; simpa using hz0
    have pf := parse_facts z0
    have n24 := pf.1
    have n15 := pf.2.1
    have HE : Hid (wrE g L a 4 v = if mayB g L a 4 v = true then 0 else 14) := hid (by unfold wrE; rw [if_neg (fun h => h z0)])
    have PK := hid (parse_life z0).2
    clear pf z0
    generalize parseR g L = p at HP PK
    have sl := kind_num g
    obtain ⟨s, hs⟩ : ∃ s, s = sumA (g 0) := ⟨_, rfl⟩
    have PA := hid (fun w => re_i64 (place_any p.kind w) (show ((sumA p.kind : Nat) : Int) = (s : Int) from by rw [PK.out, hs]))
    have HM : Hid (mayB g L a 4 v = (!decide (v < 0) && !decide (4294967296 ≤ v) && !decide (a < 16) && !decide ((L : Int) - 4 < a) && !(decide (a < (s : Int) + 2) && decide ((s : Int) < a + 4)))) := hid (by
      rw [hs, Bool.eq_iff_iff]
      unfold mayB
      simp only [Bool.and_eq_true, Bool.or_eq_true, decide_eq_true_eq, beq_iff_eq, Bool.not_eq_true', decide_eq_false_iff_not, Bool.and_eq_false_iff]
      constructor
      · rintro ⟨⟨⟨⟨h1, h2⟩, h3⟩, h4⟩, h5⟩
        refine ⟨⟨⟨⟨by omega, by omega⟩, by omega⟩, by omega⟩, by omega⟩
      · rintro ⟨⟨⟨⟨h1, h2⟩, h3⟩, h4⟩, h5⟩
        refine ⟨⟨⟨⟨?_, by omega⟩, by omega⟩, by omega⟩, by omega⟩
        simp
        omega)
    have HS := hid hs
    rw [← hs] at sl
    have qs : IntKind.i64.wrap ((s : Int) + 2) = (s : Int) + 2 := IntWalk.i64_in _ (by omega)
    clear hz hs
    cases d1 : decide (v < 0)
    · cases d2 : decide ((4294967296 : Int) ≤ v)
      · cases d3 : decide (a < 16)
        · have e3 : 16 ≤ a := by simpa using d3
          cases d4 : decide ((L : Int) - 4 < a)
          · have e4 : a ≤ (L : Int) - 4 := by simpa using d4
            have q2 : IntKind.i64.wrap (a + 4) = a + 4 := IntWalk.i64_in _ (by omega)
            cases d5 : decide (a < (s : Int) + 2)
            · have hd : mayB g L a 4 v = true := by rw [HM.out, d1, d2, d3, d4, d5]; rfl
              rw [hd, if_pos rfl] at HE
              have e5 : (s : Int) + 2 ≤ a := by simpa using d5
              have SO : s + 2 ≤ a ∨ a + 4 ≤ s := .inl e5
              replace SO := hid SO
              have e1 : ¬ v < 0 := by simpa using d1
              have e2 : ¬ (4294967296 : Int) ≤ v := by simpa using d2
              clear hd d1 d2 d3 d4 d5
              obtain ⟨q, hq⟩ : ∃ q : Nat, a = (q : Int) := ⟨a.toNat, by omega⟩
              subst hq
              rw [Int.toNat_natCast] at *
              obtain ⟨b, off, rfl, hblt, _⟩ := HH.out (by omega)
              have q16 : 16 ≤ q := by omega
              have kq : q + 4 ≤ L := by omega
              have tq := tmod_two q
              obtain ⟨r, hr⟩ : ∃ r, r = q % 2 := ⟨_, rfl⟩
              rw [← hr] at tq
              have HRr := hid hr
              have rle : r ≤ 1 := by omega
              obtain ⟨a0, ha0⟩ : ∃ a0, a0 = q - q % 2 := ⟨_, rfl⟩
              have A0 := hid ha0
              have qa : (q : Int) - (r : Int) = (a0 : Int) := by omega
              have qw : IntKind.i64.wrap ((q : Int) - (r : Int)) = (a0 : Int) := by rw [qa]; exact IntWalk.i64_in _ (by omega)
              have a0le : a0 ≤ q := by omega
              obtain ⟨K, hK⟩ : ∃ K, K = (4 + q % 2 + 1) / 2 := ⟨_, rfl⟩
              have KK := hid hK
              have WF0 := hid (show wrF g L q 4 v = if bareF g = true then putF g q 4 v else fillF (tbody s L g K a0 (putF g q 4 v)) from by rw [hK, ha0, HS.out]; rfl)
              clear hr ha0 hK qa
              have PB := hid (putF_B HG.out q 4 v)
              have SO2 : s + 2 ≤ q ∨ q + 4 ≤ s := by have := SO.out; omega
              replace SO2 := hid SO2
              go_enter Try.func27, Try.ntmps27
              go_wp2_with fail
              refine HP.out.mono ?_
              rintro x w1 ⟨O, D, rfl, hO, hD, hb1⟩
              obtain ⟨AO, cO, rfl, _, _, _⟩ := hO.form_
              obtain ⟨AD, cD, rfl, _, _, _⟩ := hD.form_
              have B1 := hid (hb1.alloc hb1.size (.cells #[.int .i64 p.kind, .int .i64 p.life, .int .i64 p.piece, .int .i64 p.src, .int .i64 p.dst, .int .i64 p.fp, .int .i64 p.tp, .int .i64 p.flags, .int .i64 p.label, .bool p.bare, .int .i64 p.code, .slice AO p.no cO, .slice AD p.nd cD] 26))
              clear hb1 HP hO hD
              unfold pkV pkL
              go_simp
              skip
              have CE := hid (Ce.made (w := w1) (l := [.int .i64 p.kind, .int .i64 p.life, .int .i64 p.piece, .int .i64 p.src, .int .i64 p.dst, .int .i64 p.fp, .int .i64 p.tp, .int .i64 p.flags, .int .i64 p.label, .bool p.bare, .int .i64 p.code, .slice AO p.no cO, .slice AD p.nd cD]) (T := 26) rfl)
              simp only [List.toArray] at CE
              have k0 := CE.out.2.1 0 _ rfl
              go_wp2_with fail
              refine (PA.out _).mono ?_
              rintro e w' ⟨rfl, rfl⟩
              clear k0
              go_upto_region 9 with (fail)
              generalize (w1.alloc (.cells #[.int .i64 p.kind, .int .i64 p.life, .int .i64 p.piece, .int .i64 p.src, .int .i64 p.dst, .int .i64 p.fp, .int .i64 p.tp, .int .i64 p.flags, .int .i64 p.label, .bool p.bare, .int .i64 p.code, .slice AO p.no cO, .slice AD p.nd cD] 26)) = wA at *
              have lA : w.heap.size ≤ wA.heap.size := B1.out.size
              have lP : w1.heap.size < wA.heap.size := CE.out.1
              go_upto_region 10 with (at_builtin; refine wp_app_b0 rfl (.tmp 72) (.tmp 73) rfl wA.heap.size _ rfl (fun f => Ow.new' (w := wA) rfl) _ L _ g rfl (Sl.alloc (HBY.out _ B1.out) _) (by omega) (by simp) ?_; intro A2 c2 w2 h1 h2 h3 h4 h5 h6; have HOx := hid h1; have hc2 := h2; have BA := hid (Below.trans ((Below.refl wA.heap.size wA).alloc (Nat.le_refl _) (.cells #[] 5)) h4); clear h1 h2 h3 h4 h5 h6)
              have CE2 := hid (CE.out.below BA.out)
              have B2 := hid (B1.out.trans (BA.out.mono lA))
              obtain ⟨G, e, hB, hgs, hce, hfr⟩ := Ow.block_ HOx.out (by omega)
              subst e
              have O2 := hid (OB.base HOx.out lA)
              have hGw : w.heap.size ≤ G := by omega
              have hne : b ≠ G := by omega
              have hPG : w1.heap.size ≠ G := by omega
              clear hce hfr hgs HOx CE CE2 BA
              go_wp2_with fail
              refine (rput_any O2.out q 4 v kq (by omega) hb).mono ?_
              rintro e w3 ⟨rfl, hO, hg3⟩
              have O3 := hid hO
              have G3 := hid hg3
              have B3 := hid (B2.out.trans (below_of_grown hg3 hGw B2.out.size))
              clear hO hg3 O2
              have BR := hid (rbare_any (some ⟨b, off, none⟩) L c g w3 (HBY.out _ B3.out) HG.out (by omega) (.inr n24) hb)
              cases hbf : bareF g
              · rw [hbf] at BR
                have WF : Hid (wrF g L q 4 v = fillF (tbody s L g K a0 (putF g q 4 v))) := hid (by rw [WF0.out, hbf, if_neg (by decide)])
                clear hbf WF0
                go_wp2_with fail
                refine BR.out.mono ?_
                rintro e w' ⟨rfl, rfl⟩
                go_wp2_with fail
                go_loopw [15] (fun i wr => ∃ k : Nat, k ≤ K ∧ i = .int .i64 ((a0 + 2 * k : Nat) : Int) ∧ OB wr w.heap.size (.slice (some ⟨G, 0, none⟩) L c2) L (tbody s L g k a0 (putF g q 4 v)) ∧ w2.grownBy wr (some G)) (fun i _ => (q + 4 + 2) - (intOf i).toNat)
                case atStart => exact ⟨0, by omega, by go_num, O3.out, G3.out⟩
                case round =>
                  obtain ⟨k, hk, rfl, ho, hgr⟩ := hrel
                  obtain ⟨i, hi⟩ : ∃ i, i = a0 + 2 * k := ⟨_, rfl⟩
                  rw [← hi]
                  have HI := hid hi
                  have HO := hid ho
                  have HR := hid hgr
                  have hkK : k < K ↔ i < q + 4 := by have := A0.out; have := KK.out; omega
                  clear hi ho hgr O3 G3
                  have B5 := hid (B2.out.trans (below_of_grown HR.out hGw B2.out.size))
                  by_cases hlt : i < q + 4
                  · have i1 : (i : Int) < (q : Int) + 4 := by omega
                    have i2 : i < L := by omega
                    have i3 : IntKind.i64.wrap ((i : Int) + 2) = (i : Int) + 2 := IntWalk.i64_in _ (by omega)
                    have HB := hid (tbody_B (s := s) (L := L) (g := g) k a0 _ PB.out)
                    have kl := hkK.2 hlt
                    have bs := num2_bd HB.out s
                    have bx := pairF_bd HB.out L i
                    have bg := pairF_bd HG.out L i
                    have NS := hid (rnum_any (some ⟨G, 0, none⟩) L c2 _ wr HO.out.sl1 HB.out s 2 (by omega) (by omega) hb)
                    have PG := hid (rpair_any_ (some ⟨b, off, none⟩) L c g wr (HBY.out _ B5.out) HG.out i i2 hb)
                    have PO := hid (rpair_any_ (some ⟨G, 0, none⟩) L c2 _ wr HO.out.sl1 HB.out i i2 hb)
                    have TU := hid (fun w => rturn_any (num (tbody s L g k a0 (putF g q 4 v)) s 2) (pairF g L i) (pairF (tbody s L g k a0 (putF g q 4 v)) L i) w bs.1 bs.2 bg.1 bg.2 bx.1 bx.2)
                    have PU := hid (rput_any HO.out s 2 (turn (num (tbody s L g k a0 (putF g q 4 v)) s 2) (pairF g L i) (pairF (tbody s L g k a0 (putF g q 4 v)) L i)) (by omega) (by omega) hb)
                    clear hkK bx bg bs hlt
                    go_wp2_with fail
                    refine NS.out.mono ?_
                    rintro e w' ⟨rfl, rfl⟩
                    go_wp2_with fail
                    refine PG.out.mono ?_
                    rintro e w' ⟨rfl, rfl⟩
                    go_wp2_with fail
                    refine PO.out.mono ?_
                    rintro e w' ⟨rfl, rfl⟩
                    go_wp2_with fail
                    refine (TU.out _).mono ?_
                    rintro e w' ⟨rfl, rfl⟩
                    go_wp2_with fail
                    refine PU.out.mono ?_
                    rintro e w5 ⟨rfl, ho2, hg2⟩
                    have HO2 := hid ho2
                    have HR2 := hid (HR.out.trans hg2)
                    clear ho2 hg2
                    go_wp2_with fail
                    go_roundw
                    case rel =>
                      refine ⟨k + 1, kl, by rw [HI.out]; go_num, ?_, HR2.out⟩
                      have e := tbody_snoc s L g k a0 (putF g q 4 v)
                      rw [← e, ← HI.out]
                      exact HO2.out
                    case measure => simp [intOf]; omega
                  · have i1 : ¬ (i : Int) < (q : Int) + 4 := by omega
                    have kk : k = K := by omega
                    subst kk
                    clear hkK hlt
                    have HB := hid (tbody_B (s := s) (L := L) (g := g) k a0 _ PB.out)
                    go_wp2_with fail
                    refine (rend_any HO.out HB.out (by omega) (.inr n24) hc2 hb false).mono ?_
                    rintro e w5 ⟨rfl, ho2, hg2⟩
                    have HO2 := hid ho2
                    have B6 := hid (B5.out.trans (below_of_grown hg2 hGw B5.out.size))
                    clear ho2 hg2
                    go_wp2_with fail
                    refine bodyPost_ret (v := .tuple #[.slice (some ⟨G, 0, none⟩) L c2, .int .i64 0]) (by simp [results, Try.results27, go_sem]) rfl ?_
                    rw [HE.out, WF.out]
                    refine ⟨_, rfl, ?_, B6.out⟩
                    have := HO2.out
                    rw [if_neg (by decide)] at this
                    exact this
              · rw [hbf] at BR
                have WF : Hid (wrF g L q 4 v = putF g q 4 v) := hid (by rw [WF0.out, hbf, if_pos rfl])
                clear hbf WF0
                go_wp2_with fail
                refine BR.out.mono ?_
                rintro e w' ⟨rfl, rfl⟩
                go_wp2_with fail
                go_loopw [15] (fun i wr => i = .int .i64 (a0 : Int) ∧ OB wr w.heap.size (.slice (some ⟨G, 0, none⟩) L c2) L (putF g q 4 v) ∧ w2.grownBy wr (some G)) (fun i _ => 0)
                case atStart => exact ⟨by go_num, O3.out, G3.out⟩
                case round =>
                  obtain ⟨rfl, ho, hgr⟩ := hrel
                  have HO := hid ho
                  have HR := hid hgr
                  clear ho hgr O3 G3
                  have B5 := hid (B2.out.trans (below_of_grown HR.out hGw B2.out.size))
                  cases lt : decide ((a0 : Int) < (q : Int) + 4)
                  all_goals
                    go_wp2_with fail
                    refine (rend_any HO.out PB.out (by omega) (.inr n24) hc2 hb true).mono ?_
                    rintro e w5 ⟨rfl, ho2, hg2⟩
                    have HO2 := hid ho2
                    have B6 := hid (B5.out.trans (below_of_grown hg2 hGw B5.out.size))
                    clear ho2 hg2
                    go_wp2_with fail
                    refine bodyPost_ret (v := .tuple #[.slice (some ⟨G, 0, none⟩) L c2, .int .i64 0]) (by simp [results, Try.results27, go_sem]) rfl ?_
                    rw [HE.out, WF.out]
                    refine ⟨_, rfl, ?_, B6.out⟩
                    have := HO2.out
                    rw [if_pos True.intro] at this
                    exact this
            · cases d6 : decide ((s : Int) < a + 4)
              · have hd : mayB g L a 4 v = true := by rw [HM.out, d1, d2, d3, d4, d5, d6]; rfl
                rw [hd, if_pos rfl] at HE
                have e6 : a + 4 ≤ (s : Int) := by simpa using d6
                have e5 : a < (s : Int) + 2 := by simpa using d5
                have SO : (s : Int) + 2 ≤ a ∨ a + 4 ≤ (s : Int) := .inr e6
                replace SO := hid SO
                have e1 : ¬ v < 0 := by simpa using d1
                have e2 : ¬ (4294967296 : Int) ≤ v := by simpa using d2
                clear hd d1 d2 d3 d4 d5 d6
                obtain ⟨q, hq⟩ : ∃ q : Nat, a = (q : Int) := ⟨a.toNat, by omega⟩
                subst hq
                rw [Int.toNat_natCast] at *
                obtain ⟨b, off, rfl, hblt, _⟩ := HH.out (by omega)
                have q16 : 16 ≤ q := by omega
                have kq : q + 4 ≤ L := by omega
                have tq := tmod_two q
                obtain ⟨r, hr⟩ : ∃ r, r = q % 2 := ⟨_, rfl⟩
                rw [← hr] at tq
                have HRr := hid hr
                have rle : r ≤ 1 := by omega
                obtain ⟨a0, ha0⟩ : ∃ a0, a0 = q - q % 2 := ⟨_, rfl⟩
                have A0 := hid ha0
                have qa : (q : Int) - (r : Int) = (a0 : Int) := by omega
                have qw : IntKind.i64.wrap ((q : Int) - (r : Int)) = (a0 : Int) := by rw [qa]; exact IntWalk.i64_in _ (by omega)
                have a0le : a0 ≤ q := by omega
                obtain ⟨K, hK⟩ : ∃ K, K = (4 + q % 2 + 1) / 2 := ⟨_, rfl⟩
                have KK := hid hK
                have WF0 := hid (show wrF g L q 4 v = if bareF g = true then putF g q 4 v else fillF (tbody s L g K a0 (putF g q 4 v)) from by rw [hK, ha0, HS.out]; rfl)
                clear hr ha0 hK qa
                have PB := hid (putF_B HG.out q 4 v)
                have SO2 : s + 2 ≤ q ∨ q + 4 ≤ s := by have := SO.out; omega
                replace SO2 := hid SO2
                go_enter Try.func27, Try.ntmps27
                go_wp2_with fail
                refine HP.out.mono ?_
                rintro x w1 ⟨O, D, rfl, hO, hD, hb1⟩
                obtain ⟨AO, cO, rfl, _, _, _⟩ := hO.form_
                obtain ⟨AD, cD, rfl, _, _, _⟩ := hD.form_
                have B1 := hid (hb1.alloc hb1.size (.cells #[.int .i64 p.kind, .int .i64 p.life, .int .i64 p.piece, .int .i64 p.src, .int .i64 p.dst, .int .i64 p.fp, .int .i64 p.tp, .int .i64 p.flags, .int .i64 p.label, .bool p.bare, .int .i64 p.code, .slice AO p.no cO, .slice AD p.nd cD] 26))
                clear hb1 HP hO hD
                unfold pkV pkL
                go_simp
                skip
                have CE := hid (Ce.made (w := w1) (l := [.int .i64 p.kind, .int .i64 p.life, .int .i64 p.piece, .int .i64 p.src, .int .i64 p.dst, .int .i64 p.fp, .int .i64 p.tp, .int .i64 p.flags, .int .i64 p.label, .bool p.bare, .int .i64 p.code, .slice AO p.no cO, .slice AD p.nd cD]) (T := 26) rfl)
                simp only [List.toArray] at CE
                have k0 := CE.out.2.1 0 _ rfl
                go_wp2_with fail
                refine (PA.out _).mono ?_
                rintro e w' ⟨rfl, rfl⟩
                clear k0
                go_upto_region 9 with (fail)
                generalize (w1.alloc (.cells #[.int .i64 p.kind, .int .i64 p.life, .int .i64 p.piece, .int .i64 p.src, .int .i64 p.dst, .int .i64 p.fp, .int .i64 p.tp, .int .i64 p.flags, .int .i64 p.label, .bool p.bare, .int .i64 p.code, .slice AO p.no cO, .slice AD p.nd cD] 26)) = wA at *
                have lA : w.heap.size ≤ wA.heap.size := B1.out.size
                have lP : w1.heap.size < wA.heap.size := CE.out.1
                go_upto_region 10 with (at_builtin; refine wp_app_b0 rfl (.tmp 72) (.tmp 73) rfl wA.heap.size _ rfl (fun f => Ow.new' (w := wA) rfl) _ L _ g rfl (Sl.alloc (HBY.out _ B1.out) _) (by omega) (by simp) ?_; intro A2 c2 w2 h1 h2 h3 h4 h5 h6; have HOx := hid h1; have hc2 := h2; have BA := hid (Below.trans ((Below.refl wA.heap.size wA).alloc (Nat.le_refl _) (.cells #[] 5)) h4); clear h1 h2 h3 h4 h5 h6)
                have CE2 := hid (CE.out.below BA.out)
                have B2 := hid (B1.out.trans (BA.out.mono lA))
                obtain ⟨G, e, hB, hgs, hce, hfr⟩ := Ow.block_ HOx.out (by omega)
                subst e
                have O2 := hid (OB.base HOx.out lA)
                have hGw : w.heap.size ≤ G := by omega
                have hne : b ≠ G := by omega
                have hPG : w1.heap.size ≠ G := by omega
                clear hce hfr hgs HOx CE CE2 BA
                go_wp2_with fail
                refine (rput_any O2.out q 4 v kq (by omega) hb).mono ?_
                rintro e w3 ⟨rfl, hO, hg3⟩
                have O3 := hid hO
                have G3 := hid hg3
                have B3 := hid (B2.out.trans (below_of_grown hg3 hGw B2.out.size))
                clear hO hg3 O2
                have BR := hid (rbare_any (some ⟨b, off, none⟩) L c g w3 (HBY.out _ B3.out) HG.out (by omega) (.inr n24) hb)
                cases hbf : bareF g
                · rw [hbf] at BR
                  have WF : Hid (wrF g L q 4 v = fillF (tbody s L g K a0 (putF g q 4 v))) := hid (by rw [WF0.out, hbf, if_neg (by decide)])
                  clear hbf WF0
                  go_wp2_with fail
                  refine BR.out.mono ?_
                  rintro e w' ⟨rfl, rfl⟩
                  go_wp2_with fail
                  go_loopw [15] (fun i wr => ∃ k : Nat, k ≤ K ∧ i = .int .i64 ((a0 + 2 * k : Nat) : Int) ∧ OB wr w.heap.size (.slice (some ⟨G, 0, none⟩) L c2) L (tbody s L g k a0 (putF g q 4 v)) ∧ w2.grownBy wr (some G)) (fun i _ => (q + 4 + 2) - (intOf i).toNat)
                  case atStart => exact ⟨0, by omega, by go_num, O3.out, G3.out⟩
                  case round =>
                    obtain ⟨k, hk, rfl, ho, hgr⟩ := hrel
                    obtain ⟨i, hi⟩ : ∃ i, i = a0 + 2 * k := ⟨_, rfl⟩
                    rw [← hi]
                    have HI := hid hi
                    have HO := hid ho
                    have HR := hid hgr
                    have hkK : k < K ↔ i < q + 4 := by have := A0.out; have := KK.out; omega
                    clear hi ho hgr O3 G3
                    have B5 := hid (B2.out.trans (below_of_grown HR.out hGw B2.out.size))
                    by_cases hlt : i < q + 4
                    · have i1 : (i : Int) < (q : Int) + 4 := by omega
                      have i2 : i < L := by omega
                      have i3 : IntKind.i64.wrap ((i : Int) + 2) = (i : Int) + 2 := IntWalk.i64_in _ (by omega)
                      have HB := hid (tbody_B (s := s) (L := L) (g := g) k a0 _ PB.out)
                      have kl := hkK.2 hlt
                      have bs := num2_bd HB.out s
                      have bx := pairF_bd HB.out L i
                      have bg := pairF_bd HG.out L i
                      have NS := hid (rnum_any (some ⟨G, 0, none⟩) L c2 _ wr HO.out.sl1 HB.out s 2 (by omega) (by omega) hb)
                      have PG := hid (rpair_any_ (some ⟨b, off, none⟩) L c g wr (HBY.out _ B5.out) HG.out i i2 hb)
                      have PO := hid (rpair_any_ (some ⟨G, 0, none⟩) L c2 _ wr HO.out.sl1 HB.out i i2 hb)
                      have TU := hid (fun w => rturn_any (num (tbody s L g k a0 (putF g q 4 v)) s 2) (pairF g L i) (pairF (tbody s L g k a0 (putF g q 4 v)) L i) w bs.1 bs.2 bg.1 bg.2 bx.1 bx.2)
                      have PU := hid (rput_any HO.out s 2 (turn (num (tbody s L g k a0 (putF g q 4 v)) s 2) (pairF g L i) (pairF (tbody s L g k a0 (putF g q 4 v)) L i)) (by omega) (by omega) hb)
                      clear hkK bx bg bs hlt
                      go_wp2_with fail
                      refine NS.out.mono ?_
                      rintro e w' ⟨rfl, rfl⟩
                      go_wp2_with fail
                      refine PG.out.mono ?_
                      rintro e w' ⟨rfl, rfl⟩
                      go_wp2_with fail
                      refine PO.out.mono ?_
                      rintro e w' ⟨rfl, rfl⟩
                      go_wp2_with fail
                      refine (TU.out _).mono ?_
                      rintro e w' ⟨rfl, rfl⟩
                      go_wp2_with fail
                      refine PU.out.mono ?_
                      rintro e w5 ⟨rfl, ho2, hg2⟩
                      have HO2 := hid ho2
                      have HR2 := hid (HR.out.trans hg2)
                      clear ho2 hg2
                      go_wp2_with fail
                      go_roundw
                      case rel =>
                        refine ⟨k + 1, kl, by rw [HI.out]; go_num, ?_, HR2.out⟩
                        have e := tbody_snoc s L g k a0 (putF g q 4 v)
                        rw [← e, ← HI.out]
                        exact HO2.out
                      case measure => simp [intOf]; omega
                    · have i1 : ¬ (i : Int) < (q : Int) + 4 := by omega
                      have kk : k = K := by omega
                      subst kk
                      clear hkK hlt
                      have HB := hid (tbody_B (s := s) (L := L) (g := g) k a0 _ PB.out)
                      go_wp2_with fail
                      refine (rend_any HO.out HB.out (by omega) (.inr n24) hc2 hb false).mono ?_
                      rintro e w5 ⟨rfl, ho2, hg2⟩
                      have HO2 := hid ho2
                      have B6 := hid (B5.out.trans (below_of_grown hg2 hGw B5.out.size))
                      clear ho2 hg2
                      go_wp2_with fail
                      refine bodyPost_ret (v := .tuple #[.slice (some ⟨G, 0, none⟩) L c2, .int .i64 0]) (by simp [results, Try.results27, go_sem]) rfl ?_
                      rw [HE.out, WF.out]
                      refine ⟨_, rfl, ?_, B6.out⟩
                      have := HO2.out
                      rw [if_neg (by decide)] at this
                      exact this
                · rw [hbf] at BR
                  have WF : Hid (wrF g L q 4 v = putF g q 4 v) := hid (by rw [WF0.out, hbf, if_pos rfl])
                  clear hbf WF0
                  go_wp2_with fail
                  refine BR.out.mono ?_
                  rintro e w' ⟨rfl, rfl⟩
                  go_wp2_with fail
                  go_loopw [15] (fun i wr => i = .int .i64 (a0 : Int) ∧ OB wr w.heap.size (.slice (some ⟨G, 0, none⟩) L c2) L (putF g q 4 v) ∧ w2.grownBy wr (some G)) (fun i _ => 0)
                  case atStart => exact ⟨by go_num, O3.out, G3.out⟩
                  case round =>
                    obtain ⟨rfl, ho, hgr⟩ := hrel
                    have HO := hid ho
                    have HR := hid hgr
                    clear ho hgr O3 G3
                    have B5 := hid (B2.out.trans (below_of_grown HR.out hGw B2.out.size))
                    cases lt : decide ((a0 : Int) < (q : Int) + 4)
                    all_goals
                      go_wp2_with fail
                      refine (rend_any HO.out PB.out (by omega) (.inr n24) hc2 hb true).mono ?_
                      rintro e w5 ⟨rfl, ho2, hg2⟩
                      have HO2 := hid ho2
                      have B6 := hid (B5.out.trans (below_of_grown hg2 hGw B5.out.size))
                      clear ho2 hg2
                      go_wp2_with fail
                      refine bodyPost_ret (v := .tuple #[.slice (some ⟨G, 0, none⟩) L c2, .int .i64 0]) (by simp [results, Try.results27, go_sem]) rfl ?_
                      rw [HE.out, WF.out]
                      refine ⟨_, rfl, ?_, B6.out⟩
                      have := HO2.out
                      rw [if_pos True.intro] at this
                      exact this
              · have hd : mayB g L a 4 v = false := by rw [HM.out, d1, d2, d3, d4, d5, d6]; rfl
                rw [hd, if_neg (by decide)] at HE
                clear hd
                go_enter Try.func27, Try.ntmps27
                go_wp2_with fail
                refine HP.out.mono ?_
                rintro x w1 ⟨O, D, rfl, hO, hD, hb1⟩
                obtain ⟨AO, cO, rfl, _, _, _⟩ := hO.form_
                obtain ⟨AD, cD, rfl, _, _, _⟩ := hD.form_
                have B1 := hid (hb1.alloc hb1.size (.cells #[.int .i64 p.kind, .int .i64 p.life, .int .i64 p.piece, .int .i64 p.src, .int .i64 p.dst, .int .i64 p.fp, .int .i64 p.tp, .int .i64 p.flags, .int .i64 p.label, .bool p.bare, .int .i64 p.code, .slice AO p.no cO, .slice AD p.nd cD] 26))
                clear hb1 HP hO hD
                unfold pkV pkL
                go_simp
                skip
                have CE := hid (Ce.made (w := w1) (l := [.int .i64 p.kind, .int .i64 p.life, .int .i64 p.piece, .int .i64 p.src, .int .i64 p.dst, .int .i64 p.fp, .int .i64 p.tp, .int .i64 p.flags, .int .i64 p.label, .bool p.bare, .int .i64 p.code, .slice AO p.no cO, .slice AD p.nd cD]) (T := 26) rfl)
                simp only [List.toArray] at CE
                have k0 := CE.out.2.1 0 _ rfl
                go_wp2_with fail
                refine (PA.out _).mono ?_
                rintro e w' ⟨rfl, rfl⟩
                go_wp2_with fail
                refine bodyPost_ret (v := .tuple #[.slice none 0 0, .int .i64 14]) (by simp [results, Try.results27, go_sem]) rfl ?_
                rw [HE.out]
                exact outd_no (by decide) B1.out
          · have hd : mayB g L a 4 v = false := by rw [HM.out, d1, d2, d3, d4]; rfl
            rw [hd, if_neg (by decide)] at HE
            clear hd
            go_enter Try.func27, Try.ntmps27
            go_wp2_with fail
            refine HP.out.mono ?_
            rintro x w1 ⟨O, D, rfl, hO, hD, hb1⟩
            obtain ⟨AO, cO, rfl, _, _, _⟩ := hO.form_
            obtain ⟨AD, cD, rfl, _, _, _⟩ := hD.form_
            have B1 := hid (hb1.alloc hb1.size (.cells #[.int .i64 p.kind, .int .i64 p.life, .int .i64 p.piece, .int .i64 p.src, .int .i64 p.dst, .int .i64 p.fp, .int .i64 p.tp, .int .i64 p.flags, .int .i64 p.label, .bool p.bare, .int .i64 p.code, .slice AO p.no cO, .slice AD p.nd cD] 26))
            clear hb1 HP hO hD
            unfold pkV pkL
            go_simp
            skip
            go_wp2_with fail
            refine bodyPost_ret (v := .tuple #[.slice none 0 0, .int .i64 14]) (by simp [results, Try.results27, go_sem]) rfl ?_
            rw [HE.out]
            exact outd_no (by decide) B1.out
        · have hd : mayB g L a 4 v = false := by rw [HM.out, d1, d2, d3]; rfl
          rw [hd, if_neg (by decide)] at HE
          clear hd
          go_enter Try.func27, Try.ntmps27
          go_wp2_with fail
          refine HP.out.mono ?_
          rintro x w1 ⟨O, D, rfl, hO, hD, hb1⟩
          obtain ⟨AO, cO, rfl, _, _, _⟩ := hO.form_
          obtain ⟨AD, cD, rfl, _, _, _⟩ := hD.form_
          have B1 := hid (hb1.alloc hb1.size (.cells #[.int .i64 p.kind, .int .i64 p.life, .int .i64 p.piece, .int .i64 p.src, .int .i64 p.dst, .int .i64 p.fp, .int .i64 p.tp, .int .i64 p.flags, .int .i64 p.label, .bool p.bare, .int .i64 p.code, .slice AO p.no cO, .slice AD p.nd cD] 26))
          clear hb1 HP hO hD
          unfold pkV pkL
          go_simp
          skip
          go_wp2_with fail
          refine bodyPost_ret (v := .tuple #[.slice none 0 0, .int .i64 14]) (by simp [results, Try.results27, go_sem]) rfl ?_
          rw [HE.out]
          exact outd_no (by decide) B1.out
      · have hd : mayB g L a 4 v = false := by rw [HM.out, d1, d2]; rfl
        rw [hd, if_neg (by decide)] at HE
        clear hd
        go_enter Try.func27, Try.ntmps27
        go_wp2_with fail
        refine HP.out.mono ?_
        rintro x w1 ⟨O, D, rfl, hO, hD, hb1⟩
        obtain ⟨AO, cO, rfl, _, _, _⟩ := hO.form_
        obtain ⟨AD, cD, rfl, _, _, _⟩ := hD.form_
        have B1 := hid (hb1.alloc hb1.size (.cells #[.int .i64 p.kind, .int .i64 p.life, .int .i64 p.piece, .int .i64 p.src, .int .i64 p.dst, .int .i64 p.fp, .int .i64 p.tp, .int .i64 p.flags, .int .i64 p.label, .bool p.bare, .int .i64 p.code, .slice AO p.no cO, .slice AD p.nd cD] 26))
        clear hb1 HP hO hD
        unfold pkV pkL
        go_simp
        skip
        go_wp2_with fail
        refine bodyPost_ret (v := .tuple #[.slice none 0 0, .int .i64 14]) (by simp [results, Try.results27, go_sem]) rfl ?_
        rw [HE.out]
        exact outd_no (by decide) B1.out
    · have hd : mayB g L a 4 v = false := by rw [HM.out, d1]; rfl
      rw [hd, if_neg (by decide)] at HE
      clear hd
      go_enter Try.func27, Try.ntmps27
      go_wp2_with fail
      refine HP.out.mono ?_
      rintro x w1 ⟨O, D, rfl, hO, hD, hb1⟩
      obtain ⟨AO, cO, rfl, _, _, _⟩ := hO.form_
      obtain ⟨AD, cD, rfl, _, _, _⟩ := hD.form_
      have B1 := hid (hb1.alloc hb1.size (.cells #[.int .i64 p.kind, .int .i64 p.life, .int .i64 p.piece, .int .i64 p.src, .int .i64 p.dst, .int .i64 p.fp, .int .i64 p.tp, .int .i64 p.flags, .int .i64 p.label, .bool p.bare, .int .i64 p.code, .slice AO p.no cO, .slice AD p.nd cD] 26))
      clear hb1 HP hO hD
      unfold pkV pkL
      go_simp
      skip
      go_wp2_with fail
      refine bodyPost_ret (v := .tuple #[.slice none 0 0, .int .i64 14]) (by simp [results, Try.results27, go_sem]) rfl ?_
      rw [HE.out]
      exact outd_no (by decide) B1.out
  · have HE : Hid (wrE g L a 4 v = z) := hid (by unfold wrE; rw [← hz, if_pos (by simpa using hz0)])
    have HZ0 : Hid (z ≠ 0) := hid (by simpa using hz0)
    generalize parseR g L = p at HP
    clear hz
    go_enter Try.func27, Try.ntmps27
    go_wp2_with fail
    refine HP.out.mono ?_
    rintro x w1 ⟨O, D, rfl, hO, hD, hb1⟩
    obtain ⟨AO, cO, rfl, _, _, _⟩ := hO.form_
    obtain ⟨AD, cD, rfl, _, _, _⟩ := hD.form_
    have B1 := hid (hb1.alloc hb1.size (.cells #[.int .i64 p.kind, .int .i64 p.life, .int .i64 p.piece, .int .i64 p.src, .int .i64 p.dst, .int .i64 p.fp, .int .i64 p.tp, .int .i64 p.flags, .int .i64 p.label, .bool p.bare, .int .i64 p.code, .slice AO p.no cO, .slice AD p.nd cD] 26))
    clear hb1 HP hO hD
    unfold pkV pkL
    go_simp
    skip
    go_wp2_with fail
    refine bodyPost_ret (v := .tuple #[.slice none 0 0, .int .i64 z]) (by simp [results, Try.results27, go_sem]) rfl ?_
    rw [HE.out]
    exact outd_no HZ0.out B1.out
theorem rwrite_any (A : Option Addr) (L c : Nat) (g : Nat → Int) (w : World) (h : By w A L g) (hg : IsB g) (hc : L ≤ c) (hb : L ≤ 1000000) (a m v : Int) (ra : -9223372036854775808 ≤ a ∧ a ≤ 9223372036854775807) :
    Calls Try.prog 27 #[.slice A L c, .int .i64 a, .int .i64 m, .int .i64 v] w (Outd w (wrE g L a m v) L (wrF g L a.toNat m.toNat v)) := by
  by_cases h1 : m = 1
  · subst h1; exact rwrite1_any A L c g w h hg hc hb a v ra
  · by_cases h2 : m = 2
    · subst h2; exact rwrite2_any A L c g w h hg hc hb a v ra
    · by_cases h4 : m = 4
      · subst h4; exact rwrite4_any A L c g w h hg hc hb a v ra
      · have e1 : (m != 1) = true := by simpa using h1
        have e2 : (m != 2) = true := by simpa using h2
        have e4 : (m != 4) = true := by simpa using h4
        have HM : mayB g L a m v = false := by
          rw [Bool.eq_false_iff]
          intro e
          have := mayB_iff e
          omega
        clear h1 h2 h4
        have HP := hid (rparse_any A L c g w h hg hc hb)
        have HBY := hid (fun (W : World) (hw : Below w.heap.size w W) => Sl.below h hw (Nat.le_refl _))
        have HG := hid hg
        have HH := hid h
        clear h hg
        obtain ⟨z, hz⟩ : ∃ z, z = parseE g L := ⟨_, rfl⟩
        unfold Parsed at HP
        rw [← hz] at HP
        have HE : Hid (wrE g L a m v = if z ≠ 0 then z else 14) := hid (by unfold wrE; rw [← hz, HM]; rfl)
        generalize parseR g L = p at HP
        clear hz HM
        cases hz0 : (z != 0)
        · rw [if_neg (by simpa using hz0)] at HE
          go_enter Try.func27, Try.ntmps27
          go_wp2_with fail
          refine HP.out.mono ?_
          rintro x w1 ⟨O, D, rfl, hO, hD, hb1⟩
          obtain ⟨AO, cO, rfl, _, _, _⟩ := hO.form_
          obtain ⟨AD, cD, rfl, _, _, _⟩ := hD.form_
          have B1 := hid (hb1.alloc hb1.size (.cells #[.int .i64 p.kind, .int .i64 p.life, .int .i64 p.piece, .int .i64 p.src, .int .i64 p.dst, .int .i64 p.fp, .int .i64 p.tp, .int .i64 p.flags, .int .i64 p.label, .bool p.bare, .int .i64 p.code, .slice AO p.no cO, .slice AD p.nd cD] 26))
          clear hb1 HP hO hD
          unfold pkV pkL
          go_simp
          skip
          go_wp2_with fail
          refine bodyPost_ret (v := .tuple #[.slice none 0 0, .int .i64 14]) (by simp [results, Try.results27, go_sem]) rfl ?_
          rw [HE.out]
          exact outd_no (by decide) B1.out
        · rw [if_pos (by simpa using hz0)] at HE
          have HZ0 : Hid (z ≠ 0) := hid (by simpa using hz0)
          go_enter Try.func27, Try.ntmps27
          go_wp2_with fail
          refine HP.out.mono ?_
          rintro x w1 ⟨O, D, rfl, hO, hD, hb1⟩
          obtain ⟨AO, cO, rfl, _, _, _⟩ := hO.form_
          obtain ⟨AD, cD, rfl, _, _, _⟩ := hD.form_
          have B1 := hid (hb1.alloc hb1.size (.cells #[.int .i64 p.kind, .int .i64 p.life, .int .i64 p.piece, .int .i64 p.src, .int .i64 p.dst, .int .i64 p.fp, .int .i64 p.tp, .int .i64 p.flags, .int .i64 p.label, .bool p.bare, .int .i64 p.code, .slice AO p.no cO, .slice AD p.nd cD] 26))
          clear hb1 HP hO hD
          unfold pkV pkL
          go_simp
          skip
          go_wp2_with fail
          refine bodyPost_ret (v := .tuple #[.slice none 0 0, .int .i64 z]) (by simp [results, Try.results27, go_sem]) rfl ?_
          rw [HE.out]
          exact outd_no HZ0.out B1.out
end Go.Proofs.Ytjljaecjnpmdoaa
