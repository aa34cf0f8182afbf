/- roundhouselaw12.YardRounds answers true for every row, any number, every row, a bool, any number; no condition. -/
import Derived.Test.YtnnilkdlpampdaaYdRound
import Derived.BigQuiet
import Derived.Deep.RegionHeld3
import Derived.Deep.Cut
import Derived.Deep.CutRange
import Derived.IntWalk
namespace Go.Proofs.Ytnnilkdlpampdaa.yardRounds
set_option linter.unusedVariables false
set_option linter.unusedSimpArgs false
open Go.RowKit Go.ChangeShapes Go.WideShapes Go.ChangeAt
def XR (p : Pl) (f : Nat → Int) (n u w : Nat) (y : Yd) : Prop := ∃ b : Nat → Int, y.ns = [] ∧ y.h.un = u ∧ y.h.pl = PJ p f 1 ∧ (y.h.q = (List.range' 1 (n - 1)).map fun i => eB (f i)) ∧ ∀ i, i < u → if i = w then y.uf i = ⟨b i, zPl, false⟩ ∧ y.h.wd i = ⟨b i, -1⟩ else y.uf i = ⟨b i, PJ p f 1, true⟩ ∧ y.h.wd i = ⟨b i, (PJ p f 1).v⟩
def I0 (p : Pl) (f : Nat → Int) (n u : Nat) (a : Pl) : Yd := ⟨{ newH p u with ah := a, q := (List.range' 0 n).map fun i => eB (f i) }, fun _ => z0, []⟩
/-- A yard behind i rounds. -/
def ST (p : Pl) (f : Nat → Int) (n u w : Nat) (cc : Bool) (i : Nat) (y : Yd) : Prop :=
  (i = 0 ∧ ∃ a, y = I0 p f n u a) ∨ (1 ≤ i ∧ (cc = false ∨ i = 1) ∧ ∃ b, GR p f n u (min (i - 1) n) b y) ∨ (cc = true ∧ i = 2 ∧ XR p f n u w y) ∨ (cc = true ∧ 3 ≤ i ∧ ∃ b, GR p f n u (min (i - 2) n) b y)
section
variable {p : Pl} {f : Nat → Int} {n u w : Nat} {cc : Bool} {i j : Nat} {y : Yd} {b : Nat → Int}
theorem gr_step (hv0 : 0 ≤ p.v) (hu : 1 ≤ u ∧ u ≤ 16) (g : GR p f n u (min j n) b y) : GR p f n u (min (j + 1) n) b (runD 200 (tickY y)) := by
  by_cases h : j < n
  · rw [show min j n = j by omega] at g
    rw [show min (j + 1) n = j + 1 by omega]
    obtain ⟨y2, e, h1, h2, h3, h4, h5⟩ := gr_send hv0 hu g h false 0
    rw [if_neg (by decide)] at e
    rw [e]
    exact ⟨h1, h2, h3, h4, fun i hi => by have := h5 i hi; rw [if_neg (fun h => by cases h.1)] at this; exact this⟩
  · rw [show min j n = n by omega] at g
    rw [show min (j + 1) n = n by omega]
    exact gr_none hv0 hu.2 g (Nat.le_refl _)
theorem st_step (hv0 : 0 ≤ p.v) (hu : 1 ≤ u ∧ u ≤ 16) (hw : w < u) (hc : cc = true → 0 < n) (h : ST p f n u w cc i y) : ST p f n u w cc (i + 1) (runD 200 (tickY (if (decide (i = 1) && cc) = true then crY y w else y))) := by
  rcases h with ⟨rfl, a, rfl⟩ | ⟨h1, h2, b, g⟩ | ⟨h1, rfl, b, x1, x2, x3, x4, x5⟩ | ⟨h1, h2, b, g⟩
  · rw [if_neg (by simp)]
    exact .inr (.inl ⟨by omega, .inr rfl, _, by rw [show min (0 + 1 - 1) n = 0 by omega]; exact gr_first hv0 hu a⟩)
  · cases hcc : cc with
    | false =>
      rw [if_neg (by simp)]
      refine .inr (.inl ⟨by omega, .inl rfl, b, ?_⟩)
      have := gr_step hv0 hu g
      rwa [show i - 1 + 1 = i + 1 - 1 by omega] at this
    | true =>
      have hi : i = 1 := by
        rcases h2 with h2 | h2
        · rw [hcc] at h2; cases h2
        · exact h2
      subst hi
      rw [if_pos (by simp)]
      have hn := hc hcc
      rw [show min (1 - 1) n = 0 by omega] at g
      obtain ⟨y2, e, h1, h2, h3, h4, h5⟩ := gr_send hv0 hu g hn true w
      rw [if_pos rfl] at e
      rw [e]
      refine .inr (.inr (.inl ⟨rfl, rfl, fun i => if i = w then b i + 1 else b i, h1, h2, h3, h4, fun i hi => ?_⟩))
      have h6 := h5 i hi
      by_cases e : i = w
      · rw [if_pos ⟨rfl, e⟩] at h6
        simp only [if_pos e]
        exact h6
      · rw [if_neg (fun h => e h.2)] at h6
        simp only [if_neg e]
        exact h6
  · rw [if_neg (by simp)]
    have hn := hc h1
    refine .inr (.inr (.inr ⟨h1, by omega, b, ?_⟩))
    rw [show min (2 + 1 - 2) n = 1 by omega]
    exact gr_late hv0 hu (Nat.le_refl _) hw x1 x2 x3 x4 x5
  · rw [if_neg (by have : ¬ i = 1 := by omega
                   simp [this])]
    refine .inr (.inr (.inr ⟨h1, by omega, b, ?_⟩))
    have := gr_step hv0 hu g
    rwa [show i - 2 + 1 = i + 1 - 2 by omega] at this
theorem st_ns (h : ST p f n u w cc i y) : y.ns = [] := by
  rcases h with ⟨_, a, rfl⟩ | ⟨_, _, b, g⟩ | ⟨_, _, b, h, _⟩ | ⟨_, _, b, g⟩
  · rfl
  · exact g.ns
  · exact h
  · exact g.ns
theorem st_un (h : ST p f n u w cc i y) : y.h.un = u := by
  rcases h with ⟨_, a, rfl⟩ | ⟨_, _, b, g⟩ | ⟨_, _, b, _, h, _⟩ | ⟨_, _, b, g⟩
  · rfl
  · exact g.un
  · exact h
  · exact g.un
theorem st_end (h : ST p f n u w cc (n + 4) y) : ∃ b, GR p f n u n b y := by
  rcases h with ⟨h, _⟩ | ⟨_, _, b, g⟩ | ⟨_, h, _⟩ | ⟨_, _, b, g⟩
  · omega
  · rw [show min (n + 4 - 1) n = n by omega] at g; exact ⟨b, g⟩
  · omega
  · rw [show min (n + 4 - 2) n = n by omega] at g; exact ⟨b, g⟩
theorem run_eB (p : Pl) (f : Nat → Int) : ∀ k : Nat, runP p (fun j => eB (f j)) k = some (PJ p f k)
  | 0 => rfl
  | k + 1 => by
    unfold runP
    rw [run_eB p f k]
    simp only [pj_ap, if_true]
theorem setE_same (f : Nat → Int) (k : Nat) : setE (fun j => eB (f j)) k (eB (f k)) = fun j => eB (f j) := by
  funext j
  unfold setE
  by_cases e : j = k
  · rw [if_pos e, e]
  · rw [if_neg e]
theorem HS.apart1 {S : List Nat} {W w : World} {t t' : Th} {L : List Th} (h : HS S W w (t :: L)) (ht : t' ∈ L) : ∀ b, b ∈ t.bs → b ∉ t'.bs := fun b hb hb' => by
  have h3 := h.2.2.1
  rw [List.flatMap_cons, List.nodup_append] at h3
  exact h3.2.2 b hb b (List.mem_flatMap.2 ⟨t', ht, hb'⟩) rfl
end
section
variable {W w : World} {D : Yl} {R : List Th} {p : Pl} {u n : Nat} {f : Nat → Int} {A : Option Addr} {c : Nat}
/-- All the entries wait. -/
theorem wish_all (hS : HS [] W w (thE (.slice A n c) n (fun j => eB (f j)) :: YL D (newH p u) (fun _ => z0) R)) (hns : D.ns = []) (hn : n ≤ 200) (hp : Pinv p 60) (hh : D.hn ≤ 16) : Calls Try.prog 13 #[.pointer (some ⟨D.Y, 0, none⟩), .slice A n c] w fun x w' => x = .returned (.int .i64 0) ∧ YA [] W w' D (I0 p f n u (PJ p f n)) R 16 := by
  have hr : Se w A n (fun j => eB (f j)) := hS.se 0 rfl
  have hap := HS.apart1 hS (t' := thH D.hb D.hc D.hm D.hn (newH p u)) (by unfold YL; simp)
  refine (yd_wish (HS.intoR hS) (fun j => eB (f j)) A n c hr (fun ad e _ hm => ?_) (by show 0 + n ≤ 200; omega) 60 hp (by omega)).mono ?_
  · subst e
    exact hap ad.block (by simp [thE, thW, Value.ownBlock]) hm
  · rintro x w' ⟨q, j, er, ho, rfl, hZ⟩
    obtain ⟨e1, e2, e3⟩ := ho.uniq (show AllOut (newH p u).ah (fun j => eB (f j)) n (PJ p f n) n 0 from ⟨run_eB p f n, .inl ⟨rfl, rfl⟩⟩)
    subst e1; subst e2; subst e3
    rw [if_pos rfl] at hZ
    have hq : ({ newH p u with ah := PJ p f j, q := (newH p u).q ++ (List.range j).map fun j => eB (f j) } : Hd) = { newH p u with ah := PJ p f j, q := (List.range' 0 j).map fun i => eB (f i) } := by
      rw [List.range_eq_range']
      rfl
    rw [hq] at hZ
    exact ⟨rfl, D.V, D.ns, D.bf, D.hn, hh, by rw [hns]; rfl, hZ.sub (YL.lessR _ _ _ [_] R)⟩
end
attribute [local irreducible] FA FL
set_option maxRecDepth 100000 in
set_option maxHeartbeats 32000000 in
theorem walk (W : World) (A1 : Option Addr) (n1 c1 : Nat) (g1 : Nat → Int) (hn1 : n1 ≤ c1) (hc1 : c1 ≤ maxLen) (hr1 : Is W A1 n1 g1) (hg1 : IsI g1) (hl1 : ∀ ad, A1 = some ad → 0 < n1 → ad.block < W.heap.size) (re1 : c1 * 8 ≤ 140737488351232) (a0 : Int) (r_a0 : -9223372036854775808 ≤ a0 ∧ a0 ≤ 9223372036854775807) (A2 : Option Addr) (n2 c2 : Nat) (g2 : Nat → Int) (hn2 : n2 ≤ c2) (hc2 : c2 ≤ maxLen) (hr2 : Is W A2 n2 g2) (hg2 : IsI g2) (hl2 : ∀ ad, A2 = some ad → 0 < n2 → ad.block < W.heap.size) (re2 : c2 * 8 ≤ 140737488351232) (cr : Bool) (a1 : Int) (r_a1 : -9223372036854775808 ≤ a1 ∧ a1 ≤ 9223372036854775807) :
    Calls Try.prog 4 #[.slice A1 n1 c1, .int .i64 a0, .slice A2 n2 c2, .bool cr, .int .i64 a1] W fun e w' => e = .returned (.bool true) ∧ Below W.heap.size W w' := by
  unfold maxLen at hc1
  have hnm : (n1 : Int) ≤ 9223372036854775807 := by have := hn1; omega
  have HL := hid hl1
  clear hl1 re1
  obtain ⟨p, hp⟩ : ∃ p, p = mkP g1 (min n1 30) := ⟨_, rfl⟩
  have GP : good p ∧ p.v ≤ 30 := by rw [hp]; exact good_mk g1 _ (by omega)
  have MK := hid (fun (w : World) (h : Is w A1 n1 g1) (hl : ∀ ad, A1 = some ad → 0 < n1 → ad.block < w.heap.size) => (show Calls Try.prog 9 #[.slice A1 n1 c1, .int .i64 30] w fun x w' => x = .returned (.agg (FA 330 (pc p))) ∧ Below w.heap.size w w' from by rw [hp]; exact make_fa w A1 n1 c1 g1 h hl hnm 30 (by omega)))
  clear hp
  have hv0 := GP.1.v
  have hv30 := GP.2
  have HR2 := hid (show ∀ (w : World), Below W.heap.size W w → Is w A2 n2 g2 from fun w h => hr2.below h (Nat.le_refl _))
  have HG2 := hid hg2
  clear hr2 hl2 re2 hg2
  unfold maxLen at hc2
  have hnm2 : (n2 : Int) ≤ 9223372036854775807 := by have := hn2; omega
  obtain ⟨f, hf⟩ : ∃ f : Nat → Int, f = fun j => IntKind.u64.wrap (g2 j) := ⟨_, rfl⟩
  have HFF := hid hf
  clear hf
  obtain ⟨x0, hx0⟩ : ∃ x : Nat, (x : Int) = wi a0 6 := ⟨(wi a0 6).toNat, by have := wi_bd a0 6 (by omega); omega⟩
  have bx0 := wi_bd a0 6 (by omega)
  rw [← hx0] at bx0
  have Wx0 := hid (fun w => re_i64 (within_any a0 6 w (by omega) (by omega)) hx0.symm)
  clear hx0
  obtain ⟨bx01, bx02⟩ := bx0
  obtain ⟨u, hu⟩ : ∃ u : Nat, u = 1 + x0 := ⟨_, rfl⟩
  have hu1 : 1 ≤ u := by omega
  have hu2 : u ≤ 6 := by omega
  have HUX := hid (show (1 : Int) + x0 = u from by omega)
  clear hu
  have hxa := wi_bd a1 u (by omega)
  obtain ⟨w0, hi⟩ : ∃ x : Nat, (x : Int) = wi a1 u := ⟨(wi a1 u).toNat, by omega⟩
  rw [← hi] at hxa
  have WI := hid (fun w => re_i64 (within_any a1 u w (by omega) (by omega)) hi.symm)
  clear hi
  have hwu : w0 < u := by omega
  clear hxa
  have PI := hid (show Pinv p 60 from GP.1.1.mono (by have := GP.2; omega))
  have F00 := hid (show Fit (newY p u) 30 from Fit.new GP.1 ⟨hu1, by omega⟩ hv30)
  clear GP
  have S0 : Hid (HS [] W W []) := hid HS.start
  go_enter Try.func4, Try.ntmps4
  go_wp2_with fail
  refine (yknown_any _).mono ?_
  rintro x w1 ⟨rfl, hB⟩
  have R1 := hid (hr1.below hB (Nat.le_refl _))
  have B1 := hid hB
  have S1 := hid (S0.out.below hB)
  clear hr1 hB S0
  go_wp2_with fail
  refine (MK.out _ R1.out (fun ad e h => Nat.lt_of_lt_of_le (HL.out ad e h) B1.out.size)).mono ?_
  rintro x w2 ⟨rfl, hb⟩
  have S2 := hid (S1.out.below hb)
  clear hb S1 MK
  go_simp
  go_upto_region 4 with (first | ((with_reducible refine wl_id ?_); refine wl_ow rfl (ow_alloc rfl (zpl_fa _) (by omega) S2.out ?_); intro P w_ hZ _; have SA := hid hZ; clear hZ) | ((with_reducible refine wl_id ?_); refine wl_ow rfl (ow_store (A := []) 0 330 (pc p) (pc p) rfl rfl rfl SA.out (by omega) (fun j hj => patch_all _ _ _ j hj) info_pl (pc_one _) ?_); intro w_ hZ; have S3 := hid hZ; clear hZ))
  clear S2 R1 B1
  go_wp2_with fail
  refine (Wx0.out _).mono ?_
  rintro x w_ ⟨rfl, rfl⟩
  go_simp
  go_upto_region 5 with (fail)
  rw [HUX.out]
  go_wp2_with ((with_reducible refine wl_id ?_); refine wl_ow rfl (ow_load 0 rfl 0 330 (pc p) rfl rfl S3.out (by omega) (fun j hj => by rw [Nat.zero_add]) Try.underlying33 rfl info_pl ?_))
  refine (ya_new S3.out p u ⟨hu1, by omega⟩).mono ?_
  rintro x w4 ⟨D, rfl, hY⟩
  have Y0 := hid hY
  clear hY S3
  go_simp
  obtain ⟨V0, ns0, bf0, hn0, hhn, hns0, hZ0⟩ := Y0.out
  obtain ⟨E0, hE0⟩ : ∃ E0 : Yl, E0 = { D with V := V0, ns := ns0, bf := bf0, hn := hn0 } := ⟨_, rfl⟩
  have HEY : E0.Y = D.Y := by rw [hE0]
  have HEN := hid (show E0.ns = [] ∧ E0.hn ≤ 16 from by rw [hE0]; exact ⟨List.map_eq_nil_iff.1 hns0, hhn⟩)
  rw [← hE0] at hZ0
  rw [← HEY]
  have SY := hid (HS.nilE (g := (fun j => eB (f j))) hZ0)
  clear hE0 HEY hns0 hhn hZ0 Y0
  go_wp2_with fail
  go_loopw [15, 16] (fun v iv wr => ∃ (k : Nat) (A : Option Addr) (d : Nat), k ≤ n2 ∧ k ≤ 6 ∧ v = .slice A k d ∧ k ≤ d ∧ iv = .int .i64 (k : Int) ∧ HS [] W wr (thE (.slice A k d) k (fun j => eB (f j)) :: YL E0 (newH p u) (fun _ => z0) [thB P 330 (pc p)])) (fun _ i _ => 6 - (intOf i).toNat)
  case atStart => exact ⟨0, none, 0, by omega, by omega, rfl, by omega, rfl, SY.out⟩
  case round =>
    clear SY
    obtain ⟨k, A, dd, hk, hk6, rfl, hkd, rfl, hS⟩ := hrel
    have S5 := hid hS
    clear hS
    go_upto_region 10 with (fail)
    obtain ⟨bb, hbb⟩ : ∃ bb : Bool, bb = (decide (k < n2) && decide (k < 6)) := ⟨_, rfl⟩
    have HBB := hid hbb
    clear hbb
    go_cut [48] from 41 to 48 (fun x wx => x = .bool bb ∧ wr = wx)
    case first =>
      by_cases h1 : (k : Int) < n2
      · by_cases h2 : (k : Int) < 6
        · go_wp2_with fail
          go_meet
          exact ⟨by rw [HBB.out]; simp; omega, rfl⟩
        · go_wp2_with fail
          go_meet
          exact ⟨by rw [HBB.out]; simp; omega, rfl⟩
      · go_wp2_with fail
        go_meet
        exact ⟨by rw [HBB.out]; simp; omega, rfl⟩
    case rest =>
      obtain ⟨rfl, rfl⟩ := hcut
      cases bb
      · clear HBB
        have WA := hid (wish_all S5.out HEN.out.1 (by omega) PI.out HEN.out.2)
        clear S5
        skip
        obtain ⟨n, hn⟩ : ∃ n, n = k := ⟨_, rfl⟩
        rw [← hn] at WA ⊢
        have hn6 : n ≤ 6 := by omega
        clear hn hk6 hk hkd
        obtain ⟨cc, hcc⟩ : ∃ cc : Bool, cc = (cr && decide (0 < n)) := ⟨_, rfl⟩
        have HCC := hid hcc
        clear hcc
        have C0 := hid (show cc = true → 0 < n from fun h => by rw [HCC.out] at h; simp at h; omega)
        have FI := hid (show Fit (I0 p f n u (PJ p f n)) (30 + 2 * ((0 : Nat) : Int)) from F00.out.wish (PJ p f n) _)
        clear F00
        obtain ⟨R, hR⟩ : ∃ R, R = [thB P 330 (pc p)] := ⟨_, rfl⟩
        have HMR := hid (show thB P 330 (pc p) ∈ R from by rw [hR]; simp)
        rw [← hR] at WA
        clear hR
        go_wp2_with fail
        refine WA.out.mono ?_
        rintro x w7 ⟨rfl, hY⟩
        have Y1 := hid hY
        clear hY WA
        go_simp
        go_wp2_with fail
        go_loopw [17] (fun iv wr => ∃ (i : Nat) (y : Yd), i ≤ n + 4 ∧ iv = .int .i64 (i : Int) ∧ ST p f n u w0 cc i y ∧ Fit y (30 + 2 * (i : Int)) ∧ YA [] W wr E0 y R (16 + 201 * i)) (fun i _ => n + 4 - (intOf i).toNat)
        case atStart => exact ⟨0, _, by omega, rfl, .inl ⟨rfl, _, rfl⟩, FI.out, Y1.out⟩
        case round =>
          clear Y1 FI
          obtain ⟨i, y, hi, rfl, hst, hF, hY⟩ := hrel
          have Y2 := hid hY
          have F2 := hid hF
          have ST2 := hid hst
          clear hY hF hst
          by_cases hlt : (i : Int) < (n : Int) + 4
          · obtain ⟨B, hB⟩ : ∃ B : Bool, B = (decide (i = 1) && cc) := ⟨_, rfl⟩
            have HB := hid hB
            clear hB
            have SS := hid (st_step hv0 ⟨hu1, by omega⟩ hwu C0.out ST2.out)
            rw [← HB.out] at SS
            have UNS := hid (st_un ST2.out)
            have NSS := hid (st_ns ST2.out)
            clear ST2
            go_upto_region 18 with (fail)
            go_cut [81] from 72 to 81 (fun x wx => x = .bool B ∧ wr = wx)
            case first =>
              by_cases h1 : i = 1
              · have e1 : ((i : Int) == 1) = true := by simp [h1]
                cases cr
                · go_wp2_with fail
                  go_meet
                  exact ⟨by rw [HB.out, HCC.out]; simp, rfl⟩
                · rcases Nat.eq_zero_or_pos n with h0 | h0
                  · subst h0
                    go_wp2_with fail
                    go_meet
                    exact ⟨by rw [HB.out, HCC.out]; simp, rfl⟩
                  · have h0' : (0 : Int) < n := by omega
                    go_wp2_with fail
                    go_meet
                    exact ⟨by rw [HB.out, HCC.out]; simp [h1, h0], rfl⟩
              · have e1 : ((i : Int) == 1) = false := by simp; omega
                go_wp2_with fail
                go_meet
                exact ⟨by rw [HB.out]; simp [h1], rfl⟩
            case rest =>
              obtain ⟨rfl, rfl⟩ := hcut
              clear HB HCC
              cases B
              · rw [if_neg (by decide)] at SS
                have FC := hid (show Fit y (30 + 2 * (i : Int) + 1) from F2.out.mono (by omega))
                have Y3 := Y2
                clear Y2 F2
                have UN0 := hid (show y.h.un = u from UNS.out)
                have NS0 := hid (show y.ns = [] from NSS.out)
                clear UNS NSS
                obtain ⟨y0, hy0⟩ : ∃ y0, y0 = y := ⟨_, rfl⟩
                rw [← hy0] at SS FC Y3 UN0 NS0
                clear hy0
                have TN := hid (show (tickY y0).ns.length ≤ 16 from by have h1 := tickY_len y0; have h2 := UN0.out; have h3 := NS0.out; rw [h3] at h1; simp only [List.length_nil] at h1; omega)
                have FT := hid FC.out.tick
                go_wp2_with fail
                refine (ya_tick Y3.out FC.out (by omega) (by rw [NS0.out]; decide)).mono ?_
                rintro x w9 ⟨rfl, hY⟩
                have Y4 := hid hY
                clear hY Y3 FC NS0 UN0
                go_simp
                go_wp2_with fail
                go_loopw [18] (fun jv wx => ∃ (j : Nat) (y' : Yd), j ≤ 200 ∧ jv = .int .i64 (j : Int) ∧ runD 200 (tickY y0) = runD (200 - j) y' ∧ YA [] W wx E0 y' R (16 + 201 * i + j) ∧ Fit y' (30 + 2 * (i : Int) + 1 + 1) ∧ y'.ns.length ≤ 16) (fun j _ => 200 - (intOf j).toNat)
                case atStart => exact ⟨0, tickY y0, by omega, rfl, rfl, Y4.out, FT.out, TN.out⟩
                case round =>
                  clear Y4 FT TN
                  obtain ⟨j, y', hj, rfl, hr, hY, hF, hns⟩ := hrel
                  have Y5 := hid hY
                  have F5 := hid hF
                  have N5 := hid hns
                  have RR := hid hr
                  clear hY hF hns hr
                  by_cases hjl : (j : Int) < 200
                  · by_cases h0 : y'.ns.length = 0
                    · have DL := hid (ya_delN Y5.out 0 (by rw [h0]; rfl) false)
                      have E9 := hid (show runD (200 - j) y' = y' from runD_nil _ (List.length_eq_zero_iff.1 h0))
                      clear h0 Y5
                      go_wp2_with fail
                      refine DL.out.mono ?_
                      rintro x w3 ⟨rfl, hY⟩
                      have YY := hid hY
                      clear hY DL
                      go_simp
                      go_wp2_with fail
                      go_roundw
                      case rel => exact ⟨i + 1, _, by omega, by go_num, SS.out, by rw [RR.out, E9.out]; exact F5.out.mono (by omega), by rw [RR.out, E9.out]; exact YY.out.mono (by omega)⟩
                      case measure => simp [intOf]; omega
                    · have h1 : 0 < y'.ns.length := by omega
                      have DL := hid (ya_del Y5.out F5.out (by omega) (by omega) (by have := N5.out; omega) 0 h1 false)
                      have FD := hid (F5.out.del 0 false)
                      have E9 := hid (show runD (200 - j) y' = runD (200 - (j + 1)) (delY y' 0 false) from by rw [show 200 - j = (200 - (j + 1)) + 1 by omega]; exact runD_cons _ h1)
                      have ND := hid (show (delY y' 0 false).ns.length ≤ 16 from by have h2 := del0_len y' h1; have h3 := N5.out; omega)
                      clear h0 h1 Y5 N5 F5
                      go_wp2_with fail
                      refine DL.out.mono ?_
                      rintro x w3 ⟨rfl, hY⟩
                      have YY := hid hY
                      clear hY DL
                      go_simp
                      go_wp2_with fail
                      go_roundw
                      case rel => exact ⟨j + 1, _, by omega, by go_num, by rw [RR.out, E9.out], YY.out.mono (by omega), FD.out, ND.out⟩
                      case measure => simp [intOf]; omega
                  · have hje : j = 200 := by omega
                    subst hje
                    have E9 := hid (show runD (200 - 200) y' = y' from rfl)
                    have YY := Y5
                    clear Y5
                    go_wp2_with fail
                    go_roundw
                    case rel => exact ⟨i + 1, _, by omega, by go_num, SS.out, by rw [RR.out, E9.out]; exact F5.out.mono (by omega), by rw [RR.out, E9.out]; exact YY.out.mono (by omega)⟩
                    case measure => simp [intOf]; omega
              · rw [if_pos rfl] at SS
                have FC := hid (F2.out.crash (i := w0) (by rw [UNS.out]; exact hwu))
                go_wp2_with fail
                refine (WI.out _).mono ?_
                rintro x w_ ⟨rfl, rfl⟩
                go_simp
                go_wp2_with fail
                refine (ya_crash Y2.out F2.out (by omega) w0 (by rw [UNS.out]; exact hwu)).mono ?_
                rintro x w8 ⟨rfl, hY⟩
                have Y3 := hid hY
                clear hY Y2 F2
                go_simp
                have UN0 := hid (show (crY y w0).h.un = u from UNS.out)
                have NS0 := hid (show (crY y w0).ns = [] from NSS.out)
                clear UNS NSS
                obtain ⟨y0, hy0⟩ : ∃ y0, y0 = (crY y w0) := ⟨_, rfl⟩
                rw [← hy0] at SS FC Y3 UN0 NS0
                clear hy0
                have TN := hid (show (tickY y0).ns.length ≤ 16 from by have h1 := tickY_len y0; have h2 := UN0.out; have h3 := NS0.out; rw [h3] at h1; simp only [List.length_nil] at h1; omega)
                have FT := hid FC.out.tick
                go_wp2_with fail
                refine (ya_tick Y3.out FC.out (by omega) (by rw [NS0.out]; decide)).mono ?_
                rintro x w9 ⟨rfl, hY⟩
                have Y4 := hid hY
                clear hY Y3 FC NS0 UN0
                go_simp
                go_wp2_with fail
                go_loopw [18] (fun jv wx => ∃ (j : Nat) (y' : Yd), j ≤ 200 ∧ jv = .int .i64 (j : Int) ∧ runD 200 (tickY y0) = runD (200 - j) y' ∧ YA [] W wx E0 y' R (16 + 201 * i + j) ∧ Fit y' (30 + 2 * (i : Int) + 1 + 1) ∧ y'.ns.length ≤ 16) (fun j _ => 200 - (intOf j).toNat)
                case atStart => exact ⟨0, tickY y0, by omega, rfl, rfl, Y4.out, FT.out, TN.out⟩
                case round =>
                  clear Y4 FT TN
                  obtain ⟨j, y', hj, rfl, hr, hY, hF, hns⟩ := hrel
                  have Y5 := hid hY
                  have F5 := hid hF
                  have N5 := hid hns
                  have RR := hid hr
                  clear hY hF hns hr
                  by_cases hjl : (j : Int) < 200
                  · by_cases h0 : y'.ns.length = 0
                    · have DL := hid (ya_delN Y5.out 0 (by rw [h0]; rfl) false)
                      have E9 := hid (show runD (200 - j) y' = y' from runD_nil _ (List.length_eq_zero_iff.1 h0))
                      clear h0 Y5
                      go_wp2_with fail
                      refine DL.out.mono ?_
                      rintro x w3 ⟨rfl, hY⟩
                      have YY := hid hY
                      clear hY DL
                      go_simp
                      go_wp2_with fail
                      go_roundw
                      case rel => exact ⟨i + 1, _, by omega, by go_num, SS.out, by rw [RR.out, E9.out]; exact F5.out.mono (by omega), by rw [RR.out, E9.out]; exact YY.out.mono (by omega)⟩
                      case measure => simp [intOf]; omega
                    · have h1 : 0 < y'.ns.length := by omega
                      have DL := hid (ya_del Y5.out F5.out (by omega) (by omega) (by have := N5.out; omega) 0 h1 false)
                      have FD := hid (F5.out.del 0 false)
                      have E9 := hid (show runD (200 - j) y' = runD (200 - (j + 1)) (delY y' 0 false) from by rw [show 200 - j = (200 - (j + 1)) + 1 by omega]; exact runD_cons _ h1)
                      have ND := hid (show (delY y' 0 false).ns.length ≤ 16 from by have h2 := del0_len y' h1; have h3 := N5.out; omega)
                      clear h0 h1 Y5 N5 F5
                      go_wp2_with fail
                      refine DL.out.mono ?_
                      rintro x w3 ⟨rfl, hY⟩
                      have YY := hid hY
                      clear hY DL
                      go_simp
                      go_wp2_with fail
                      go_roundw
                      case rel => exact ⟨j + 1, _, by omega, by go_num, by rw [RR.out, E9.out], YY.out.mono (by omega), FD.out, ND.out⟩
                      case measure => simp [intOf]; omega
                  · have hje : j = 200 := by omega
                    subst hje
                    have E9 := hid (show runD (200 - 200) y' = y' from rfl)
                    have YY := Y5
                    clear Y5
                    go_wp2_with fail
                    go_roundw
                    case rel => exact ⟨i + 1, _, by omega, by go_num, SS.out, by rw [RR.out, E9.out]; exact F5.out.mono (by omega), by rw [RR.out, E9.out]; exact YY.out.mono (by omega)⟩
                    case measure => simp [intOf]; omega
          · have hin : i = n + 4 := by omega
            subst hin
            obtain ⟨b, g⟩ := st_end ST2.out
            have GA := hid g.all
            have UN := hid g.un
            have GP_ := hid g.pl
            clear ST2 g F2
            have PV := hid (pj_v p f n)
            obtain ⟨pl, hpl⟩ : ∃ pl, pl = PJ p f n := ⟨_, rfl⟩
            rw [← hpl] at GA GP_ PV
            clear hpl
            have fpl := fun w => fld_pl pl w
            rw [PV.out] at fpl
            have FPL := hid fpl
            clear fpl
            have xw : IntKind.i64.wrap (p.v + (n : Int)) = p.v + n := IntWalk.i64_in _ (by omega)
            have CP := hid (show ∀ w' y N, YA [] W w' E0 y R N → w'.cell? ⟨P, 0, none⟩ = some (.int .i64 p.v) from fun w' y N h => (show Fb w' P 330 (pc p) from h.memR HMR.out).2.1 0 (by omega))
            go_wp2_with fail
            go_loopw [19] (fun jv wx => ∃ j : Nat, j ≤ u ∧ jv = .int .i64 (j : Int) ∧ YA [] W wx E0 y R (16 + 201 * (n + 4))) (fun j _ => u - (intOf j).toNat)
            case atStart => exact ⟨0, Nat.zero_le _, rfl, Y2.out⟩
            case round =>
              clear Y2
              obtain ⟨j, hj, rfl, hY⟩ := hrel
              have Y5 := hid hY
              clear hY
              by_cases hltj : (j : Int) < u
              · have VE := hid (ya_ver Y5.out j (by rw [UN.out]; omega))
                rw [(GA.out j (by omega)).1] at VE
                simp only [if_true, PV.out] at VE
                have YB := hid (fun (w' : World) (hb : Below wr.heap.size wr w') => Y5.out.below hb)
                clear Y5
                have nj : (p.v + (n : Int) != p.v + (n : Int)) = false := by simp
                go_wp2_with fail
                refine VE.out.mono ?_
                rintro x w7 ⟨rfl, hb⟩
                have Y6 := hid (YB.out _ hb)
                have cp := CP.out _ _ _ Y6.out
                clear hb VE YB
                go_simp
                go_wp2_with fail
                go_roundw
                case rel => exact ⟨j + 1, by omega, by go_num, Y6.out⟩
                case measure => simp [intOf]; omega
              · have PO := hid (fun (w' : World) (h' : YA [] W w' E0 y R (16 + 201 * (n + 4))) => (show Calls Try.prog 19 #[.pointer (some ⟨E0.Y, 0, none⟩)] w' fun x w2 => x = .returned (.agg (FA 330 (pc pl))) ∧ YA [] W w2 E0 y R (16 + 201 * (n + 4)) from by rw [← GP_.out]; exact ya_pool h'))
                go_upto_region 30 with (fail)
                refine wp_region_held_drew (S := fun (w' : World) => w'.cell? ⟨P, 0, none⟩ = some (.int .i64 p.v)) (by kernel_rfl) ?_ (fun hHeld => ?_)
                · exact CP.out _ _ _ (Y5.out.below (below_drew _))
                have Y6 := Y5.out.below (below_drew _)
                refine tk 0 (v := ?_) rfl (by kernel_rfl) (by kernel_rfl) (by kernel_rfl) (fun _ _ _ h => h) rfl ?_ hHeld ?_; rotate_left; (focus (intro w hSw; (try dsimp only at hSw);  go_simp; (try with_reducible rfl))); (try simp only [Act.put, List.setIfInBounds_toArray, List.set_cons_zero, List.set_cons_succ])
                refine tk 3 (v := ?_) rfl (by kernel_rfl) (by kernel_rfl) (by kernel_rfl) (fun _ _ _ h => h) rfl ?_ hHeld ?_; rotate_left; (focus (intro w hSw; (try dsimp only at hSw);  go_simp; (try with_reducible rfl))); (try simp only [Act.put, List.setIfInBounds_toArray, List.set_cons_zero, List.set_cons_succ])
                refine tk 4 (v := ?_) rfl (by kernel_rfl) (by kernel_rfl) (by kernel_rfl) (fun _ _ _ h => h) rfl ?_ hHeld ?_; rotate_left; (focus (intro w hSw; (try dsimp only at hSw); have x0 := hSw; go_simp; (try with_reducible rfl))); (try simp only [Act.put, List.setIfInBounds_toArray, List.set_cons_zero, List.set_cons_succ])
                refine tk 5 (v := ?_) rfl (by kernel_rfl) (by kernel_rfl) (by kernel_rfl) (fun _ _ _ h => h) rfl ?_ hHeld ?_; rotate_left; (focus (intro w hSw; (try dsimp only at hSw);  go_simp; (try with_reducible rfl))); (try simp only [Act.put, List.setIfInBounds_toArray, List.set_cons_zero, List.set_cons_succ])
                refine tk 6 (v := ?_) rfl (by kernel_rfl) (by kernel_rfl) (by kernel_rfl) (fun _ _ _ h => h) rfl ?_ hHeld ?_; rotate_left; (focus (intro w hSw; (try dsimp only at hSw);  go_simp; (try with_reducible rfl))); (try simp only [Act.put, List.setIfInBounds_toArray, List.set_cons_zero, List.set_cons_succ])
                refine tk 7 (v := ?_) rfl (by kernel_rfl) (by kernel_rfl) (by kernel_rfl) (fun _ _ _ h => h) rfl ?_ hHeld ?_; rotate_left; (focus (intro w hSw; (try dsimp only at hSw);  go_simp; (try with_reducible rfl))); (try simp only [Act.put, List.setIfInBounds_toArray, List.set_cons_zero, List.set_cons_succ])
                refine only 1 rfl (by kernel_rfl) rfl (fun K hK => ?_)
                go_simp
                refine (PO.out _ Y6).mono ?_
                rintro e' w8 ⟨rfl, hY⟩
                have Y7 := hid hY
                try go_wp2_with fail
                refine hK.out _ _ (CP.out _ _ _ hY) (fun h2 => ?_)
                clear hK
                try simp only [Act.put, List.setIfInBounds_toArray, List.set_cons_zero, List.set_cons_succ]
                clear hY
                refine tk 2 (v := ?_) rfl (by kernel_rfl) (by kernel_rfl) (by kernel_rfl) (fun _ _ _ h => h) rfl ?_ h2 ?_; rotate_left; (focus (intro w hSw; (try dsimp only at hSw); have x0 := FPL.out w; go_simp; (try with_reducible rfl))); (try simp only [Act.put, List.setIfInBounds_toArray, List.set_cons_zero, List.set_cons_succ])
                refine tk 8 (v := ?_) rfl (by kernel_rfl) (by kernel_rfl) (by kernel_rfl) (fun _ _ _ h => h) rfl ?_ h2 ?_; rotate_left; (focus (intro w hSw; (try dsimp only at hSw);  go_simp; (try with_reducible rfl))); (try simp only [Act.put, List.setIfInBounds_toArray, List.set_cons_zero, List.set_cons_succ])
                refine tk 9 (v := ?_) rfl (by kernel_rfl) (by kernel_rfl) (by kernel_rfl) (fun _ _ _ h => h) rfl ?_ h2 ?_; rotate_left; (focus (intro w hSw; (try dsimp only at hSw);  go_simp; (try with_reducible rfl))); (try simp only [Act.put, List.setIfInBounds_toArray, List.set_cons_zero, List.set_cons_succ])
                refine wpAnyH_done (by kernel_rfl) ?_ _
                go_wp2_with fail
                go_ret
                exact ⟨by simp, Y7.out.ch.below (by simp) (Nat.le_refl _)⟩
      · have hkn2 : k < n2 ∧ k < 6 := by have := HBB.out; simp at this; exact this
        obtain ⟨hl1, hl2⟩ := hkn2
        clear HBB
        have i1 : (k : Int) < n2 := by omega
        have i2 : (k : Int) < 6 := by omega
        obtain ⟨bb, off, rfl⟩ := Sl.addr (HR2.out W (Below.refl _ _)) (by omega)
        have RR := Sl.at_ (show Sl wr (some ⟨bb, off, none⟩) n2 (fun j => .int .i64 (g2 j)) from HR2.out wr S5.out.bl) (j := k) hl1
        obtain ⟨gk, hgk⟩ : ∃ x, x = g2 k := ⟨_, rfl⟩
        have FK := hid (show f k = IntKind.u64.wrap gk from by rw [HFF.out, hgk])
        rw [← hgk] at RR
        clear hgk
        have i0 : (0 : Int) ≤ k := by omega
        obtain ⟨fk, hfk⟩ : ∃ x, IntKind.u64.wrap gk = x := ⟨_, rfl⟩
        rw [hfk] at FK
        go_upto_region 12 with (fail)
        apply wp_region_lit
        refine wl_val (v := ?_) rfl ?_ ?_; rotate_left; (focus ( go_simp; (try with_reducible rfl))); (try simp only [Act.put, List.setIfInBounds_toArray, List.set_cons_zero, List.set_cons_succ])
        refine wl_val (v := ?_) rfl ?_ ?_; rotate_left; (focus ( go_simp; (try with_reducible rfl))); (try simp only [Act.put, List.setIfInBounds_toArray, List.set_cons_zero, List.set_cons_succ])
        refine wl_val (v := ?_) rfl ?_ ?_; rotate_left; (focus ( go_simp; (try with_reducible rfl))); (try simp only [Act.put, List.setIfInBounds_toArray, List.set_cons_zero, List.set_cons_succ])
        refine wl_val (v := ?_) rfl ?_ ?_; rotate_left; (focus ( go_simp; (try with_reducible rfl))); (try simp only [Act.put, List.setIfInBounds_toArray, List.set_cons_zero, List.set_cons_succ])
        refine wl_val (v := ?_) rfl ?_ ?_; rotate_left; (focus ( go_simp; (try with_reducible rfl))); (try simp only [Act.put, List.setIfInBounds_toArray, List.set_cons_zero, List.set_cons_succ])
        refine wl_val (v := ?_) rfl ?_ ?_; rotate_left; (focus ( go_simp; (try with_reducible rfl))); (try simp only [Act.put, List.setIfInBounds_toArray, List.set_cons_zero, List.set_cons_succ])
        refine wl_val (v := ?_) rfl ?_ ?_; rotate_left; (focus ( go_simp; (try with_reducible rfl))); (try simp only [Act.put, List.setIfInBounds_toArray, List.set_cons_zero, List.set_cons_succ])
        refine wl_val (v := ?_) rfl ?_ ?_; rotate_left; (focus ( go_simp; (try with_reducible rfl))); (try simp only [Act.put, List.setIfInBounds_toArray, List.set_cons_zero, List.set_cons_succ])
        have S6 := hid (S5.out.cells (T := 43) (enL (eB fk)))
        clear RR S5
        refine wl_ow rfl (ow_val (v := .slice (some ⟨wr.heap.size, 0, none⟩) 1 1) (w' := wr.alloc (.cells (enL (eB fk)).toArray 43)) (by unfold enL eB; go_simp) ?_)
        generalize wr.alloc (.cells (enL (eB fk)).toArray 43) = w7 at *
        obtain ⟨E, hE⟩ : ∃ E, E = wr.heap.size := ⟨_, rfl⟩
        rw [← hE] at S6 ⊢
        clear hE
        try simp only [Act.put, List.setIfInBounds_toArray, List.set_cons_zero, List.set_cons_succ]
        refine wl_ow rfl (ow_appE (A := [thC E (enL (eB fk))]) (.tmp 51) (.tmp 59) rfl rfl (c := 1) (eB fk) rfl S6.out (S6.out.ce 0 rfl) (by omega) (fun A' c' w8 hZ hcc => ?_))
        rw [← FK.out, setE_same] at hZ
        have S7 := hid hZ.tail
        clear hZ S6
        try simp only [Act.put, List.setIfInBounds_toArray, List.set_cons_zero, List.set_cons_succ]
        refine wl_val (v := ?_) rfl ?_ ?_; rotate_left; (focus ( go_simp; (try with_reducible rfl))); (try simp only [Act.put, List.setIfInBounds_toArray, List.set_cons_zero, List.set_cons_succ])
        go_wp2_with fail
        go_roundw
        case rel => exact ⟨k + 1, A', c', by omega, by omega, rfl, hcc, by go_num, S7.out⟩
        case measure => simp [intOf]; omega

set_option maxRecDepth 100000 in
theorem lifted (os : Os) (started : os.Started) (H : Type) (enc : TypeId × Value → H) :
    ReturnsInHanded {} Try.checked os 4 .any (Rows.yardRoundsSpec.pre6 enc Try.prog Try.f4 [] false) (Rows.yardRoundsSpec.post enc Try.prog Try.f4 false true false false) :=
  law_step (s := Rows.yardRoundsSpec) started (by kernel_rfl) Try.func4
    (ChangeSpec.witness6 (s := Rows.yardRoundsSpec) (enc := enc) (C := Try.checked) false ⟨#[], #[.slice none 0 0, .int .i64 0, .slice none 0 0, .bool false, .int .i64 0], []⟩ 8 (by kernel_rfl) (by kernel_rfl) (by kernel_rfl) (by kernel_rfl))
    rfl (by rw [Try.params4]; decide +kernel) rfl Try.underlying4
    (fun ds h => by
      rw [Try.params4] at h
      match ds, h with
      | [_, _, _, _, _], _ => rfl)
    (fun W base args ds ps hval hA hsz => by
      rw [Try.params4] at hA hval hsz
      obtain ⟨v0, vs0, d0, ds0, p0, q0, hargs, rfl, rfl, h0, r0⟩ := trodAll_cons hA
      obtain ⟨v1, vs1, d1, ds1, p1, q1, rfl, rfl, rfl, h1, r1⟩ := trodAll_cons r0
      obtain ⟨v2, vs2, d2, ds2, p2, q2, rfl, rfl, rfl, h2, r2⟩ := trodAll_cons r1
      obtain ⟨v3, vs3, d3, ds3, p3, q3, rfl, rfl, rfl, h3, r3⟩ := trodAll_cons r2
      obtain ⟨v4, vs4, d4, ds4, p4, q4, rfl, rfl, rfl, h4, r4⟩ := trodAll_cons r3
      obtain ⟨rfl, rfl, rfl⟩ := trodAll_nil r4
      obtain rfl : args = #[v0, v1, v2, v3, v4] := by cases args; simp_all
      obtain ⟨A0, n0, c0, g0, rfl, hn0, hc0, hs0, hw0, hl0, hd0⟩ := open_row Try.underlying22 Try.underlying3 (by kernel_rfl) (hval 0 22 v0 rfl rfl) h0
      have re0 : c0 * 8 ≤ 140737488351232 := by
        rcases hd0 with ⟨_, h0⟩ | ⟨xs, ys, h1, h2⟩
        · omega
        · have := sized_slice hsz (j := 0) (t := 22) (e := 3) rfl (by rw [h1]; rfl) Try.underlying22
          rw [h2, show Try.prog.bytesOf 3 = 8 from by kernel_rfl] at this
          simpa [reachBytes] using this
      obtain ⟨a1, rfl, rfl, rfl, w1⟩ := open_int Try.underlying3 (hval 1 3 v1 rfl rfl) h1
      obtain ⟨A2, n2, c2, g2, rfl, hn2, hc2, hs2, hw2, hl2, hd2⟩ := open_row Try.underlying22 Try.underlying3 (by kernel_rfl) (hval 2 22 v2 rfl rfl) h2
      have re2 : c2 * 8 ≤ 140737488351232 := by
        rcases hd2 with ⟨_, h0⟩ | ⟨xs, ys, h1, h2⟩
        · omega
        · have := sized_slice hsz (j := 2) (t := 22) (e := 3) rfl (by rw [h1]; rfl) Try.underlying22
          rw [h2, show Try.prog.bytesOf 3 = 8 from by kernel_rfl] at this
          simpa [reachBytes] using this
      obtain ⟨a3, rfl, rfl, rfl⟩ := open_bool Try.underlying4 (hval 3 4 v3 rfl rfl) h3
      obtain ⟨a4, rfl, rfl, rfl, w4⟩ := open_int Try.underlying3 (hval 4 3 v4 rfl rfl) h4
      exact walk W A0 n0 c0 g0 hn0 hc0 hs0 (fun j => bounds_i64 (hw0 j)) hl0 re0 a1 (bounds_i64 w1) A2 n2 c2 g2 hn2 hc2 hs2 (fun j => bounds_i64 (hw2 j)) hl2 re2 a3 a4 (bounds_i64 w4))

theorem proved : Rows.YardRoundsSaid :=
  OpenClaim.holds_of_wide 4 Try.f4 rfl rfl rfl rfl rfl rfl rfl ⟨rfl, rfl, rfl, rfl, rfl⟩ rfl rfl rfl rfl rfl (by kernel_rfl) Try.func4 (by kernel_rfl)
    (of_decide_eq_true (by kernel_rfl)) (by unfold Func.isWrapper; first | (rw [if_pos (by decide +kernel)]; kernel_rfl) | (rw [if_neg (by decide +kernel)]; exact ⟨rfl, rfl⟩))
    (fun os started H enc _ => lifted os started H enc)
end Go.Proofs.Ytnnilkdlpampdaa.yardRounds
