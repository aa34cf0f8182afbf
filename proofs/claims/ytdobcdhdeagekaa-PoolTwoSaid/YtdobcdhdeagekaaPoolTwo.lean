/- roundhouselaw6.PoolTwo answers true for every row, any two numbers; no condition. -/
import Derived.Test.YtdobcdhdeagekaaPolMake
import Derived.BigQuiet
import Derived.Deep.RegionHeld3
import Derived.Deep.Cut
namespace Go.Proofs.Ytdobcdhdeagekaa.poolTwo
set_option linter.unusedVariables false
set_option linter.unusedSimpArgs false
open Go.RowKit Go.ChangeShapes Go.WideShapes Go.ChangeAt

/-- The least free slot among those from t + 1 on; -1 if there is none. -/
def LS (p : Pl) (t sv : Int) : Prop := (sv = -1 ∧ ∀ i : Nat, t < i → i < 64 → (p.s i).st ≠ 0) ∨ (0 ≤ sv ∧ sv < 64 ∧ t < sv ∧ (p.s sv.toNat).st = 0)
theorem LS_start (p : Pl) : LS p 63 (-1) := .inl ⟨rfl, fun i h1 h2 => by omega⟩
theorem LS_no {p : Pl} {j : Nat} {sv : Int} (h : LS p j sv) (hj : (p.s j).st ≠ 0) : LS p ((j : Int) - 1) sv := by
  rcases h with ⟨h1, h2⟩ | ⟨h1, h2, h3, h4⟩
  · refine .inl ⟨h1, fun i hi h64 => ?_⟩
    by_cases e : i = j
    · rw [e]; exact hj
    · exact h2 i (by omega) h64
  · exact .inr ⟨h1, h2, by omega, h4⟩
theorem LS_yes {p : Pl} {j : Nat} (hj : j < 64) (h : (p.s j).st = 0) : LS p ((j : Int) - 1) j := .inr ⟨by omega, by omega, by omega, by simpa using h⟩
def hAny (p : Pl) (u v : Int) (k : Nat) : Bool := (List.range k).any (atS p u v)
theorem hAny_succ (p : Pl) (u v : Int) (k : Nat) : hAny p u v (k + 1) = (hAny p u v k || atS p u v k) := by
  unfold hAny
  rw [List.range_succ, List.any_append]
  simp
theorem mkP_place (g : Nat → Int) : ∀ k : Nat, (mkP g k).a = 10 ∧ (mkP g k).p = 80
  | 0 => ⟨rfl, rfl⟩
  | k + 1 => by
    have ih := mkP_place g k
    unfold mkP
    split
    · rename_i h
      rw [(apR_ok h).2.2]
      unfold nxP
      cases ((enN (g k)).k == 6)
      · exact ih
      · exact ih
    · exact ih
theorem two_ap {p : Pl} {c : Nat} (hc : c < 64) (hst : (p.s c).st = 0) {u v : Int} (hu : 0 ≤ u ∧ u ≤ 4294967295) (hv : 0 ≤ v ∧ v ≤ 65535) : apR p ⟨1, (c : Int), u, v, 1, zKy⟩ = if heldB p u v = true then (zPl, 12) else (nxP p ⟨1, (c : Int), u, v, 1, zKy⟩, 0) := by
  have h1 : inR (c : Int) 0 63 = true := by unfold inR; simp; omega
  have h2 : inR u 0 4294967295 = true := by unfold inR; simp; omega
  have h3 : inR v 0 65535 = true := by unfold inR; simp; omega
  have hk : chk ⟨1, (c : Int), u, v, 1, zKy⟩ = 0 := by
    rw [chk_r]
    simp only [h1, h2, h3]
    rfl
  have hf : fitB p ⟨1, (c : Int), u, v, 1, zKy⟩ c = !(heldB p u v) := by
    unfold fitB
    simp only [hst]
    rfl
  unfold apR
  rw [if_pos hk]
  simp only [Int.toNat_natCast]
  unfold refE
  rw [hf]
  cases heldB p u v
  · rfl
  · rfl
attribute [local irreducible] PA
set_option maxRecDepth 100000 in
set_option maxHeartbeats 8000000 in
theorem walk (W : World) (A1 : Option Addr) (n1 c1 : Nat) (g1 : Nat → Int) (hn1 : n1 ≤ c1) (hc1 : c1 ≤ maxLen) (hr1 : Is W A1 n1 g1) (hg1 : IsI g1) (hl1 : ∀ ad, A1 = some ad → 0 < n1 → ad.block < W.heap.size) (re1 : c1 * 8 ≤ 140737488351232) (a0 : Int) (r_a0 : -9223372036854775808 ≤ a0 ∧ a0 ≤ 9223372036854775807) (b0 : Int) (r_b0 : -9223372036854775808 ≤ b0 ∧ b0 ≤ 9223372036854775807) :
    Calls Try.prog 9 #[.slice A1 n1 c1, .int .i64 a0, .int .i64 b0] W fun e w' => e = .returned (.bool true) ∧ Below W.heap.size W w' := by
  have hz : ∀ w : World, (zeroValue 34).run Try.prog w = .ok (.agg (PA zPl)) w := fun w => zero_pl w
  have hz1 := pa_size zPl
  have hz2 := pa_ne zPl
  obtain ⟨u, hu⟩ : ∃ x, x = wi a0 5 := ⟨_, rfl⟩
  have bu := wi_bd a0 5 (by omega)
  rw [← hu] at bu
  have Wu := hid (fun w => re_i64 (within_any a0 5 w (by omega) (by omega)) hu.symm)
  clear hu
  obtain ⟨bu1, bu2⟩ := bu
  obtain ⟨v, hv⟩ : ∃ x, x = wi b0 3 := ⟨_, rfl⟩
  have bv := wi_bd b0 3 (by omega)
  rw [← hv] at bv
  have Wv := hid (fun w => re_i64 (within_any b0 3 w (by omega) (by omega)) hv.symm)
  clear hv
  obtain ⟨bv1, bv2⟩ := bv
  unfold maxLen at hc1
  have hnm : (n1 : Int) ≤ 9223372036854775807 := by have := hn1; omega
  have HL := hid hl1
  clear hl1 re1
  obtain ⟨p, hp⟩ : ∃ p, p = mkP g1 (min n1 60) := ⟨_, rfl⟩
  have HQ := hid (show Pinv p 60 from by rw [hp]; exact (mkP_inv g1 _).mono (by omega))
  obtain ⟨pa, pp⟩ := mkP_place g1 (min n1 60)
  rw [← hp] at pa pp
  have MK := hid (fun (w : World) (h : Is w A1 n1 g1) (hl : ∀ ad, A1 = some ad → 0 < n1 → ad.block < w.heap.size) => (show Calls Try.prog 24 #[.slice A1 n1 c1, .int .i64 60] w fun x w' => x = .returned (.agg (PA p)) ∧ Below w.heap.size w w' from by rw [hp]; exact make_any w A1 n1 c1 g1 h hl hnm 60 (by omega)))
  have HPA := hid pa
  have HPP := hid pp
  clear hp pa pp
  go_enter Try.func9, Try.ntmps9
  go_wp2_with fail
  refine (known_any _).mono ?_
  rintro x w1 ⟨rfl, hB⟩
  have R1 := hid (hr1.below hB (Nat.le_refl _))
  have B1 := hid hB
  clear hr1 hB
  go_wp2_with fail
  refine (MK.out _ R1.out (fun ad e h => Nat.lt_of_lt_of_le (HL.out ad e h) B1.out.size)).mono ?_
  rintro x w2 ⟨rfl, hb⟩
  have B2 := hid (B1.out.trans (hb.mono B1.out.size))
  clear hb R1 B1 MK
  have ST := hid ((PoolAt.made (w := w2) (p := zPl) (T := 34) rfl).storeA p)
  have P3 := hid ((PoolAt.made (w := w2) (p := zPl) (T := 34) rfl).whole p)
  have B3 := hid ((B2.out.alloc B2.out.size (.cells (PA zPl) 34)).trans (keeps_setCells w2.heap.size (PA p).toList 0 _ W.heap.size B2.out.size))
  go_upto_region 4 with ((with_reducible refine wl_id ?_); refine wl_store rfl rfl rfl rfl ST.out ?_)
  clear ST B2
  generalize (w2.alloc (.cells (PA zPl) 34)).setCells w2.heap.size 0 (PA p).toList = w3 at *
  generalize w2.heap.size = P at *
  go_wp2_with fail
  refine (Wu.out _).mono ?_
  rintro x w' ⟨rfl, rfl⟩
  go_wp2_with fail
  refine (Wv.out _).mono ?_
  rintro x w' ⟨rfl, rfl⟩
  go_wp2_with fail
  go_loop [10, 11] (fun s i => ∃ (t sv : Int), -1 ≤ t ∧ t ≤ 63 ∧ s = .int .i64 sv ∧ i = .int .i64 t ∧ LS p t sv) (fun _ i => (intOf i + 1).toNat)
  case atStart => exact ⟨63, -1, by omega, by omega, rfl, rfl, LS_start p⟩
  case round =>
    obtain ⟨t, sv, t1, t2, rfl, rfl, hls⟩ := hrel
    have HLS := hid hls
    clear hls
    by_cases ht : 0 ≤ t
    · obtain ⟨j, rfl⟩ : ∃ j : Nat, t = j := ⟨t.toNat, by omega⟩
      have j64 : j < 64 := by omega
      have i1 : (j : Int) < 64 := by omega
      have cst : w3.cell? ⟨P, 3 + j * 5, none⟩ = some (.int .i64 (p.s j).st) := P3.out.cs j 0 j64 (by omega)
      cases b0 : ((p.s j).st == 0)
      · have HN := hid (LS_no HLS.out (by simpa using b0))
        go_wp2_with fail
        go_round
        case rel => exact ⟨(j : Int) - 1, sv, by omega, by omega, rfl, rfl, HN.out⟩
        case measure => simp [intOf]
      · have HN := hid (LS_yes (p := p) j64 (by simpa using b0))
        go_wp2_with fail
        go_round
        case rel => exact ⟨(j : Int) - 1, j, by omega, by omega, rfl, rfl, HN.out⟩
        case measure => simp [intOf]
    · have te : t = -1 := by omega
      subst te
      clear t1 t2 ht
      go_wp2_with fail
      go_loop [12, 13] (fun h i => ∃ k : Nat, k ≤ 64 ∧ i = .int .i64 (k : Int) ∧ h = .bool (hAny p u v k)) (fun _ i => 64 - (intOf i).toNat)
      case atStart => exact ⟨0, by omega, rfl, rfl⟩
      case round =>
        obtain ⟨k, hk, rfl, rfl⟩ := hrel
        by_cases hlt : k < 64
        · have i0 : (0 : Int) ≤ k := by omega
          have i1 : (k : Int) < 64 := by omega
          have cst : w3.cell? ⟨P, 3 + k * 5, none⟩ = some (.int .i64 (p.s k).st) := P3.out.cs k 0 hlt (by omega)
          have cad : w3.cell? ⟨P, 3 + k * 5 + 1, none⟩ = some (.int .i64 (p.s k).ad) := P3.out.cs k 1 hlt (by omega)
          have cpo : w3.cell? ⟨P, 3 + k * 5 + 2, none⟩ = some (.int .i64 (p.s k).po) := P3.out.cs k 2 hlt (by omega)
          have HS := hid (hAny_succ p u v k)
          have AT : Hid (atS p u v k = ((p.s k).st != 0 && (p.s k).ad == u && (p.s k).po == v)) := hid rfl
          generalize hAny p u v (k + 1) = h1 at *
          skip
          obtain ⟨h0, hh0⟩ : ∃ h0, h0 = hAny p u v k := ⟨_, rfl⟩
          rw [← hh0]
          have HS2 : Hid (hAny p u v (k + 1) = (h0 || atS p u v k)) := hid (by rw [hh0]; exact hAny_succ p u v k)
          clear hh0 HS
          cases h0
          · cases b1 : ((p.s k).st != 0) <;> cases b2 : ((p.s k).ad == u) <;> cases b3 : ((p.s k).po == v)
            all_goals
              have HF := HS2.out
              rw [AT.out, b1, b2, b3] at HF
              replace HF := hid HF
              clear HS2 AT
              go_wp2_with fail
              go_round
              case rel => exact ⟨k + 1, by omega, by go_num, by rw [HF.out]; rfl⟩
              case measure => simp [intOf]; omega
          · clear AT
            go_wp2_with fail
            go_round
            case rel => exact ⟨k + 1, by omega, by go_num, by rw [HS2.out]; rfl⟩
            case measure => simp [intOf]; omega
        · have e : k = 64 := by omega
          subst e
          have hls := HLS.out
          rcases hls with ⟨rfl, _⟩ | ⟨s1, s2, _, hst⟩
          · go_wp2_with fail
            go_ret
            exact ⟨rfl, B3.out⟩
          · obtain ⟨c, rfl⟩ : ∃ c : Nat, sv = c := ⟨sv.toNat, by omega⟩
            simp only [Int.toNat_natCast] at hst
            have c64 : c < 64 := by omega
            have A1' := two_ap (p := p) c64 hst (u := u) (v := v) ⟨by omega, by omega⟩ ⟨by omega, by omega⟩
            have hne : (p.a == u) = false := by rw [HPA.out]; simp; omega
            rw [show heldB p u v = hAny p u v 64 from by unfold heldB hAny; rw [hne]; rfl] at A1'
            have A2' := two_ap (p := p) c64 hst (u := 10) (v := 80) ⟨by omega, by omega⟩ ⟨by omega, by omega⟩
            rw [show heldB p 10 80 = true from by unfold heldB; rw [HPA.out, HPP.out]; rfl] at A2'
            have AP := hid (fun w => apply_any p ⟨1, (c : Int), u, v, 1, zKy⟩ (HQ.out.pb (by omega)) w)
            have AQ := hid (show ∀ w, Calls Try.prog 19 #[.agg (PA p), .agg #[.int .i64 1, .int .i64 (c : Int), .int .i64 10, .int .i64 80, .int .i64 1, .int .u64 0, .int .u64 0]] w fun x w' => x = .returned (.tuple #[.agg (PA zPl), .int .i64 12]) ∧ Below w.heap.size w w' from fun w => re_v (apply_any p ⟨1, (c : Int), 10, 80, 1, zKy⟩ (HQ.out.pb (by omega)) w) (by rw [A2']; rfl))
            clear hst A2' hne HLS
            generalize hAny p u v 64 = h at *
            have c1 := P3.out.c1
            have c2 := P3.out.c2
            rw [HPA.out] at c1
            rw [HPP.out] at c2
            have i1 : (c : Int) < 64 := by omega
            cases h
            · have AR := hid (show ∀ w, Calls Try.prog 19 #[.agg (PA p), .agg #[.int .i64 1, .int .i64 (c : Int), .int .i64 u, .int .i64 v, .int .i64 1, .int .u64 0, .int .u64 0]] w fun x w' => x = .returned (.tuple #[.agg (PA (nxP p ⟨1, (c : Int), u, v, 1, zKy⟩)), .int .i64 0]) ∧ Below w.heap.size w w' from fun w => re_v (AP.out w) (by rw [A1']; rfl))
              clear A1' AP
              obtain ⟨q2, hq2⟩ : ∃ q2, q2 = (nxP p ⟨1, (c : Int), u, v, 1, zKy⟩) := ⟨_, rfl⟩
              rw [← hq2] at AR
              have HQ2 := hid (show (q2.s c).st = 1 from by rw [hq2]; unfold nxP setS chS; simp)
              clear hq2
              have LP := P3.out.loadA
              go_wp2_with ((with_reducible refine wl_id ?_); refine wl_load rfl rfl rfl LP ?_)
              refine (AR.out _).mono ?_
              rintro x w4 ⟨rfl, hb⟩
              clear LP c1 c2
              have P4 := hid (P3.out.below hb)
              have B4 := hid (B3.out.trans (hb.mono B3.out.size))
              clear hb
              have ST := hid ((PoolAt.made (w := w4) (p := zPl) (T := 34) rfl).storeA q2)
              have N5 := hid ((PoolAt.made (w := w4) (p := zPl) (T := 34) rfl).whole q2)
              have dN : w4.heap.size ≠ P := Nat.ne_of_gt P4.out.1
              have P5 := hid ((P4.out.alloc (.cells (PA zPl) 34)).others (c := w4.heap.size) (o := 0) (vs := (PA q2).toList) dN)
              have B5 := hid ((B4.out.alloc B4.out.size (.cells (PA zPl) 34)).trans (keeps_setCells w4.heap.size (PA q2).toList 0 _ W.heap.size B4.out.size))
              go_upto_region 19 with ((with_reducible refine wl_id ?_); refine wl_store rfl rfl rfl rfl ST.out ?_)
              clear ST P4 B4
              generalize (w4.alloc (.cells (PA zPl) 34)).setCells w4.heap.size 0 (PA q2).toList = w5 at *
              generalize w4.heap.size = N at *
              have c1 := P5.out.c1
              have c2 := P5.out.c2
              rw [HPA.out] at c1
              rw [HPP.out] at c2
              have LP := P5.out.loadA
              go_wp2_with ((with_reducible refine wl_id ?_); refine wl_load rfl rfl rfl LP ?_)
              refine (AQ.out _).mono ?_
              rintro x w6 ⟨rfl, hb⟩
              clear LP c1 c2 AR AQ
              have N6 := hid (N5.out.below hb)
              have B6 := hid (B5.out.trans (hb.mono B5.out.size))
              clear hb N5 B5
              have ST := hid ((PoolAt.made (w := w6) (p := zPl) (T := 34) rfl).storeA zPl)
              have dM : w6.heap.size ≠ N := Nat.ne_of_gt N6.out.1
              have N7 := hid ((N6.out.alloc (.cells (PA zPl) 34)).others (c := w6.heap.size) (o := 0) (vs := (PA zPl).toList) dM)
              have B7 := hid ((B6.out.alloc B6.out.size (.cells (PA zPl) 34)).trans (keeps_setCells w6.heap.size (PA zPl).toList 0 _ W.heap.size B6.out.size))
              go_upto_region 20 with ((with_reducible refine wl_id ?_); refine wl_store rfl rfl rfl rfl ST.out ?_)
              clear ST N6 B6
              generalize (w6.alloc (.cells (PA zPl) 34)).setCells w6.heap.size 0 (PA zPl).toList = w7 at *
              have cq : w7.cell? ⟨N, 3 + c * 5, none⟩ = some (.int .i64 1) := by have h := N7.out.cs c 0 c64 (by omega); rw [← HQ2.out]; exact h
              go_wp2_with fail
              go_ret
              exact ⟨rfl, B7.out⟩
            · have AR := hid (show ∀ w, Calls Try.prog 19 #[.agg (PA p), .agg #[.int .i64 1, .int .i64 (c : Int), .int .i64 u, .int .i64 v, .int .i64 1, .int .u64 0, .int .u64 0]] w fun x w' => x = .returned (.tuple #[.agg (PA zPl), .int .i64 12]) ∧ Below w.heap.size w w' from fun w => re_v (AP.out w) (by rw [A1']; rfl))
              clear A1' AP
              obtain ⟨q2, hq2⟩ : ∃ q2, q2 = zPl := ⟨_, rfl⟩
              rw [← hq2] at AR
              clear hq2
              have LP := P3.out.loadA
              go_wp2_with ((with_reducible refine wl_id ?_); refine wl_load rfl rfl rfl LP ?_)
              refine (AR.out _).mono ?_
              rintro x w4 ⟨rfl, hb⟩
              clear LP c1 c2
              have P4 := hid (P3.out.below hb)
              have B4 := hid (B3.out.trans (hb.mono B3.out.size))
              clear hb
              have ST := hid ((PoolAt.made (w := w4) (p := zPl) (T := 34) rfl).storeA q2)
              have N5 := hid ((PoolAt.made (w := w4) (p := zPl) (T := 34) rfl).whole q2)
              have dN : w4.heap.size ≠ P := Nat.ne_of_gt P4.out.1
              have P5 := hid ((P4.out.alloc (.cells (PA zPl) 34)).others (c := w4.heap.size) (o := 0) (vs := (PA q2).toList) dN)
              have B5 := hid ((B4.out.alloc B4.out.size (.cells (PA zPl) 34)).trans (keeps_setCells w4.heap.size (PA q2).toList 0 _ W.heap.size B4.out.size))
              go_upto_region 19 with ((with_reducible refine wl_id ?_); refine wl_store rfl rfl rfl rfl ST.out ?_)
              clear ST P4 B4
              generalize (w4.alloc (.cells (PA zPl) 34)).setCells w4.heap.size 0 (PA q2).toList = w5 at *
              generalize w4.heap.size = N at *
              have c1 := P5.out.c1
              have c2 := P5.out.c2
              rw [HPA.out] at c1
              rw [HPP.out] at c2
              have LP := P5.out.loadA
              go_wp2_with ((with_reducible refine wl_id ?_); refine wl_load rfl rfl rfl LP ?_)
              refine (AQ.out _).mono ?_
              rintro x w6 ⟨rfl, hb⟩
              clear LP c1 c2 AR AQ
              have N6 := hid (N5.out.below hb)
              have B6 := hid (B5.out.trans (hb.mono B5.out.size))
              clear hb N5 B5
              have ST := hid ((PoolAt.made (w := w6) (p := zPl) (T := 34) rfl).storeA zPl)
              have dM : w6.heap.size ≠ N := Nat.ne_of_gt N6.out.1
              have N7 := hid ((N6.out.alloc (.cells (PA zPl) 34)).others (c := w6.heap.size) (o := 0) (vs := (PA zPl).toList) dM)
              have B7 := hid ((B6.out.alloc B6.out.size (.cells (PA zPl) 34)).trans (keeps_setCells w6.heap.size (PA zPl).toList 0 _ W.heap.size B6.out.size))
              go_upto_region 20 with ((with_reducible refine wl_id ?_); refine wl_store rfl rfl rfl rfl ST.out ?_)
              clear ST N6 B6
              generalize (w6.alloc (.cells (PA zPl) 34)).setCells w6.heap.size 0 (PA zPl).toList = w7 at *
              go_wp2_with fail
              go_ret
              exact ⟨rfl, B7.out⟩

set_option maxRecDepth 100000 in
theorem lifted (os : Os) (started : os.Started) (H : Type) (enc : TypeId × Value → H) :
    ReturnsInHanded {} Try.checked os 9 .any (Rows.poolTwoSpec.pre6 enc Try.prog Try.f9 [] false) (Rows.poolTwoSpec.post enc Try.prog Try.f9 false true false false) :=
  law_step (s := Rows.poolTwoSpec) started (by kernel_rfl) Try.func9
    (ChangeSpec.witness6 (s := Rows.poolTwoSpec) (enc := enc) (C := Try.checked) false ⟨#[], #[.slice none 0 0, .int .i64 0, .int .i64 0], []⟩ 8 (by kernel_rfl) (by kernel_rfl) (by kernel_rfl) (by kernel_rfl))
    rfl (by rw [Try.params9]; decide +kernel) rfl Try.underlying4
    (fun ds h => by
      rw [Try.params9] at h
      match ds, h with
      | [_, _, _], _ => rfl)
    (fun W base args ds ps hval hA hsz => by
      rw [Try.params9] at hA hval hsz
      obtain ⟨v0, vs0, d0, ds0, p0, q0, hargs, rfl, rfl, h0, r0⟩ := trodAll_cons hA
      obtain ⟨v1, vs1, d1, ds1, p1, q1, rfl, rfl, rfl, h1, r1⟩ := trodAll_cons r0
      obtain ⟨v2, vs2, d2, ds2, p2, q2, rfl, rfl, rfl, h2, r2⟩ := trodAll_cons r1
      obtain ⟨rfl, rfl, rfl⟩ := trodAll_nil r2
      obtain rfl : args = #[v0, v1, v2] := by cases args; simp_all
      obtain ⟨A0, n0, c0, g0, rfl, hn0, hc0, hs0, hw0, hl0, hd0⟩ := open_row Try.underlying22 Try.underlying3 (by kernel_rfl) (hval 0 22 v0 rfl rfl) h0
      have re0 : c0 * 8 ≤ 140737488351232 := by
        rcases hd0 with ⟨_, h0⟩ | ⟨xs, ys, h1, h2⟩
        · omega
        · have := sized_slice hsz (j := 0) (t := 22) (e := 3) rfl (by rw [h1]; rfl) Try.underlying22
          rw [h2, show Try.prog.bytesOf 3 = 8 from by kernel_rfl] at this
          simpa [reachBytes] using this
      obtain ⟨a1, rfl, rfl, rfl, w1⟩ := open_int Try.underlying3 (hval 1 3 v1 rfl rfl) h1
      obtain ⟨a2, rfl, rfl, rfl, w2⟩ := open_int Try.underlying3 (hval 2 3 v2 rfl rfl) h2
      exact walk W A0 n0 c0 g0 hn0 hc0 hs0 (fun j => bounds_i64 (hw0 j)) hl0 re0 a1 (bounds_i64 w1) a2 (bounds_i64 w2))

theorem proved : Rows.PoolTwoSaid :=
  OpenClaim.holds_of_wide 9 Try.f9 rfl rfl rfl rfl rfl rfl rfl ⟨rfl, rfl, rfl, rfl, rfl⟩ rfl rfl rfl rfl rfl (by kernel_rfl) Try.func9 (by kernel_rfl)
    (of_decide_eq_true (by kernel_rfl)) (by unfold Func.isWrapper; first | (rw [if_pos (by decide +kernel)]; kernel_rfl) | (rw [if_neg (by decide +kernel)]; exact ⟨rfl, rfl⟩))
    (fun os started H enc _ => lifted os started H enc)
end Go.Proofs.Ytdobcdhdeagekaa.poolTwo
