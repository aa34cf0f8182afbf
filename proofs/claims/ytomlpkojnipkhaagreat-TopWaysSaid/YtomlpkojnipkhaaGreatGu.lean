/- What the tops' known does. What the tops' laws share. -/
import Derived.Test.YtomlpkojnipkhaaGreatGa
import Derived.Test.YtomlpkojnipkhaaGreatGz
import Derived.Test.YtomlpkojnipkhaaGreatGwd
import Derived.Test.YtomlpkojnipkhaaGreatGsb
import Derived.Test.YtomlpkojnipkhaaGreatGr
import Derived.Test.YtomlpkojnipkhaaGreatGm
import Derived.BigQuiet
import Derived.Deep.RegionHeld3
import Derived.Deep.Cut
import Derived.IntWalk
import Derived.Test.YtomlpkojnipkhaaGreatPolMake
import Derived.Test.YtomlpkojnipkhaaGreatGx
import Derived.Test.YtomlpkojnipkhaaGreatGkb
namespace Go.Proofs.YtomlpkojnipkhaaGreat
set_option linter.unusedVariables false
set_option linter.unusedSimpArgs false
open Go.RowKit Go.ChangeShapes Go.WideShapes Go.ChangeAt
set_option maxRecDepth 100000
def tP : Pl := ⟨0, 10, 80, fun _ => zSp, ⟨1, zKy, ⟨1, 0⟩, ⟨2, 0⟩⟩⟩
def tX : Pk := { kind := 2, life := 9, src := 1, dst := 10, tp := 80 }
theorem tNew : nwR 10 80 ⟨1, 0⟩ ⟨2, 0⟩ = (tP, 0) := by unfold nwR mayBP; rw [show (inRP 10 0 4294967295 && inRP 80 0 65535) = true by decide]; rfl
theorem c0B : IsB (fun _ => (0 : Int)) := fun _ => ⟨(by decide : (0 : Int) ≤ 0), (by decide : (0 : Int) ≤ 255)⟩
theorem tE : buildE tX = 0 := by decide +kernel
theorem tL : lenP tX = 24 := by decide +kernel
theorem tB : IsB (builtF tX) := builtF_B c0B c0B tE
theorem tPE : parseE (builtF tX) 24 = 0 := by decide +kernel
theorem tPw : Pw tP := fun i hi => ⟨⟨by show (0 : Int) ≤ 0; decide, by show (0 : Int) ≤ 4294967295; decide⟩, ⟨by show (0 : Int) ≤ 0; decide, by show (0 : Int) ≤ 65535; decide⟩, fun h => absurd rfl h⟩
theorem tPt : Pt tP := ⟨tPw, ⟨by show (-4611686018427387904 : Int) ≤ 1; decide, by show (1 : Int) ≤ 4611686018427387904; decide⟩, fun i hi => ⟨by show (0 : Int) ≤ 0; decide, by show (0 : Int) ≤ 4; decide⟩, ⟨by show (0 : Int) ≤ 10; decide, by show (10 : Int) ≤ 4294967295; decide⟩, ⟨by show (0 : Int) ≤ 80; decide, by show (80 : Int) ≤ 65535; decide⟩⟩
theorem tWh : whlW tP = fun _ => -1 := by
  unfold whlW
  rw [if_pos (by decide +kernel)]
theorem tTake (nr : Nat → Option Int) : takeT tP true nr (builtF tX) 24 = dropT 9 nr := by
  have pe := built_parse (p := tX) c0B c0B tE ⟨fun h => absurd h (by decide), fun _ => ⟨rfl, rfl⟩, fun h => absurd rfl h, fun _ => rfl⟩
  rw [tL] at pe
  unfold takeT
  dsimp only
  generalize parseR (builtF tX) 24 = x at pe
  have e1 : x.kind = 2 := pe.kind
  have e2 : x.life = 9 := pe.life
  have e3 : x.piece = 0 := pe.piece
  have e4 : x.dst = 10 := pe.dst
  have e5 : x.tp = 80 := pe.tp
  have e6 : x.label = 0 := pe.label
  rw [if_neg (by simp), tPE, if_neg (by simp), e3, if_neg (by simp), e2, if_neg (by decide), e4, e1, if_neg (by intro h; exact absurd h.2 (by decide)), e5, if_pos ⟨rfl, rfl⟩]
  unfold inT
  have hs : slT tP x = -1 := by
    unfold slT byT carT
    rw [if_pos e1, if_pos e6, tWh]
    rfl
  rw [if_pos hs]
theorem t_new (w : World) : Calls Tryz.prog 47 #[.int .i64 10, .int .i64 80, .agg #[.int .u64 1, .int .u64 0], .agg #[.int .u64 2, .int .u64 0]] w fun x w' => x = .returned (.tuple #[.agg (FA 330 (pc tP)), .int .i64 0]) ∧ Below w.heap.size w w' := by
  have h := new_any 10 80 ⟨1, 0⟩ ⟨2, 0⟩ w
  rw [tNew] at h
  exact h
theorem t_build (w : World) : Calls Tryz.prog 12 #[.agg #[.int .i64 2, .int .i64 9, .int .i64 0, .int .i64 1, .int .i64 10, .int .i64 0, .int .i64 80, .int .i64 0, .int .i64 0, .bool false, .int .i64 0, .slice none 0 0, .slice none 0 0]] w fun e w' => ∃ A c, e = .returned (.tuple #[.slice A 24 c, .int .i64 0]) ∧ OB w' w.heap.size (.slice A 24 c) 24 (builtF tX) ∧ 24 ≤ c ∧ Below w.heap.size w w' := by
  have h := build_any tX none 0 none 0 w (fun h => absurd h (by decide)) (fun h => absurd h (by decide)) c0B c0B (by decide) (by decide)
  rw [tE, tL] at h
  exact h.mono fun e w' h => outd_ok h
theorem t_take (w : World) (pb sb wb : Nat) (X : Option Addr) (c : Nat) (hF : Fb w pb 130 (plf sb (fun _ => none))) (hne : pb ≠ sb ∧ pb ≠ wb) (hS : StAt w sb wb tP) (hB : By w X 24 (builtF tX)) (hc : 24 ≤ c) : Calls Tryz.prog 15 #[.pointer (some ⟨pb, 0, none⟩), .slice X 24 c] w fun e w' => (∃ X c, e = .returned (ocV 9 (-1) false (.slice X 0 c))) ∧ Ch [pb] w w' := by
  refine (take_any tP pb sb wb (fun _ => none) (builtF tX) 24 c X w tB (by decide) (fun _ => ?_) tPt (fun j v h => by cases h) hF hne hS hB hc).mono ?_
  · have : builtF tX 0 = 2 := by decide +kernel
    rw [this]; decide
  · rintro e w' ⟨X, c, he, _, _, _, hch⟩
    rw [tTake] at he
    exact ⟨⟨X, c, he⟩, hch⟩
theorem t_sum (w : World) : Calls Tryz.prog 48 #[.slice none 0 0] w fun e w' => e = .returned (.int .i64 65535) ∧ Below w.heap.size w w' := by
  refine (of_any none 0 0 (fun _ => 0) w (fun h => absurd h (by decide)) c0B (by decide)).mono ?_
  rintro e w' ⟨rfl, k, rfl⟩
  exact ⟨by rw [show (65535 - norm (tot (fun _ => 0) 0) : Int) = 65535 by decide], below_drewN (Below.refl _ _) k⟩
theorem t_words (w : World) : Calls Tryz.prog 49 #[.agg #[.int .u64 0, .int .u64 0], .slice none 0 0] w fun e w' => e = .returned (.int .u64 (sumW 0 0 (fun _ => 0) 0)) ∧ Below w.heap.size w w' :=
  words_any 0 0 none 0 0 (fun _ => 0) w (fun h => absurd h (by decide)) (fun j => ⟨by show (-9223372036854775808 : Int) ≤ 0; decide, by show (0 : Int) ≤ 9223372036854775807; decide⟩) (by decide)
theorem t_sip (w : World) : Calls Tryz.prog 50 #[.agg #[.int .u64 0, .int .u64 0], .slice none 0 0] w fun e w' => e = .returned (.int .u64 (sumW 0 0 (fun _ => 0) 0)) ∧ Below w.heap.size w w' := by
  rw [← sumB_words]
  exact of_anyK 0 0 none 0 0 (byteOf (fun _ => 0)) w (fun h => absurd h (by decide)) (byteOf_b _) (by decide) (by decide)
theorem zpl2 (w : World) : (zeroValue 33).run Tryz.prog w = .ok (.agg (FA 330 (pc zPl))) w := by kernel_rfl
attribute [local irreducible] FA FL
set_option maxHeartbeats 4000000 in
theorem known_t (w : World) : Calls Tryz.prog 9 #[] w fun e w' => e = .returned (.bool true) ∧ Below w.heap.size w w' := by
  have NEW := hid (fun (w : World) => (show Calls Tryz.prog 47 #[.int .i64 10, .int .i64 80, .agg #[.int .u64 1, .int .u64 0], .agg #[.int .u64 2, .int .u64 0]] w fun x w' => x = .returned (.tuple #[.agg (FA 330 (pc tP)), .int .i64 0]) ∧ Below w.heap.size w w' from t_new w))
  have BLD := hid (fun (w : World) => t_build w)
  have TKE := hid (fun (w : World) pb sb wb X c (hF : Fb w pb 130 (plf sb (fun _ => none))) (hne : pb ≠ sb ∧ pb ≠ wb) (hS : StAt w sb wb tP) (hB : By w X 24 (builtF tX)) (hc : 24 ≤ c) => t_take w pb sb wb X c hF hne hS hB hc)
  have SUM := hid (fun (w : World) => t_sum w)
  have SPW := hid (fun (w : World) => t_words w)
  have SPO := hid (fun (w : World) => t_sip w)
  have S0 : Hid (HS [] w w []) := hid HS.start
  go_enter Tryz.func9, Tryz.ntmps9
  go_wp2_with fail
  refine (NEW.out _).mono ?_
  rintro e w1 ⟨rfl, hb⟩
  have S1 := hid (S0.out.below hb)
  clear hb
  go_simp
  go_upto_region 2 with (first | ((with_reducible refine wl_id ?_); refine wl_ow rfl (ow_alloc rfl (zpl2 _) (by omega) S1.out ?_); intro U w_ hZ _; have SA := hid hZ; clear hZ) | ((with_reducible refine wl_id ?_); refine wl_ow rfl (ow_store (A := []) 0 330 (pc tP) (pc tP) rfl rfl rfl SA.out (by omega) (fun j hj => patch_all _ _ _ j hj) info_pl2 (pc_one _) ?_); intro w_ hZ; have S3 := hid hZ; clear hZ))
  go_wp2_with fail
  refine (plane_new S3.out).mono ?_
  rintro e w4 ⟨pb, rfl, hz⟩
  have S4 := hid hz
  clear hz S0 S1 S3
  go_simp
  go_upto_region 5 with (fail)
  go_wp2_with ((with_reducible refine wl_id ?_); refine wl_ow rfl (ow_load 1 rfl 0 330 (pc tP) rfl rfl S4.out (by omega) (fun j hj => by rw [Nat.zero_add]) Tryz.underlying33 rfl info_pl2 ?_))
  refine (load_any (w := w4) (nr := fun _ => none) (S4.out.fb 0 rfl) tP tPw).mono ?_
  rintro e w5 ⟨rfl, sb, wb, hF, hS, hne, hch, _, _⟩
  have B5 := hid (S4.out.bl.trans (hch.below (B := w.heap.size) (fun k hk => by simp at hk; subst hk; rcases S4.out.2.2.2 k (by simp [thB]) with h | h; cases h; exact h) S4.out.wsize))
  have HPB : Hid (w.heap.size ≤ pb) := hid (by rcases S4.out.2.2.2 pb (by simp [thB]) with h | h; cases h; exact h)
  have HF := hid hF
  have HS2 := hid hS
  have HNE := hid hne
  clear hF hS hch hne S4
  go_simp
  go_wp2_with fail
  refine (BLD.out _).mono ?_
  rintro e w6 ⟨A, c, rfl, hO, hc, hb⟩
  have B6 := hid (B5.out.trans (hb.mono B5.out.size))
  have HF6 := hid (HF.out.below hb)
  have HS6 := hid (HS2.out.below hb)
  have HO := hid hO.sl1
  have HC := hid hc
  clear hb hO hc HF HS2 B5
  go_simp
  go_wp2_with fail
  refine (TKE.out _ pb sb wb A c HF6.out HNE.out HS6.out HO.out HC.out).mono ?_
  rintro e w7 ⟨⟨X, c, rfl⟩, hch⟩
  have B7 := hid (B6.out.trans (hch.below (B := w.heap.size) (fun k hk => by simp at hk; subst hk; exact HPB.out) B6.out.size))
  have S7 : Hid (HS [] w7 w7 []) := hid HS.start
  clear hch HF6 HS6 HO HC B6
  unfold ocV
  go_simp
  go_upto_region 8 with (first | ((with_reducible refine wl_id ?_); refine wl_ow rfl (ow_allocC rfl (zOc _) (by simp) S7.out ?_); intro V w_ hZ _; have S8 := hid hZ; clear hZ) | ((with_reducible refine wl_id ?_); refine wl_ow rfl (ow_storeC (A := []) [.int .i64 9, .int .i64 (-1), .bool false, .slice X 0 c] rfl rfl (rfl) S8.out rfl iOc rfl ?_); intro w_ hZ; have S9 := hid hZ; clear hZ))
  obtain ⟨f0, f1, f2, f3⟩ := (S9.out.ce 0 rfl).c4
  go_wp2_with fail
  refine (SUM.out _).mono ?_
  rintro e w10 ⟨rfl, hb⟩
  have S10 := hid (S9.out.below hb)
  clear hb S7 S8 S9 f0 f1 f2 f3
  go_simp
  go_wp2_with fail
  refine (SPW.out _).mono ?_
  rintro e w11 ⟨rfl, hb⟩
  have S11 := hid (S10.out.below hb)
  clear hb S10
  go_simp
  go_wp2_with fail
  refine (SPO.out _).mono ?_
  rintro e w12 ⟨rfl, hb⟩
  have S12 := hid (S11.out.below hb)
  clear hb S11
  go_simp
  go_wp2_with fail
  go_ret
  exact ⟨by simp, B7.out.trans (S12.out.bl.mono B7.out.size)⟩
end Go.Proofs.YtomlpkojnipkhaaGreat
namespace Go.Proofs.YtomlpkojnipkhaaGreat
set_option linter.unusedVariables false
set_option linter.unusedSimpArgs false
open Go.RowKit Go.ChangeShapes Go.WideShapes Go.ChangeAt
set_option maxRecDepth 100000
theorem mk_top (W : World) (A1 : Option Addr) (n1 c1 : Nat) (g1 : Nat → Int) (hr1 : Is W A1 n1 g1) (hl1 : ∀ ad, A1 = some ad → 0 < n1 → ad.block < W.heap.size) (hn1 : n1 ≤ c1) (hc1 : c1 ≤ maxLen) (m : Nat) (hm : m ≤ 1000) (w : World) (hb : Below W.heap.size W w) :
    Calls Tryz.prog 10 #[.slice A1 n1 c1, .int .i64 (m : Int)] w fun x w' => x = .returned (.agg (FA 330 (pc (mkP g1 (min n1 m))))) ∧ Below w.heap.size w w' :=
  make_anyP w A1 n1 c1 g1 (Sl.below hr1 hb (Nat.le_refl _)) (fun ad e h => Nat.lt_of_lt_of_le (hl1 ad e h) hb.size) (by have := hn1; unfold maxLen at hc1; omega) m hm
theorem pool_fb {w : World} {b : Nat} {p : Pl} (h : Fb w b 330 (pc p)) : PoolAt w b p := h
end Go.Proofs.YtomlpkojnipkhaaGreat

