/- The laws' helper known. -/
import Derived.Test.YtdobcdhdeagekaaPolAll
import Derived.Test.YtdobcdhdeagekaaPolNew
import Derived.BigQuiet
import Derived.Deep.RegionHeld3
import Derived.Deep.Cut
namespace Go.Proofs.Ytdobcdhdeagekaa
set_option linter.unusedVariables false
set_option linter.unusedSimpArgs false
open Go.RowKit Go.ChangeShapes Go.WideShapes Go.ChangeAt

def kP0 : Pl := ⟨0, 1, 2, fun _ => zSp, ⟨1, zKy, ⟨1, 0⟩, ⟨2, 0⟩⟩⟩
def kE1 : En := ⟨1, 5, 3, 4, 1, zKy⟩
def kE2 : En := ⟨2, 5, 0, 0, 0, zKy⟩
def kG (j : Nat) : En := if j = 0 then kE1 else kE2
def kQ0 : Pl := ⟨2, 1, 2, setS (setS (fun _ => zSp) 5 ⟨1, 3, 4, 1, 0⟩) 5 ⟨2, 3, 4, 1, 0⟩, ⟨1, zKy, ⟨1, 0⟩, ⟨2, 0⟩⟩⟩
theorem kInv : Pinv kP0 0 := ⟨⟨by decide, by decide⟩, ⟨by decide, by decide⟩, fun i hi => (by show ((0:Int) ≤ 0 ∧ (0:Int) ≤ 0 + 1) ∧ (0:Int) ≤ 0 ∧ (0:Int) ≤ 4; decide)⟩
theorem kInvQ : Pinv kQ0 2 := by
  refine ⟨⟨by decide, by decide⟩, ⟨by decide, by decide⟩, fun i hi => ?_⟩
  unfold kQ0 setS
  simp only
  split
  · decide
  · decide
theorem kA1 : apR kP0 kE1 = (⟨1, 1, 2, setS (fun _ => zSp) 5 ⟨1, 3, 4, 1, 0⟩, ⟨1, zKy, ⟨1, 0⟩, ⟨2, 0⟩⟩⟩, 0) := rfl
theorem kA2 : apR ⟨1, 1, 2, setS (fun _ => zSp) 5 ⟨1, 3, 4, 1, 0⟩, ⟨1, zKy, ⟨1, 0⟩, ⟨2, 0⟩⟩⟩ kE2 = (kQ0, 0) := rfl
theorem kA : apR kQ0 ⟨5, 5, 0, 0, 0, zKy⟩ = (zPl, 12) := rfl
theorem kAll : AllOut kP0 kG 2 kQ0 2 0 := by
  refine ⟨?_, .inl ⟨rfl, rfl⟩⟩
  have h1 : runP kP0 kG 1 = some ⟨1, 1, 2, setS (fun _ => zSp) 5 ⟨1, 3, 4, 1, 0⟩, ⟨1, zKy, ⟨1, 0⟩, ⟨2, 0⟩⟩⟩ := by
    unfold runP runP
    show (if (apR kP0 kE1).2 = 0 then some (apR kP0 kE1).1 else none) = _
    rw [kA1]
    rfl
  show runP kP0 kG (1 + 1) = _
  unfold runP
  rw [h1]
  show (if (apR _ kE2).2 = 0 then some (apR _ kE2).1 else none) = _
  rw [kA2]
  rfl
theorem kF1 : fdV (findO kP0 3 4) = .tuple #[.int .i64 0, .bool false] := by
  have : findO kP0 3 4 = none := find_no (fun j _ => rfl)
  rw [this]
  rfl
theorem kF2 : fdV (findO kQ0 3 4) = .tuple #[.int .i64 5, .bool true] := by
  have : findO kQ0 3 4 = some 5 := find_yes 5 (by omega) (fun j hj => by
    unfold tkS kQ0 setS
    simp only
    rw [if_neg (by omega), if_neg (by omega)]
    rfl) rfl
  rw [this]
  rfl
theorem kSe (w : World) (b : Nat) (hb : w.heap.size = b) : Se (w.alloc (.cells #[.int .i64 1, .int .i64 5, .int .i64 3, .int .i64 4, .int .i64 1, .int .u64 0, .int .u64 0, .int .i64 2, .int .i64 5, .int .i64 0, .int .i64 0, .int .i64 0, .int .u64 0, .int .u64 0] 43)) (some ⟨b, 0, none⟩) 2 kG := by
  have C := Ce.made (w := w) (l := [.int .i64 1, .int .i64 5, .int .i64 3, .int .i64 4, .int .i64 1, .int .u64 0, .int .u64 0, .int .i64 2, .int .i64 5, .int .i64 0, .int .i64 0, .int .i64 0, .int .u64 0, .int .u64 0]) (T := 43) (g := b) hb
  refine Sl.mk C.1 (fun j hj => ?_)
  rw [Nat.zero_add]
  have h14 : j = 0 ∨ j = 1 ∨ j = 2 ∨ j = 3 ∨ j = 4 ∨ j = 5 ∨ j = 6 ∨ j = 7 ∨ j = 8 ∨ j = 9 ∨ j = 10 ∨ j = 11 ∨ j = 12 ∨ j = 13 := by omega
  rcases h14 with rfl | rfl | rfl | rfl | rfl | rfl | rfl | rfl | rfl | rfl | rfl | rfl | rfl | rfl <;> exact C.2.1 _ _ rfl
attribute [local irreducible] PA
set_option maxRecDepth 100000 in
set_option maxHeartbeats 4000000 in
theorem known_any (w : World) : Calls Try.prog 14 #[] w fun x w' => x = .returned (.bool true) ∧ Below w.heap.size w w' := by
  have hz : ∀ w : World, (zeroValue 34).run Try.prog w = .ok (.agg (PA zPl)) w := fun w => zero_pl w
  have hz1 := pa_size zPl
  have hz2 := pa_ne zPl
  obtain ⟨p0, hp0⟩ : ∃ p0 : Pl, p0 = kP0 := ⟨_, rfl⟩
  obtain ⟨q0, hq0⟩ : ∃ q0 : Pl, q0 = kQ0 := ⟨_, rfl⟩
  have NW := hid (show ∀ w, Calls Try.prog 16 #[.int .i64 1, .int .i64 2, .agg #[.int .u64 1, .int .u64 0], .agg #[.int .u64 2, .int .u64 0]] w fun x w' => x = .returned (.tuple #[.agg (PA p0), .int .i64 0]) ∧ Below w.heap.size w w' from by rw [hp0]; exact fun w => new_any 1 2 ⟨1, 0⟩ ⟨2, 0⟩ w)
  have F1 := hid (show ∀ w, Calls Try.prog 27 #[.agg (PA p0), .int .i64 3, .int .i64 4] w fun x w' => x = .returned (.tuple #[.int .i64 0, .bool false]) ∧ Below w.heap.size w w' from by rw [hp0]; exact fun w => (re_v (find_any kP0 kInv.st 3 4 w) kF1))
  have F2 := hid (show ∀ w, Calls Try.prog 27 #[.agg (PA q0), .int .i64 3, .int .i64 4] w fun x w' => x = .returned (.tuple #[.int .i64 5, .bool true]) ∧ Below w.heap.size w w' from by rw [hq0]; exact fun w => (re_v (find_any kQ0 kInvQ.st 3 4 w) kF2))
  have AP := hid (show ∀ w, Calls Try.prog 19 #[.agg (PA q0), .agg #[.int .i64 5, .int .i64 5, .int .i64 0, .int .i64 0, .int .i64 0, .int .u64 0, .int .u64 0]] w fun x w' => x = .returned (.tuple #[.agg (PA zPl), .int .i64 12]) ∧ Below w.heap.size w w' from by rw [hq0]; exact fun w => (re_v (apply_any kQ0 ⟨5, 5, 0, 0, 0, zKy⟩ (kInvQ.pb (by omega)) w) (by rw [kA]; rfl)))
  have T1 := hid (fun w => takes_any ⟨2, 3, 4, 1, 0⟩ w)
  have T2 := hid (fun w => takes_any zSp w)
  have AL := hid (show ∀ (A : Option Addr) (w : World), Se w A 2 kG → Calls Try.prog 25 #[.agg (PA p0), .slice A 2 2] w fun x w' => x = .returned (.tuple #[.agg (PA q0), .int .i64 2, .int .i64 0]) ∧ Below w.heap.size w w' from by rw [hp0, hq0]; exact fun A w h => (all_any kP0 kG A 2 2 w h (by omega) 0 kInv (by omega)).mono (fun x w' ⟨q, k, er, hx, ho, hb⟩ => by obtain ⟨a, b, c⟩ := ho.uniq kAll; subst a; subst b; subst c; exact ⟨hx, hb⟩))
  have c5 : q0.s 5 = ⟨2, 3, 4, 1, 0⟩ := by rw [hq0]; rfl
  have cv : q0.v = 2 := by rw [hq0]; rfl
  have ce : p0.r.e = 1 := by rw [hp0]; rfl
  replace c5 := hid c5
  replace cv := hid cv
  replace ce := hid ce
  clear hp0 hq0
  go_enter Try.func14, Try.ntmps14
  go_wp2_with fail
  refine (NW.out _).mono ?_
  rintro x w1 ⟨rfl, B1⟩
  replace B1 := B1
  have ST := hid ((PoolAt.made (w := w1) (p := zPl) (T := 34) rfl).storeA p0)
  have N1 := hid ((PoolAt.made (w := w1) (p := zPl) (T := 34) rfl).whole p0)
  have B1x := hid ((B1.alloc (B1.size) (.cells (PA zPl) 34)).trans (keeps_setCells w1.heap.size (PA p0).toList 0 _ w.heap.size B1.size))
  go_upto_region 2 with ((with_reducible refine wl_id ?_); refine wl_store rfl rfl rfl rfl ST.out ?_)
  clear ST B1
  generalize (w1.alloc (.cells (PA zPl) 34)).setCells w1.heap.size 0 (PA p0).toList = w2 at *
  generalize w1.heap.size = b1 at *
  replace B1x := B1x.out
  have LP := N1.out.loadA
  go_wp2_with ((with_reducible refine wl_id ?_); refine wl_load rfl rfl rfl LP ?_)
  refine (F1.out _).mono ?_
  rintro x w3 ⟨rfl, hb⟩
  clear LP
  replace N1 := hid (N1.out.below hb)
  replace B1x := B1x.trans (hb.mono B1x.size)
  clear hb
  go_upto_region 3 with (fail)
  have LP := N1.out.loadA
  go_wp2_with ((with_reducible refine wl_id ?_); refine wl_load rfl rfl rfl LP ?_)
  clear LP
  replace N1 := hid (N1.out.alloc (.cells #[.int .i64 1, .int .i64 5, .int .i64 3, .int .i64 4, .int .i64 1, .int .u64 0, .int .u64 0, .int .i64 2, .int .i64 5, .int .i64 0, .int .i64 0, .int .i64 0, .int .u64 0, .int .u64 0] 43))
  replace B1x := B1x.alloc B1x.size (.cells #[.int .i64 1, .int .i64 5, .int .i64 3, .int .i64 4, .int .i64 1, .int .u64 0, .int .u64 0, .int .i64 2, .int .i64 5, .int .i64 0, .int .i64 0, .int .i64 0, .int .u64 0, .int .u64 0] 43)
  have SE : Se (w3.alloc (.cells #[.int .i64 1, .int .i64 5, .int .i64 3, .int .i64 4, .int .i64 1, .int .u64 0, .int .u64 0, .int .i64 2, .int .i64 5, .int .i64 0, .int .i64 0, .int .i64 0, .int .u64 0, .int .u64 0] 43)) (some ⟨w3.heap.size, 0, none⟩) 2 kG := kSe _ _ rfl
  generalize w3.alloc (.cells #[.int .i64 1, .int .i64 5, .int .i64 3, .int .i64 4, .int .i64 1, .int .u64 0, .int .u64 0, .int .i64 2, .int .i64 5, .int .i64 0, .int .i64 0, .int .i64 0, .int .u64 0, .int .u64 0] 43) = w4 at *
  generalize w3.heap.size = b3 at *
  refine (AL.out _ _ SE).mono ?_
  rintro x w5 ⟨rfl, hb⟩
  clear SE
  replace N1 := hid (N1.out.below hb)
  replace B1x := B1x.trans (hb.mono B1x.size)
  clear hb
  have ST := hid ((PoolAt.made (w := w5) (p := zPl) (T := 34) rfl).storeA q0)
  have N5 := hid ((PoolAt.made (w := w5) (p := zPl) (T := 34) rfl).whole q0)
  have dN15 : w5.heap.size ≠ b1 := Nat.ne_of_gt N1.out.1
  replace N1 := hid ((N1.out.alloc (.cells (PA zPl) 34)).others (c := w5.heap.size) (o := 0) (vs := (PA q0).toList) dN15)
  have B5x := hid ((B1x.alloc (B1x.size) (.cells (PA zPl) 34)).trans (keeps_setCells w5.heap.size (PA q0).toList 0 _ w.heap.size B1x.size))
  go_upto_region 4 with ((with_reducible refine wl_id ?_); refine wl_store rfl rfl rfl rfl ST.out ?_)
  clear ST B1x
  generalize (w5.alloc (.cells (PA zPl) 34)).setCells w5.heap.size 0 (PA q0).toList = w6 at *
  generalize w5.heap.size = b5 at *
  replace B5x := B5x.out
  have LP := N5.out.loadA
  go_wp2_with ((with_reducible refine wl_id ?_); refine wl_load rfl rfl rfl LP ?_)
  refine (F2.out _).mono ?_
  rintro x w7 ⟨rfl, hb⟩
  clear LP
  replace N1 := hid (N1.out.below hb)
  replace N5 := hid (N5.out.below hb)
  replace B5x := B5x.trans (hb.mono B5x.size)
  clear hb
  go_upto_region 5 with (fail)
  have LP := N5.out.loadA
  go_wp2_with ((with_reducible refine wl_id ?_); refine wl_load rfl rfl rfl LP ?_)
  refine (AP.out _).mono ?_
  rintro x w8 ⟨rfl, hb⟩
  clear LP
  replace N1 := hid (N1.out.below hb)
  replace N5 := hid (N5.out.below hb)
  replace B5x := B5x.trans (hb.mono B5x.size)
  clear hb
  have ST := hid ((PoolAt.made (w := w8) (p := zPl) (T := 34) rfl).storeA zPl)
  have N8 := hid ((PoolAt.made (w := w8) (p := zPl) (T := 34) rfl).whole zPl)
  have dN18 : w8.heap.size ≠ b1 := Nat.ne_of_gt N1.out.1
  replace N1 := hid ((N1.out.alloc (.cells (PA zPl) 34)).others (c := w8.heap.size) (o := 0) (vs := (PA zPl).toList) dN18)
  have dN58 : w8.heap.size ≠ b5 := Nat.ne_of_gt N5.out.1
  replace N5 := hid ((N5.out.alloc (.cells (PA zPl) 34)).others (c := w8.heap.size) (o := 0) (vs := (PA zPl).toList) dN58)
  have B8x := hid ((B5x.alloc (B5x.size) (.cells (PA zPl) 34)).trans (keeps_setCells w8.heap.size (PA zPl).toList 0 _ w.heap.size B5x.size))
  go_upto_region 6 with ((with_reducible refine wl_id ?_); refine wl_store rfl rfl rfl rfl ST.out ?_)
  clear ST B5x N8
  generalize (w8.alloc (.cells (PA zPl) 34)).setCells w8.heap.size 0 (PA zPl).toList = w9 at *
  generalize w8.heap.size = b8 at *
  replace B8x := B8x.out
  have g1 : w9.cell? ⟨b1, 323, none⟩ = some (.int .i64 1) := by have := N1.out.cr 0 (by omega); rw [← ce.out]; exact this
  have g2 : w9.cell? ⟨b5, 0, none⟩ = some (.int .i64 2) := by have := N5.out.c0; rw [cv.out] at this; exact this
  have LK : (Instr.loadAt 26 (.pointer (some ⟨b5, 28, none⟩))).run Try.prog w9 = .ok (.agg #[.int .i64 2, .int .i64 3, .int .i64 4, .int .i64 1, .int .i64 0]) w9 := by have := N5.out.loadK 5 (by omega); rw [c5.out] at this; exact this
  go_wp2_with ((with_reducible refine wl_id ?_); refine wl_load rfl rfl rfl LK ?_)
  refine (T1.out _).mono ?_
  rintro x wa ⟨rfl, hb⟩
  clear LK g1 g2
  replace B8x := B8x.trans (hb.mono B8x.size)
  clear hb
  go_wp2_with fail
  refine (T2.out _).mono ?_
  rintro x wb ⟨rfl, hb⟩
  replace B8x := B8x.trans (hb.mono B8x.size)
  clear hb
  go_wp2_with fail
  go_ret
  exact ⟨rfl, B8x⟩
end Go.Proofs.Ytdobcdhdeagekaa
