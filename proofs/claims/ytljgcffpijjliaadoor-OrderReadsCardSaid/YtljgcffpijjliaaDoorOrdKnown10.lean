/- The chapter's example. -/
import Derived.Test.YtljgcffpijjliaaDoorOrdPa
import Derived.Test.YtljgcffpijjliaaDoorOrdTx
import Derived.Test.YtljgcffpijjliaaDoorOrdRot
import Derived.Test.YtljgcffpijjliaaDoorOrdMark
import Derived.Test.YtljgcffpijjliaaDoorOrdSame
import Derived.BigQuiet
import Derived.Deep.RegionHeld3
import Derived.Deep.Cut
namespace Go.Proofs.YtljgcffpijjliaaDoor
set_option linter.unusedVariables false
set_option linter.unusedSimpArgs false
open Go.RowKit Go.ChangeShapes Go.WideShapes Go.ChangeAt

def kp10 : Pl := ⟨0, 10, 80, fun _ => zSp, ⟨1, zKy, zKy, zKy⟩⟩
theorem kp_st : StI kp10 := fun i _ => (by show (0:Int) ≤ 0 ∧ (0:Int) ≤ 4; decide)
theorem kp_pb : PB kp10 := ⟨(by show (-1152921504606846976 : Int) ≤ 0 ∧ (0 : Int) ≤ 1152921504606846976; decide), (by show (-4611686018427387904 : Int) ≤ 1 ∧ (1 : Int) ≤ 4611686018427387904; decide), fun i _ => (by show (-1152921504606846976 : Int) ≤ 0 ∧ (0 : Int) ≤ 1152921504606846976; decide)⟩
theorem kp_find : findO kp10 3 4 = none := find_no (fun j _ => rfl)
theorem kp_held : heldB kp10 3 4 = false := by
  unfold heldB
  rw [any_no (f := atS kp10 3 4) (fun j _ => rfl)]
  rfl
theorem kp_free : freeO kp10 = some 0 := find_yes 0 (by omega) (fun j hj => absurd hj (by omega)) rfl
theorem kp_add : addR kp10 3 4 1 = ([⟨1, 0, 3, 4, 1, zKy⟩, ⟨2, 0, 0, 0, 0, zKy⟩], 0) := by
  unfold addR
  rw [if_neg (by decide), kp_held, kp_free]
  rfl
theorem kp_rem : remR kp10 3 4 = ([], 9) := by unfold remR; rw [kp_find]
theorem kp_gone (i : Nat) : goneS kp10 i = false := rfl
theorem kp_rotn (y : Ky) : ∀ n, rotL kp10 y n = [⟨6, 0, 0, 0, 0, y⟩]
  | 0 => rfl
  | n + 1 => by unfold rotL; rw [kp_gone, if_neg (by decide)]; exact kp_rotn y n
theorem kp_mrk : mrkL kp10 0 1 = [] := by unfold mrkL; rfl
attribute [local irreducible] PA
set_option maxRecDepth 100000 in
set_option maxHeartbeats 8000000 in
theorem known10_any (m : Int) (w : World) (hm : w.cell? ⟨1, 0, none⟩ = some (.int .i64 m)) : Calls Tryd.prog 14 #[] w fun x w' => x = .returned (.bool true) ∧ Below w.heap.size w w' := by
  have hz : ∀ w : World, (zeroValue 33).run Tryd.prog w = .ok (.agg (PA zPl)) w := fun w => zero_pl w
  have hz1 := pa_size zPl
  have hz2 := pa_ne zPl
  obtain ⟨p0, hp0⟩ : ∃ p0 : Pl, p0 = kp10 := ⟨_, rfl⟩
  have NW := hid (show ∀ w, Calls Tryd.prog 36 #[.int .i64 10, .int .i64 80, .agg #[.int .u64 0, .int .u64 0], .agg #[.int .u64 0, .int .u64 0]] w fun x w' => x = .returned (.tuple #[.agg (PA p0), .int .i64 0]) ∧ Below w.heap.size w w' from by rw [hp0]; exact fun w => rnew_any 10 80 zKy zKy w)
  have AD := hid (show ∀ w, Calls Tryd.prog 17 #[.agg (PA p0), .int .i64 3, .int .i64 4, .int .i64 1] w (Lst w [⟨1, 0, 3, 4, 1, zKy⟩, ⟨2, 0, 0, 0, 0, zKy⟩] 0) from fun w => by have := add_any p0 3 4 1 w; rw [hp0, kp_add] at this; rw [hp0]; exact this)
  have RM := hid (show ∀ w, Calls Tryd.prog 19 #[.agg (PA p0), .int .i64 3, .int .i64 4] w (Lst w [] 9) from fun w => by have := remove_any kp10 kp_st 3 4 w; rw [kp_rem] at this; rw [hp0]; exact this)
  have RO := hid (show ∀ w, Calls Tryd.prog 22 #[.agg (PA p0), .agg #[.int .u64 1, .int .u64 0]] w (Ls1 w [⟨6, 0, 0, 0, 0, ⟨1, 0⟩⟩]) from fun w => by have := rotate_any kp10 kp_pb ⟨1, 0⟩ w; rw [kp_rotn] at this; rw [hp0]; exact this)
  have MK := hid (show ∀ w, Calls Tryd.prog 25 #[.agg (PA p0), .int .i64 0, .int .i64 1] w (Ls1 w []) from fun w => by have := mark_any kp10 0 1 w; rw [kp_mrk] at this; rw [hp0]; exact this)
  clear hp0
  have HM := hid hm
  have hml := hid (World.block_lt_of_cell? _ _ hm)
  clear hm
  go_enter Tryd.func14, Tryd.ntmps14
  go_wp2_with fail
  refine (NW.out _).mono ?_
  rintro x w1 ⟨rfl, hb⟩
  have S1 := hid (SG.start hb)
  clear hb
  have ST := hid ((sg_new (w := w1) (T := 33)).storeA p0)
  have S2 := hid (SG.put S1.out (T := 33) zPl p0 (by simp))
  go_upto_region 2 with ((with_reducible refine wl_id ?_); refine wl_store rfl rfl rfl rfl ST.out ?_)
  clear ST S1
  generalize (w1.alloc (.cells (PA zPl) 33)).setCells w1.heap.size 0 (PA p0).toList = w2 at *
  generalize w1.heap.size = P at *
  have LP := (SG.get S2.out (b := P) (p := p0) (by simp)).loadA
  go_wp2_with ((with_reducible refine wl_id ?_); refine wl_load rfl rfl rfl LP ?_)
  clear LP
  refine (AD.out _).mono ?_
  rintro x w3 ⟨A1, d1, rfl, ho, hb⟩
  have S3 := hid (S2.out.below hb)
  obtain ⟨g1, rfl, _, hg1, hc1, _⟩ := Ow.block_ ho (by decide)
  have C7 := hid (show w3.cell? ⟨g1, 7, none⟩ = some (.int .i64 2) from hc1 7 (by decide))
  have G3 := hid hg1
  clear hb S2 ho hc1 hg1
  go_upto_region 3 with (fail)
  have LP := (SG.get S3.out (b := P) (p := p0) (by simp)).loadA
  go_wp2_with ((with_reducible refine wl_id ?_); refine wl_load rfl rfl rfl LP ?_)
  clear LP
  refine (RM.out _).mono ?_
  rintro x w4 ⟨A2, d2, rfl, _, hb⟩
  have S4 := hid (S3.out.below hb)
  have C8 := hid ((World.cell?_of_block (a := ⟨g1, 7, none⟩) (hb.block g1 G3.out)).trans C7.out)
  have G4 := hid (Nat.lt_of_lt_of_le G3.out hb.size)
  clear hb S3 C7 G3
  have M4 := hid ((World.cell?_of_block (a := ⟨1, 0, none⟩) (S4.out.bl.block _ hml.out)).trans HM.out)
  go_upto_region 4 with (fail)
  go_wp2_with fail
  refine (parse3 m _ M4.out).mono ?_
  rintro x w5 ⟨rfl, hb⟩
  have S5 := hid (S4.out.below hb)
  have C9 := hid ((World.cell?_of_block (a := ⟨g1, 7, none⟩) (hb.block g1 G4.out)).trans C8.out)
  have G5 := hid (Nat.lt_of_lt_of_le G4.out hb.size)
  clear hb S4 C8 G4 M4
  go_upto_region 5 with (fail)
  have S6 := hid (S5.out.alloc (.cells #[.int .i64 2, .int .i64 3, .int .i64 0, .int .i64 0, .int .i64 0, .int .u64 0, .int .u64 0] 56))
  have CE := hid (Ce.made (w := w5) (l := [.int .i64 2, .int .i64 3, .int .i64 0, .int .i64 0, .int .i64 0, .int .u64 0, .int .u64 0]) (T := 56) (g := w5.heap.size) rfl)
  simp only [List.toArray] at CE
  have c7 : (w5.alloc (.cells #[.int .i64 2, .int .i64 3, .int .i64 0, .int .i64 0, .int .i64 0, .int .u64 0, .int .u64 0] 56)).cell? ⟨g1, 7, none⟩ = some (.int .i64 2) := (World.cell?_of_block (a := ⟨g1, 7, none⟩) (((Below.refl w5.heap.size w5).alloc (Nat.le_refl _) _).block g1 G5.out)).trans C9.out
  clear S5 C9 G5
  generalize w5.alloc (.cells #[.int .i64 2, .int .i64 3, .int .i64 0, .int .i64 0, .int .i64 0, .int .u64 0, .int .u64 0] 56) = w6 at *
  generalize w5.heap.size = E at *
  go_wp2_with fail
  clear c7
  refine (text3 _).mono ?_
  rintro x w7 ⟨rfl, hb⟩
  have S7 := hid (S6.out.below hb)
  have CE7 := hid (CE.out.below hb)
  clear hb S6 CE
  have e1 := CE7.out.2.1 1 _ rfl
  have LP := (SG.get S7.out (b := P) (p := p0) (by simp)).loadA
  go_wp2_with ((with_reducible refine wl_id ?_); refine wl_load rfl rfl rfl LP ?_)
  clear LP e1
  refine (RO.out _).mono ?_
  rintro x w8 ⟨A3, d3, rfl, _, hb⟩
  have S8 := hid (S7.out.below hb)
  clear hb S7 CE7
  have LP := (SG.get S8.out (b := P) (p := p0) (by simp)).loadA
  go_wp2_with ((with_reducible refine wl_id ?_); refine wl_load rfl rfl rfl LP ?_)
  clear LP
  refine (MK.out _).mono ?_
  rintro x w9 ⟨A4, d4, rfl, _, hb⟩
  have S9 := hid (S8.out.below hb)
  clear hb S8
  go_wp2_with fail
  go_ret
  exact ⟨rfl, S9.out.bl⟩
end Go.Proofs.YtljgcffpijjliaaDoor
