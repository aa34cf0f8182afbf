/- The reference's planes, units in memory. The reference's planes: New, Version, Load. The reference's unit takes a note. The reference's head hears. -/
import Derived.Test.YteefhiniamajkaaGreatGy
import Derived.BigQuiet
import Derived.Deep.RegionHeld3
import Derived.Deep.Cut
import Derived.IntWalk
import Derived.Test.YteefhiniamajkaaGreatWhlRmake
import Derived.Test.YteefhiniamajkaaGreatHdRef
import Derived.Test.YteefhiniamajkaaGreatPlA
namespace Go.Proofs.YteefhiniamajkaaGreat
set_option linter.unusedVariables false
set_option linter.unusedSimpArgs false
open Go.RowKit Go.ChangeShapes Go.WideShapes Go.ChangeAt
/-- The cells of the reference's plane, to which no packet came. -/
def rpc (up : Bool) (p : Pl) (v : Value) (j : Nat) : Value := if j = 0 then .bool up else if j < 331 then pc p (j - 1) else if j = 331 then v else if j < 396 then .bool false else .int .u32 0
/-- Of its unit. -/
def urc (pb : Nat) (p : Pl) (b : Int) (j : Nat) : Value := if j = 0 then .pointer (some ⟨pb, 0, none⟩) else if j < 331 then pc p (j - 1) else .int .i64 b
theorem build_rp (w : World) : (Instr.build 123 #[]).run Tryz.prog w = .ok (.agg (FA 460 (rpc false zPl (.slice none 0 0)))) w := run_build w _ _ _ (by kernel_rfl)
theorem info_rp : (Tryz.prog.info? 123).map (·.size) = some 460 := by kernel_rfl
theorem info_ru : (Tryz.prog.info? 85).map (·.size) = some 332 := by kernel_rfl
theorem rp_up (up x : Bool) (p : Pl) (v : Value) (j : Nat) (hj : j < 460) : patch (rpc up p v) 0 1 (fun _ => .bool x) j = rpc x p v j := by
  unfold patch rpc
  by_cases h : j = 0
  · rw [if_pos (by omega), if_pos h]
  · rw [if_neg (by omega), if_neg h, if_neg h]
theorem rp_p (up : Bool) (p q : Pl) (v : Value) (j : Nat) (hj : j < 460) : patch (rpc up p v) 1 330 (pc q) j = rpc up q v j := by
  unfold patch rpc
  by_cases h : j = 0
  · rw [if_neg (by omega), if_pos h, if_pos h]
  · by_cases h1 : j < 331
    · rw [if_pos (by omega), if_neg h, if_pos h1]
    · rw [if_neg (by omega), if_neg h, if_neg h, if_neg h1, if_neg h1]
theorem rp_w (up : Bool) (p : Pl) (v x : Value) (j : Nat) (hj : j < 460) : patch (rpc up p v) 331 1 (fun _ => x) j = rpc up p x j := by
  unfold patch rpc
  by_cases h : j = 331
  · rw [if_pos (by omega), if_neg (by omega), if_neg (by omega), if_pos h]
  · rw [if_neg (by omega)]
    by_cases h0 : j = 0
    · rw [if_pos h0, if_pos h0]
    · rw [if_neg h0, if_neg h0]
      by_cases h1 : j < 331
      · rw [if_pos h1, if_pos h1]
      · rw [if_neg h1, if_neg h1, if_neg h, if_neg h]
theorem ru_p (pb : Nat) (p q : Pl) (b : Int) (j : Nat) (hj : j < 332) : patch (urc pb p b) 1 330 (pc q) j = urc pb q b j := by
  unfold patch urc
  by_cases h : j = 0
  · rw [if_neg (by omega), if_pos h, if_pos h]
  · by_cases h1 : j < 331
    · rw [if_pos (by omega), if_neg h, if_pos h1]
    · rw [if_neg (by omega), if_neg h, if_neg h, if_neg h1, if_neg h1]
end Go.Proofs.YteefhiniamajkaaGreat
namespace Go.Proofs.YteefhiniamajkaaGreat
set_option linter.unusedVariables false
set_option linter.unusedSimpArgs false
open Go.RowKit Go.ChangeShapes Go.WideShapes Go.ChangeAt
set_option maxRecDepth 100000
theorem rmake_fa (p : Pl) (hp : Pw p) (w : World) : Calls Tryz.prog 73 #[.agg (FA 330 (_root_.Go.Proofs.YteefhiniamajkaaGreat.pc p))] w fun x w' => ∃ B : Nat, x = .returned (.slice (some ⟨B, 0, none⟩) 127 127) ∧ w.heap.size ≤ B ∧ IA w' B 127 (whlW p) ∧ Below w.heap.size w w' := rmake7_any p hp w
theorem HS.set1v {S : List Nat} {W w : World} {A B : List Th} {b n : Nat} {f : Nat → Value} (h : HS S W w (A ++ thB b n f :: B)) (o : Nat) (v : Value) (ho : o + 1 ≤ n) (f' : Nat → Value) (hf : ∀ j, j < n → patch f o 1 (fun _ => v) j = f' j) : HS S W (w.setCell ⟨b, o, none⟩ v) (A ++ thB b n f' :: B) := h.set o 1 (fun _ => v) ho f' hf
attribute [local irreducible] FA FL
theorem rp_new {S : List Nat} {W w : World} {L : List Th} (hS : HS S W w L) : Calls Tryz.prog 29 #[] w fun x w' => ∃ pb : Nat, x = .returned (.pointer (some ⟨pb, 0, none⟩)) ∧ HS S W w' (thB pb 460 (rpc false zPl (.slice none 0 0)) :: L) := by
  have S0 := hid hS
  clear hS
  go_enter Tryz.func29, Tryz.ntmps29
  go_upto_region 1 with (fail)
  apply wp_region_lit
  refine wl_val (v := .agg (FA 460 (rpc false zPl (.slice none 0 0)))) rfl (by unfold execOp; simp only [List.map_toArray, List.map_nil, Sem.run_bind, build_rp, Result.andThen_ok, Sem.run_pure]) ?_
  try simp only [Act.put, List.setIfInBounds_toArray, List.set_cons_zero, List.set_cons_succ]
  refine wl_ow rfl (ow_box rfl rfl (by omega) S0.out (fun pb w2 hZ hb => ?_))
  have S1 := hid hZ
  clear hZ hb S0
  try simp only [Act.put, List.setIfInBounds_toArray, List.set_cons_zero, List.set_cons_succ]
  go_wp2_with fail
  go_ret
  exact ⟨pb, rfl, S1.out⟩
theorem rp_ver {w : World} {pb : Nat} {up : Bool} {p : Pl} {v : Value} (hF : Fb w pb 460 (rpc up p v)) : Calls Tryz.prog 59 #[.pointer (some ⟨pb, 0, none⟩)] w fun x w' => x = .returned (.tuple #[.int .i64 (if up = true then p.v else 0), .bool up]) ∧ Below w.heap.size w w' := by
  have c0 : w.cell? ⟨pb, 0, none⟩ = some (.bool up) := hF.2.1 0 (by omega)
  have c1 : w.cell? ⟨pb, 1, none⟩ = some (.int .i64 p.v) := hF.2.1 1 (by omega)
  clear hF
  cases up
  · go_enter Tryz.func59, Tryz.ntmps59
    go_wp2_with fail
    go_ret2
    first | exact ⟨rfl, Below.refl _ _⟩ | exact ⟨rfl, below_drew _⟩ | exact ⟨rfl, (Below.refl _ _).alloc (Nat.le_refl _) _⟩
  · go_enter Tryz.func59, Tryz.ntmps59
    go_wp2_with fail
    go_ret2
    first | exact ⟨rfl, Below.refl _ _⟩ | exact ⟨rfl, below_drew _⟩ | exact ⟨rfl, (Below.refl _ _).alloc (Nat.le_refl _) _⟩
set_option maxHeartbeats 4000000 in
theorem rp_load {w : World} {pb : Nat} {up : Bool} {p q : Pl} {v : Value} (hF : Fb w pb 460 (rpc up q v)) (hp : Pw p) : Calls Tryz.prog 60 #[.pointer (some ⟨pb, 0, none⟩), .agg (FA 330 (pc p))] w fun x w' => x = .returned (.tuple #[]) ∧ ∃ v', Fb w' pb 460 (rpc true p v') ∧ Ch [pb] w w' := by
  have HPW := hid hp
  have S0 := hid ((HS.start1 (S := [pb]) (thB pb 460 (rpc up q v)) hF (by simp [thB]) (fun _ h => h)))
  clear hF hp
  go_enter Tryz.func60, Tryz.ntmps60
  go_upto_region 1 with ((with_reducible refine wl_id ?_); refine wl_ow rfl (ow_box rfl rfl (by omega) S0.out (fun Q w2 hZ hb => ?_)); have S1 := hid hZ; clear hZ hb)
  refine wp_region_held_drew (S := fun (w' : World) => ∃ u' q' v', HS [pb] w w' [thB Q 330 (pc p), thB pb 460 (rpc u' q' v')]) (by kernel_rfl) ?_ (fun hHeld => ?_)
  · exact ⟨_, _, _, S1.out.drew⟩
  refine tkq 0 hHeld ?_
  refine tkq 1 hHeld ?_
  refine tkq 2 hHeld ?_
  refine tk 3 (v := .agg (FA 330 (pc p))) rfl (by kernel_rfl) (by kernel_rfl) (by kernel_rfl) (fun _ _ _ h => h) rfl (fun w hSw => by obtain ⟨_, _, _, hSw⟩ := hSw; exact ex_load rfl rfl ((hSw.fb 0 rfl).load 0 330 (pc p) (by omega) (fun j hj => by rw [Nat.zero_add]) Tryz.underlying33 rfl info_pl)) hHeld ?_; (try simp only [Act.put, List.setIfInBounds_toArray, List.set_cons_zero, List.set_cons_succ])
  refine tk 4 (v := .agg (FA 330 (pc p))) rfl (by kernel_rfl) (by kernel_rfl) (by kernel_rfl) (fun _ _ _ h => h) rfl (fun w hSw => by obtain ⟨_, _, _, hSw⟩ := hSw; exact ex_load rfl rfl ((hSw.fb 0 rfl).load 0 330 (pc p) (by omega) (fun j hj => by rw [Nat.zero_add]) Tryz.underlying33 rfl info_pl)) hHeld ?_; (try simp only [Act.put, List.setIfInBounds_toArray, List.set_cons_zero, List.set_cons_succ])
  refine only 5 rfl (by kernel_rfl) rfl (fun K hK => ?_)
  go_simp
  refine (rmake_fa p HPW.out _).mono ?_
  rintro e w3 ⟨B, rfl, _, _, hb⟩
  try go_wp2_with fail
  obtain ⟨u', q', v', hh⟩ := hHeld
  refine hK.out _ _ ⟨_, _, _, hh.below hb⟩ (fun h5 => ?_)
  clear hK hh hb
  try simp only [Act.put, List.setIfInBounds_toArray, List.set_cons_zero, List.set_cons_succ]
  refine tkq 6 h5 ?_
  refine tkq 7 h5 ?_
  obtain ⟨u', q', v', h5⟩ := h5
  refine only 8 rfl (by kernel_rfl) rfl (fun K hK => ?_)
  refine ow_store1 (A := [thB Q 330 (pc p)]) 0 (.bool true) (rpc true q' v') rfl rfl rfl (by kernel_rfl) h5 (by omega) (fun j hj => rp_up _ _ _ _ j hj) (fun w4 hZ => ?_)
  refine hK.out _ _ ⟨_, _, _, hZ⟩ (fun _ => more (fun w' => ∃ q' v', HS [pb] w w' [thB Q 330 (pc p), thB pb 460 (rpc true q' v')]) (fun _ h => ⟨_, h⟩) ⟨_, _, hZ⟩ (fun h6 => ?_))
  clear hK h5
  try simp only [Act.put, List.setIfInBounds_toArray, List.set_cons_zero, List.set_cons_succ]
  refine tkq 9 h6 ?_
  refine tkq 10 h6 ?_
  refine only 11 rfl (by kernel_rfl) rfl (fun K hK => ?_)
  refine ow_store (A := [thB Q 330 (pc p)]) 1 330 (pc p) (rpc true p v') rfl rfl rfl hZ (by omega) (fun j hj => rp_p _ _ _ _ j hj) info_pl (pc_one _) (fun w5 hY => ?_)
  refine hK.out _ _ ⟨_, _, hY⟩ (fun _ => more (fun w' => ∃ v', HS [pb] w w' [thB Q 330 (pc p), thB pb 460 (rpc true p v')]) (fun _ h => ⟨_, h⟩) ⟨_, hY⟩ (fun h7 => ?_))
  clear hK hZ h6
  try simp only [Act.put, List.setIfInBounds_toArray, List.set_cons_zero, List.set_cons_succ]
  refine tkq 12 h7 ?_
  refine tkq 13 h7 ?_
  refine only 14 rfl (by kernel_rfl) rfl (fun K hK => ?_)
  have c331 : w5.cell? ⟨pb, 331, none⟩ = some v' := (hY.fb 1 rfl).2.1 331 (by omega)
  have z331 := (hY.fb 1 rfl).2.2 331
  refine ov_store rfl rfl rfl (w' := w5.setCell ⟨pb, 331, none⟩ (.slice (some ⟨B, 0, none⟩) 127 127)) (by go_simp) ?_
  have hX := HS.set1v (A := [thB Q 330 (pc p)]) hY 331 (.slice (some ⟨B, 0, none⟩) 127 127) (by omega) (rpc true p (.slice (some ⟨B, 0, none⟩) 127 127)) (fun j hj => rp_w _ _ _ _ j hj)
  refine hK.out _ _ ⟨_, hX⟩ (fun _ => ?_)
  clear hK hY h7 c331 z331
  try simp only [Act.put, List.setIfInBounds_toArray, List.set_cons_zero, List.set_cons_succ]
  refine wpAnyH_done (by kernel_rfl) ?_ _
  go_wp2_with fail
  go_end0
  exact ⟨rfl, _, hX.fb 1 rfl, hX.2.1⟩
end Go.Proofs.YteefhiniamajkaaGreat
namespace Go.Proofs.YteefhiniamajkaaGreat
set_option linter.unusedVariables false
set_option linter.unusedSimpArgs false
open Go.RowKit Go.ChangeShapes Go.WideShapes Go.ChangeAt
theorem znt2 (w : World) : (zeroValue 88).run Tryz.prog w = .ok (.agg (FA 342 (ntc zNt))) w := by kernel_rfl
theorem info_nt2 : (Tryz.prog.info? 88).map (·.size) = some 342 := by kernel_rfl
theorem rapply_fb (p : Pl) (e : En) (hp : PB p) (w : World) : Calls Tryz.prog 25 #[.agg (FA 330 (_root_.Go.Proofs.YteefhiniamajkaaGreat.pc p)), .agg #[.int .i64 e.k, .int .i64 e.s, .int .i64 e.a, .int .i64 e.p, .int .i64 e.w, .int .u64 e.y.a, .int .u64 e.y.b]] w fun x w' => x = .returned (.tuple #[.agg (FA 330 (_root_.Go.Proofs.YteefhiniamajkaaGreat.pc (apR p e).1)), .int .i64 (apR p e).2]) ∧ Below w.heap.size w w' := rapply_any p e hp w
theorem ur_pl (pb : Nat) (p : Pl) (b : Int) (j : Nat) (hj : j < 330) : urc pb p b (1 + j) = pc p j := by
  unfold urc
  rw [if_neg (by omega), if_pos (by omega), show 1 + j - 1 = j by omega]
theorem build_ack2 (u b v : Int) (w : World) : (Instr.build 88 #[(0, .int .i64 u), (1, .int .i64 b), (2, .int .i64 v), (4, .bool true)]).run Tryz.prog w = .ok (.agg (FA 342 (ntc ⟨u, b, v, false, true, zEn, zPl⟩))) w := run_build w _ _ _ (by kernel_rfl)
theorem nt_pl (n : Nt) (j : Nat) (hj : j < 330) : ntc n (12 + j) = pc n.p j := by
  unfold ntc
  rw [if_neg (by omega), show 12 + j - 12 = j by omega]
attribute [local irreducible] FA FL
set_option maxRecDepth 100000 in
set_option maxHeartbeats 8000000 in
theorem ru_come {S : List Nat} {W w : World} {B : List Th} {ub pb : Nat} {u : Uy} {v : Value} (hS : HS S W w (thB ub 332 (urc pb (u.p) (u.b)) :: thB pb 460 (rpc u.up (u.p) v) :: B)) (n : Nt) (hp : PB u.p) (hw : (readU n u).up = true → Pw (readU n u).p) (hv : u.up = true → 0 ≤ u.p.v ∧ u.p.v ≤ 100000) (hn : n.b = u.b → n.wh = true → n.p.v = n.v ∧ 0 ≤ n.v) :
    Calls Tryz.prog 36 #[.pointer (some ⟨ub, 0, none⟩), .agg (FA 342 (ntc n))] w fun x w' => x = .returned (.agg (FA 342 (ntc ⟨n.u, u.b, ver (readU n u), false, true, zEn, zPl⟩))) ∧ ∃ v', HS S W w' (thB ub 332 (urc pb ((readU n u).p) ((readU n u).b)) :: thB pb 460 (rpc (readU n u).up ((readU n u).p) v') :: B) := by
  have S0 := hid hS
  have HP := hid hp
  have HW := hid hw
  have HV := hid hv
  have HN := hid hn
  clear hS hp hw hv hn
  obtain ⟨bb, hbb⟩ : ∃ x, x = u.b := ⟨_, rfl⟩
  obtain ⟨nb, hnb⟩ : ∃ x, x = n.b := ⟨_, rfl⟩
  have HB := hid hbb
  have HNB := hid hnb
  clear hbb hnb
  obtain ⟨y, hy⟩ : ∃ y, y = readU n u := ⟨_, rfl⟩
  have HY := hid hy
  have hyb : y.b = bb := by rw [hy, HB.out]; unfold readU; split; exact fol_b _ _; rfl
  have HYB := hid hyb
  clear hy hyb
  go_enter Tryz.func36, Tryz.ntmps36
  go_upto_region 0 with (fail)
  apply wp_region_lit
  refine wl_ow rfl (ow_box rfl rfl (by omega) S0.out (fun X w1 hZ _ => ?_))
  have S1 := hid hZ
  clear hZ S0
  try simp only [Act.put, List.setIfInBounds_toArray, List.set_cons_zero, List.set_cons_succ]
  refine wl_ow rfl (ow_alloc rfl (znt2 _) (by omega) S1.out (fun R w2 hZ _ => ?_))
  have S2 : Hid (HS S W w2 (thB R 342 (ntc zNt) :: thB X 342 (ntc n) :: thB ub 332 (urc pb (u.p) (u.b)) :: thB pb 460 (rpc u.up (u.p) v) :: B)) := hid hZ
  clear hZ S1
  try simp only [Act.put, List.setIfInBounds_toArray, List.set_cons_zero, List.set_cons_succ]
  have c0 : w2.cell? ⟨ub, 0, none⟩ = some (.pointer (some ⟨pb, 0, none⟩)) := (S2.out.fb 2 rfl).2.1 0 (by omega)
  go_wp2_with fail
  refine (rp_ver (S2.out.fb 3 rfl)).mono ?_
  rintro e w3 ⟨rfl, hb⟩
  have S3 := hid (S2.out.below hb)
  clear hb S2 c0
  go_simp
  go_upto_block 0 with (fail)
  go_cut [5, 6, 7, 8] from 9 to 85 (fun _ _ _ _ wx => ∃ v', HS S W wx (thB R 342 (ntc zNt) :: thB X 342 (ntc n) :: thB ub 332 (urc pb (y.p) (bb)) :: thB pb 460 (rpc y.up (y.p) v') :: B))
  case first =>
    go_upto_region 2 with (fail)
    refine wp_region_held_drew (S := fun (w' : World) => HS S W w' (thB R 342 (ntc zNt) :: thB X 342 (ntc n) :: thB ub 332 (urc pb (u.p) (u.b)) :: thB pb 460 (rpc u.up (u.p) v) :: B)) (by kernel_rfl) ?_ (fun hHeld => ?_)
    · exact S3.out.drew
    refine tkq 0 hHeld ?_
    refine tkq 1 hHeld ?_ (hy := by intro w hSw; (try dsimp only at hSw); have x0 : w.cell? ⟨X, 1, none⟩ = some (.int .i64 nb) := (by rw [HNB.out]; exact (hSw.fb 1 rfl).2.1 1 (by omega)); go_simp; (try with_reducible rfl))
    refine tkq 2 hHeld ?_
    refine tkq 3 hHeld ?_
    refine tkq 4 hHeld ?_
    refine tkq 5 hHeld ?_ (hy := by intro w hSw; (try dsimp only at hSw); have x0 : w.cell? ⟨ub, 331, none⟩ = some (.int .i64 bb) := (by rw [HB.out]; exact (hSw.fb 2 rfl).2.1 331 (by omega)); go_simp; (try with_reducible rfl))
    refine tkq 6 hHeld ?_
    refine tkq 7 hHeld ?_
    have S4 := hid hHeld
    clear hHeld S3
    refine wpAnyH_done (by kernel_rfl) ?_ _
    by_cases hbo : nb = bb
    · have d1 : (nb != bb) = false := by simp [hbo]
      have RE : Hid (y = folU n u) := hid (by rw [HY.out]; unfold readU; rw [if_pos (by rw [← HNB.out, ← HB.out]; exact hbo)])
      have hbo' := hid (show n.b = u.b from by rw [← HNB.out, ← HB.out]; exact hbo)
      clear hbo
      have x3 : _ = some (Value.bool n.wh) := (S4.out.fb 1 rfl).2.1 3 (by omega)
      have x2 : _ = some (Value.int .i64 n.v) := (S4.out.fb 1 rfl).2.1 2 (by omega)
      cases hwh : n.wh
      · rw [hwh] at x3
        cases hup : u.up
        · have RY : Hid (y = u) := hid (by rw [RE.out]; unfold folU; rw [if_neg (by rw [hwh]; simp), if_neg (fun h => h.2.1 (ver_down hup))])
          clear hwh hup
          go_wp2_with fail
          go_meet
          exact ⟨v, by rw [RY.out, HB.out]; exact S4.out⟩
        · have hvb := HV.out hup
          have x9 : IntKind.i64.wrap (u.p.v + 1) = u.p.v + 1 := IntWalk.i64_in _ (by omega)
          by_cases hv2 : n.v = u.p.v + 1
          · have d2 : (n.v == u.p.v + 1) = true := by simp [hv2]
            have FE : Hid (y = if (apR u.p n.e).2 = 0 then ⟨u.b, (apR u.p n.e).1, true⟩ else u) := hid (by rw [RE.out]; unfold folU; rw [if_neg (by rw [hwh]; simp), if_pos ⟨hwh, by rw [ver_up hup]; omega, by rw [ver_up hup]; exact hv2⟩])
            have RP0 := fun w => rapply_fb u.p n.e HP.out w
            have PQ0 : (apR u.p n.e).2 = 0 → Pw (apR u.p n.e).1 := fun h0 => by have h := HW.out; rw [← HY.out, FE.out, if_pos h0] at h; exact h rfl
            generalize apR u.p n.e = ar at *
            obtain ⟨q2, er⟩ := ar
            simp only at RP0 PQ0 FE
            have RP := hid RP0
            have PQ := hid PQ0
            clear RP0 PQ0 hv2 hvb
            go_upto_region 7 with (fail)
            simp only [d1]
            clear d1 d2 x9 x2 x3
            go_cut [7, 8] from 64 to 73 (fun x y wx => ∃ Q : Nat, x = .pointer (some ⟨Q, 0, none⟩) ∧ y = .int .i64 er ∧ HS S W wx (thB Q 330 (pc q2) :: thB R 342 (ntc zNt) :: thB X 342 (ntc n) :: thB ub 332 (urc pb (u.p) (u.b)) :: thB pb 460 (rpc true u.p v) :: B))
            case first =>
              rw [hup] at S4
              refine wp_region_held_drew (S := fun (w' : World) => HS S W w' (thB R 342 (ntc zNt) :: thB X 342 (ntc n) :: thB ub 332 (urc pb (u.p) (u.b)) :: thB pb 460 (rpc true u.p v) :: B)) (by kernel_rfl) ?_ (fun hHeld => ?_)
              · exact S4.out.drew
              refine tkq 0 hHeld ?_
              refine tkq 1 hHeld ?_
              refine tkq 2 hHeld ?_
              refine tk 3 (v := .agg (FA 330 (pc u.p))) rfl (by kernel_rfl) (by kernel_rfl) (by kernel_rfl) (fun _ _ _ h => h) rfl (fun w hSw => ex_load rfl rfl ((hSw.fb 2 rfl).load 1 330 (pc u.p) (by omega) (fun j hj => ur_pl _ _ _ j hj) Tryz.underlying33 rfl info_pl)) hHeld ?_; (try simp only [Act.put, List.setIfInBounds_toArray, List.set_cons_zero, List.set_cons_succ])
              refine tkq 4 hHeld ?_
              refine tkq 5 hHeld ?_ (hy := by intro w hSw; (try dsimp only at hSw); have x0 : w.cell? ⟨X, 5, none⟩ = some (.int .i64 n.e.k) := (hSw.fb 1 rfl).2.1 5 (by omega); have x1 : w.cell? ⟨X, 6, none⟩ = some (.int .i64 n.e.s) := (hSw.fb 1 rfl).2.1 6 (by omega); have x2 : w.cell? ⟨X, 7, none⟩ = some (.int .i64 n.e.a) := (hSw.fb 1 rfl).2.1 7 (by omega); have x3 : w.cell? ⟨X, 8, none⟩ = some (.int .i64 n.e.p) := (hSw.fb 1 rfl).2.1 8 (by omega); have x4 : w.cell? ⟨X, 9, none⟩ = some (.int .i64 n.e.w) := (hSw.fb 1 rfl).2.1 9 (by omega); have x5 : w.cell? ⟨X, 10, none⟩ = some (.int .u64 n.e.y.a) := (hSw.fb 1 rfl).2.1 10 (by omega); have x6 : w.cell? ⟨X, 11, none⟩ = some (.int .u64 n.e.y.b) := (hSw.fb 1 rfl).2.1 11 (by omega); go_simp; (try with_reducible rfl))
              refine twoUp 6 10 rfl rfl (by kernel_rfl) rfl rfl (fun K hK => ?_) (fun K hK => ?_)
              · go_simp
                refine (RP.out _).mono ?_
                rintro e' w7 ⟨rfl, hb⟩
                try go_wp2_with fail
                refine hK.out _ _ (HS.below hHeld hb) (fun hz0 => ?_)
                clear hK hb
                try simp only [Act.put, List.setIfInBounds_toArray, List.set_cons_zero, List.set_cons_succ]
                refine tkq 7 hz0 ?_
                refine tkq 8 hz0 ?_
                refine tkq 9 hz0 ?_
                refine only 10 rfl (by kernel_rfl) rfl (fun K hK => ?_)
                refine ow_alloc rfl (zpl_fa _) (by omega) hz0 (fun Q w8 nhz1 _ => ?_)
                refine hK.out _ _ nhz1.tail (fun hz1 => ?_)
                clear hK
                try simp only [Act.put, List.setIfInBounds_toArray, List.set_cons_zero, List.set_cons_succ]
                refine only 11 rfl (by kernel_rfl) rfl (fun K hK => ?_)
                refine ow_store (A := []) 0 330 (pc q2) (pc q2) rfl rfl rfl nhz1 (by omega) (fun j hj => patch_all _ _ _ j hj) info_pl (pc_one q2) (fun w9 hN2 => ?_)
                refine hK.out _ _ hN2.tail (fun hE => ?_)
                clear hK
                try simp only [Act.put, List.setIfInBounds_toArray, List.set_cons_zero, List.set_cons_succ]
                refine tkq 12 hE ?_
                refine wpAnyH_done (by kernel_rfl) ?_ _
                go_wp2_with fail
                go_meet
                exact ⟨Q, rfl, rfl, hN2⟩
              · refine ow_alloc rfl (zpl_fa _) (by omega) hHeld (fun Q w8 nhz0 _ => ?_)
                refine hK.out _ _ nhz0.tail (fun hz0 => ?_)
                clear hK
                try simp only [Act.put, List.setIfInBounds_toArray, List.set_cons_zero, List.set_cons_succ]
                refine only 6 rfl (by kernel_rfl) rfl (fun K hK => ?_)
                go_simp
                refine (RP.out _).mono ?_
                rintro e' w7 ⟨rfl, hb⟩
                try go_wp2_with fail
                have nhz1 := HS.below nhz0 hb
                refine hK.out _ _ nhz1.tail (fun hz1 => ?_)
                clear hK hb
                try simp only [Act.put, List.setIfInBounds_toArray, List.set_cons_zero, List.set_cons_succ]
                refine tkq 7 hz1 ?_
                refine tkq 8 hz1 ?_
                refine tkq 9 hz1 ?_
                refine only 11 rfl (by kernel_rfl) rfl (fun K hK => ?_)
                refine ow_store (A := []) 0 330 (pc q2) (pc q2) rfl rfl rfl nhz1 (by omega) (fun j hj => patch_all _ _ _ j hj) info_pl (pc_one q2) (fun w9 hN2 => ?_)
                refine hK.out _ _ hN2.tail (fun hE => ?_)
                clear hK
                try simp only [Act.put, List.setIfInBounds_toArray, List.set_cons_zero, List.set_cons_succ]
                refine tkq 12 hE ?_
                refine wpAnyH_done (by kernel_rfl) ?_ _
                go_wp2_with fail
                go_meet
                exact ⟨Q, rfl, rfl, hN2⟩
            case rest =>
              obtain ⟨Q, rfl, rfl, hz⟩ := hcut
              have S6 := hid hz
              clear hz S4
              by_cases he : er = 0
              · have de : (er == 0) = true := by simp [he]
                have RY : Hid (y = ⟨u.b, q2, true⟩) := hid (by rw [FE.out, if_pos he])
                have PN := hid (PQ.out he)
                clear he
                go_upto_region 9 with (fail)
                apply wp_region_lit
                refine wl_val (v := ?_) rfl ?_ ?_; rotate_left; (focus ( go_simp; (try with_reducible rfl))); (try simp only [Act.put, List.setIfInBounds_toArray, List.set_cons_zero, List.set_cons_succ])
                refine wl_ow rfl (ow_load 0 rfl 0 330 (pc q2) rfl rfl S6.out (by omega) (fun j hj => by rw [Nat.zero_add]) Tryz.underlying33 rfl info_pl ?_)
                try simp only [Act.put, List.setIfInBounds_toArray, List.set_cons_zero, List.set_cons_succ]
                refine wl_val (v := ?_) rfl ?_ ?_; rotate_left; (focus ( go_simp; (try with_reducible rfl))); (try simp only [Act.put, List.setIfInBounds_toArray, List.set_cons_zero, List.set_cons_succ])
                refine wl_val (v := ?_) rfl ?_ ?_; rotate_left; (focus ( go_simp; (try with_reducible rfl))); (try simp only [Act.put, List.setIfInBounds_toArray, List.set_cons_zero, List.set_cons_succ])
                refine wl_ow rfl (ow_store (A := [thB Q 330 (pc q2), thB R 342 (ntc zNt), thB X 342 (ntc n)]) 1 330 (pc q2) (urc pb q2 u.b) rfl rfl rfl S6.out (by omega) (fun j hj => ru_p _ _ _ _ j hj) info_pl (pc_one _) ?_)
                intro w5 hZ
                have S7 : Hid (HS S W w5 (thB Q 330 (pc q2) :: thB R 342 (ntc zNt) :: thB X 342 (ntc n) :: thB ub 332 (urc pb (q2) (u.b)) :: thB pb 460 (rpc true u.p v) :: B)) := hid hZ
                clear hZ S6
                try simp only [Act.put, List.setIfInBounds_toArray, List.set_cons_zero, List.set_cons_succ]
                go_upto_region 10 with (fail)
                refine wp_region_held_drew (S := fun (w' : World) => ∃ q' up' v', HS S W w' (thB Q 330 (pc q2) :: thB R 342 (ntc zNt) :: thB X 342 (ntc n) :: thB ub 332 (urc pb (q2) (u.b)) :: thB pb 460 (rpc up' q' v') :: B)) (by kernel_rfl) ?_ (fun hHeld => ?_)
                · exact ⟨_, _, _, S7.out.drew⟩
                refine tkq 0 hHeld ?_
                refine tkq 1 hHeld ?_
                refine tkq 2 hHeld ?_
                refine tkq 3 hHeld ?_ (hy := by intro w hSw; (try dsimp only at hSw); obtain ⟨_, _, _, hh⟩ := hSw; have x0 : w.cell? ⟨ub, 0, none⟩ = some (.pointer (some ⟨pb, 0, none⟩)) := (hh.fb 3 rfl).2.1 0 (by omega); go_simp; (try with_reducible rfl))
                refine tk 4 (v := .agg (FA 330 (pc q2))) rfl (by kernel_rfl) (by kernel_rfl) (by kernel_rfl) (fun _ _ _ h => h) rfl (fun w hSw => by obtain ⟨_, _, _, hh⟩ := hSw; exact ex_load rfl rfl ((hh.fb 0 rfl).load 0 330 (pc q2) (by omega) (fun j hj => by rw [Nat.zero_add]) Tryz.underlying33 rfl info_pl)) hHeld ?_; (try simp only [Act.put, List.setIfInBounds_toArray, List.set_cons_zero, List.set_cons_succ])
                refine only 5 rfl (by kernel_rfl) rfl (fun K hK => ?_)
                go_simp
                obtain ⟨_, _, _, hh⟩ := hHeld
                refine (rp_load (hh.fb 4 rfl) PN.out).mono ?_
                rintro e w6 ⟨rfl, v6, hF6, hC6⟩
                try go_wp2_with fail
                have h6 := HS.upd (A := [thB Q 330 (pc q2), thB R 342 (ntc zNt), thB X 342 (ntc n), thB ub 332 (urc pb (q2) (u.b))]) hh (thB pb 460 (rpc true (q2) v6)) rfl hC6 hF6
                refine hK.out _ _ ⟨_, _, _, h6⟩ (fun _ => ?_)
                clear hK hh
                try simp only [Act.put, List.setIfInBounds_toArray, List.set_cons_zero, List.set_cons_succ]
                refine wpAnyH_done (by kernel_rfl) ?_ _
                go_wp2_with fail
                go_meet
                exact ⟨v6, by rw [RY.out, HB.out]; exact h6.tail⟩
              · have de : (er == 0) = false := by simp [he]
                have RY : Hid (y = u) := hid (by rw [FE.out, if_neg he])
                clear he
                go_wp2_with fail
                go_meet
                exact ⟨v, by rw [RY.out, HB.out, hup]; exact S6.out.tail⟩
          · have d2 : (n.v == u.p.v + 1) = false := by simp [hv2]
            have RY : Hid (y = u) := hid (by rw [RE.out]; unfold folU; rw [if_neg (by rw [hwh]; simp), if_neg (by rw [ver_up hup]; omega)])
            clear hv2 hvb
            go_wp2_with fail
            go_meet
            exact ⟨v, by rw [RY.out, HB.out]; exact S4.out⟩
      · rw [hwh] at x3
        obtain ⟨e1, e2⟩ := HN.out hbo'.out hwh
        cases hup : u.up
        · have RY : Hid (y = ⟨u.b, n.p, true⟩) := hid (by rw [RE.out]; unfold folU; rw [if_pos ⟨hwh, by rw [ver_down hup]; omega⟩])
          have PN : Hid (Pw n.p) := hid (by have h := HW.out; rw [← HY.out, RY.out] at h; exact h rfl)
          clear hwh e1 e2
          rw [hup] at S4
          go_upto_region 4 with (fail)
          clear x2 x3
          apply wp_region_lit
          refine wl_val (v := ?_) rfl ?_ ?_; rotate_left; (focus ( go_simp; (try with_reducible rfl))); (try simp only [Act.put, List.setIfInBounds_toArray, List.set_cons_zero, List.set_cons_succ])
          refine wl_val (v := ?_) rfl ?_ ?_; rotate_left; (focus ( go_simp; (try with_reducible rfl))); (try simp only [Act.put, List.setIfInBounds_toArray, List.set_cons_zero, List.set_cons_succ])
          refine wl_ow rfl (ow_load 1 rfl 12 330 (pc n.p) rfl rfl S4.out (by omega) (fun j hj => nt_pl n j hj) Tryz.underlying33 rfl info_pl ?_)
          try simp only [Act.put, List.setIfInBounds_toArray, List.set_cons_zero, List.set_cons_succ]
          refine wl_val (v := ?_) rfl ?_ ?_; rotate_left; (focus ( go_simp; (try with_reducible rfl))); (try simp only [Act.put, List.setIfInBounds_toArray, List.set_cons_zero, List.set_cons_succ])
          refine wl_val (v := ?_) rfl ?_ ?_; rotate_left; (focus ( go_simp; (try with_reducible rfl))); (try simp only [Act.put, List.setIfInBounds_toArray, List.set_cons_zero, List.set_cons_succ])
          refine wl_ow rfl (ow_store (A := [thB R 342 (ntc zNt), thB X 342 (ntc n)]) 1 330 (pc n.p) (urc pb n.p u.b) rfl rfl rfl S4.out (by omega) (fun j hj => ru_p _ _ _ _ j hj) info_pl (pc_one _) ?_)
          intro w5 hZ
          have S5 : Hid (HS S W w5 (thB R 342 (ntc zNt) :: thB X 342 (ntc n) :: thB ub 332 (urc pb (n.p) (u.b)) :: thB pb 460 (rpc false (u.p) v) :: B)) := hid hZ
          clear hZ S4
          try simp only [Act.put, List.setIfInBounds_toArray, List.set_cons_zero, List.set_cons_succ]
          go_upto_region 5 with (fail)
          refine wp_region_held_drew (S := fun (w' : World) => ∃ q' up' v', HS S W w' (thB R 342 (ntc zNt) :: thB X 342 (ntc n) :: thB ub 332 (urc pb (n.p) (u.b)) :: thB pb 460 (rpc up' q' v') :: B)) (by kernel_rfl) ?_ (fun hHeld => ?_)
          · exact ⟨_, _, _, S5.out.drew⟩
          refine tkq 0 hHeld ?_
          refine tkq 1 hHeld ?_
          refine tkq 2 hHeld ?_
          refine tkq 3 hHeld ?_ (hy := by intro w hSw; (try dsimp only at hSw); obtain ⟨_, _, _, hh⟩ := hSw; have x0 : w.cell? ⟨ub, 0, none⟩ = some (.pointer (some ⟨pb, 0, none⟩)) := (hh.fb 2 rfl).2.1 0 (by omega); go_simp; (try with_reducible rfl))
          refine tkq 4 hHeld ?_
          refine tk 5 (v := .agg (FA 330 (pc n.p))) rfl (by kernel_rfl) (by kernel_rfl) (by kernel_rfl) (fun _ _ _ h => h) rfl (fun w hSw => by obtain ⟨_, _, _, hh⟩ := hSw; exact ex_load rfl rfl ((hh.fb 1 rfl).load 12 330 (pc n.p) (by omega) (fun j hj => nt_pl n j hj) Tryz.underlying33 rfl info_pl)) hHeld ?_; (try simp only [Act.put, List.setIfInBounds_toArray, List.set_cons_zero, List.set_cons_succ])
          refine only 6 rfl (by kernel_rfl) rfl (fun K hK => ?_)
          go_simp
          obtain ⟨_, _, _, hh⟩ := hHeld
          refine (rp_load (hh.fb 3 rfl) PN.out).mono ?_
          rintro e w6 ⟨rfl, v6, hF6, hC6⟩
          try go_wp2_with fail
          have h6 := HS.upd (A := [thB R 342 (ntc zNt), thB X 342 (ntc n), thB ub 332 (urc pb (n.p) (u.b))]) hh (thB pb 460 (rpc true (n.p) v6)) rfl hC6 hF6
          refine hK.out _ _ ⟨_, _, _, h6⟩ (fun _ => ?_)
          clear hK hh
          try simp only [Act.put, List.setIfInBounds_toArray, List.set_cons_zero, List.set_cons_succ]
          refine wpAnyH_done (by kernel_rfl) ?_ _
          go_wp2_with fail
          go_meet
          exact ⟨v6, by rw [RY.out, HB.out]; exact h6⟩
        · by_cases hlt : u.p.v < n.v
          · have RY : Hid (y = ⟨u.b, n.p, true⟩) := hid (by rw [RE.out]; unfold folU; rw [if_pos ⟨hwh, by rw [ver_up hup]; omega⟩])
            have PN : Hid (Pw n.p) := hid (by have h := HW.out; rw [← HY.out, RY.out] at h; exact h rfl)
            clear hwh e1 e2
            go_upto_region 4 with (fail)
            clear x2 x3
            apply wp_region_lit
            refine wl_val (v := ?_) rfl ?_ ?_; rotate_left; (focus ( go_simp; (try with_reducible rfl))); (try simp only [Act.put, List.setIfInBounds_toArray, List.set_cons_zero, List.set_cons_succ])
            refine wl_val (v := ?_) rfl ?_ ?_; rotate_left; (focus ( go_simp; (try with_reducible rfl))); (try simp only [Act.put, List.setIfInBounds_toArray, List.set_cons_zero, List.set_cons_succ])
            refine wl_ow rfl (ow_load 1 rfl 12 330 (pc n.p) rfl rfl S4.out (by omega) (fun j hj => nt_pl n j hj) Tryz.underlying33 rfl info_pl ?_)
            try simp only [Act.put, List.setIfInBounds_toArray, List.set_cons_zero, List.set_cons_succ]
            refine wl_val (v := ?_) rfl ?_ ?_; rotate_left; (focus ( go_simp; (try with_reducible rfl))); (try simp only [Act.put, List.setIfInBounds_toArray, List.set_cons_zero, List.set_cons_succ])
            refine wl_val (v := ?_) rfl ?_ ?_; rotate_left; (focus ( go_simp; (try with_reducible rfl))); (try simp only [Act.put, List.setIfInBounds_toArray, List.set_cons_zero, List.set_cons_succ])
            refine wl_ow rfl (ow_store (A := [thB R 342 (ntc zNt), thB X 342 (ntc n)]) 1 330 (pc n.p) (urc pb n.p u.b) rfl rfl rfl S4.out (by omega) (fun j hj => ru_p _ _ _ _ j hj) info_pl (pc_one _) ?_)
            intro w5 hZ
            have S5 : Hid (HS S W w5 (thB R 342 (ntc zNt) :: thB X 342 (ntc n) :: thB ub 332 (urc pb (n.p) (u.b)) :: thB pb 460 (rpc u.up (u.p) v) :: B)) := hid hZ
            clear hZ S4
            try simp only [Act.put, List.setIfInBounds_toArray, List.set_cons_zero, List.set_cons_succ]
            go_upto_region 5 with (fail)
            refine wp_region_held_drew (S := fun (w' : World) => ∃ q' up' v', HS S W w' (thB R 342 (ntc zNt) :: thB X 342 (ntc n) :: thB ub 332 (urc pb (n.p) (u.b)) :: thB pb 460 (rpc up' q' v') :: B)) (by kernel_rfl) ?_ (fun hHeld => ?_)
            · exact ⟨_, _, _, S5.out.drew⟩
            refine tkq 0 hHeld ?_
            refine tkq 1 hHeld ?_
            refine tkq 2 hHeld ?_
            refine tkq 3 hHeld ?_ (hy := by intro w hSw; (try dsimp only at hSw); obtain ⟨_, _, _, hh⟩ := hSw; have x0 : w.cell? ⟨ub, 0, none⟩ = some (.pointer (some ⟨pb, 0, none⟩)) := (hh.fb 2 rfl).2.1 0 (by omega); go_simp; (try with_reducible rfl))
            refine tkq 4 hHeld ?_
            refine tk 5 (v := .agg (FA 330 (pc n.p))) rfl (by kernel_rfl) (by kernel_rfl) (by kernel_rfl) (fun _ _ _ h => h) rfl (fun w hSw => by obtain ⟨_, _, _, hh⟩ := hSw; exact ex_load rfl rfl ((hh.fb 1 rfl).load 12 330 (pc n.p) (by omega) (fun j hj => nt_pl n j hj) Tryz.underlying33 rfl info_pl)) hHeld ?_; (try simp only [Act.put, List.setIfInBounds_toArray, List.set_cons_zero, List.set_cons_succ])
            refine only 6 rfl (by kernel_rfl) rfl (fun K hK => ?_)
            go_simp
            obtain ⟨_, _, _, hh⟩ := hHeld
            refine (rp_load (hh.fb 3 rfl) PN.out).mono ?_
            rintro e w6 ⟨rfl, v6, hF6, hC6⟩
            try go_wp2_with fail
            have h6 := HS.upd (A := [thB R 342 (ntc zNt), thB X 342 (ntc n), thB ub 332 (urc pb (n.p) (u.b))]) hh (thB pb 460 (rpc true (n.p) v6)) rfl hC6 hF6
            refine hK.out _ _ ⟨_, _, _, h6⟩ (fun _ => ?_)
            clear hK hh
            try simp only [Act.put, List.setIfInBounds_toArray, List.set_cons_zero, List.set_cons_succ]
            refine wpAnyH_done (by kernel_rfl) ?_ _
            go_wp2_with fail
            go_meet
            exact ⟨v6, by rw [RY.out, HB.out]; exact h6⟩
          · have RY : Hid (y = u) := hid (by rw [RE.out]; unfold folU; rw [if_neg (by rw [ver_up hup]; omega), if_neg (by rw [hwh]; simp)])
            clear hwh e1 e2
            go_wp2_with fail
            go_meet
            exact ⟨v, by rw [RY.out, HB.out]; exact S4.out⟩
    · have d1 : (nb != bb) = true := by simp [hbo]
      have RE : y = u := by rw [HY.out]; unfold readU; rw [if_neg (by rw [← HNB.out, ← HB.out]; exact hbo)]
      clear hbo
      go_wp2_with fail
      all_goals (go_meet; exact ⟨v, by rw [RE, HB.out]; exact S4.out⟩)
  case rest =>
    obtain ⟨v', hz⟩ := hcut
    have S5 := hid hz
    clear hz S3
    obtain ⟨vv, hvv⟩ : ∃ x : Int, x = ver y := ⟨_, rfl⟩
    have HVV := hid hvv
    clear hvv
    have c0 : _ = some (Value.pointer (some ⟨pb, 0, none⟩)) := (S5.out.fb 2 rfl).2.1 0 (by omega)
    go_wp2_with fail
    refine (rp_ver (S5.out.fb 3 rfl)).mono ?_
    rintro e w6 ⟨rfl, hb⟩
    have S6 := hid (S5.out.below hb)
    clear hb S5 c0
    go_simp
    go_upto_if 95 with (fail)
    go_cut [5, 6] from 86 to 95 (fun x _ wx => x = .int .i64 vv ∧ HS S W wx (thB R 342 (ntc zNt) :: thB X 342 (ntc n) :: thB ub 332 (urc pb (y.p) (bb)) :: thB pb 460 (rpc y.up (y.p) v') :: B))
    case first =>
      cases hup : y.up
      · have e : vv = -1 := by rw [HVV.out]; exact ver_down hup
        go_wp2_with fail
        go_meet
        exact ⟨by rw [e], S6.out⟩
      · have e : vv = y.p.v := by rw [HVV.out]; exact ver_up hup
        go_wp2_with fail
        go_meet
        exact ⟨by rw [e], S6.out⟩
    case rest =>
      obtain ⟨rfl, hz⟩ := hcut
      have S7 := hid hz
      clear hz S6
      obtain ⟨un, hun⟩ : ∃ x, x = n.u := ⟨_, rfl⟩
      have HUN := hid hun
      clear hun
      go_upto_region 14 with (fail)
      refine wp_region_held_drew (S := fun (w' : World) => ∃ f, HS S W w' (thB R 342 f :: thB X 342 (ntc n) :: thB ub 332 (urc pb (y.p) (bb)) :: thB pb 460 (rpc y.up (y.p) v') :: B)) (by kernel_rfl) ?_ (fun hHeld => ?_)
      · exact ⟨_, S7.out.drew⟩
      refine tkq 0 hHeld ?_
      refine tkq 1 hHeld ?_ (hy := by intro w hSw; (try dsimp only at hSw); obtain ⟨_, hh⟩ := hSw; have x0 : w.cell? ⟨X, 0, none⟩ = some (.int .i64 un) := (by rw [HUN.out]; exact (hh.fb 1 rfl).2.1 0 (by omega)); go_simp; (try with_reducible rfl))
      refine tkq 2 hHeld ?_
      refine tkq 3 hHeld ?_
      refine tkq 4 hHeld ?_
      refine tkq 5 hHeld ?_ (hy := by intro w hSw; (try dsimp only at hSw); obtain ⟨_, hh⟩ := hSw; have x0 : w.cell? ⟨ub, 331, none⟩ = some (.int .i64 bb) := (hh.fb 2 rfl).2.1 331 (by omega); go_simp; (try with_reducible rfl))
      refine tkq 6 hHeld ?_
      refine tk 7 (v := .agg (FA 342 (ntc ⟨un, bb, vv, false, true, zEn, zPl⟩))) rfl (by kernel_rfl) (by kernel_rfl) (by kernel_rfl) (fun _ _ _ h => h) rfl (fun w hSw => ex_build4 rfl rfl rfl rfl rfl (build_ack2 _ _ _ w)) hHeld ?_; (try simp only [Act.put, List.setIfInBounds_toArray, List.set_cons_zero, List.set_cons_succ])
      refine only 8 rfl (by kernel_rfl) rfl (fun K hK => ?_)
      obtain ⟨f0, hh⟩ := hHeld
      refine ow_store (A := []) 0 342 (ntc ⟨un, bb, vv, false, true, zEn, zPl⟩) (ntc ⟨un, bb, vv, false, true, zEn, zPl⟩) rfl rfl rfl hh (by omega) (fun j hj => patch_all _ _ _ j hj) info_nt2 (ntc_one _) (fun w9 hN => ?_)
      refine hK.out _ _ ⟨_, hN⟩ (fun _ => ?_)
      clear hK hh
      try simp only [Act.put, List.setIfInBounds_toArray, List.set_cons_zero, List.set_cons_succ]
      have S9 := hid hN
      clear hN S7
      refine wpAnyH_done (by kernel_rfl) ?_ _
      try apply_assumption
      refine wp_ret ?_
      (repeat refine ret_then ?_)
      (show bodyPost _ _ _ _ _ _)
      refine bodyPost_ret (v := .agg (FA 342 (ntc ⟨un, bb, vv, false, true, zEn, zPl⟩))) (results_cell1 Tryz.results36 _ rfl (S9.out.fb 0 rfl) Tryz.underlying88 rfl info_nt2) rfl ?_
      refine ⟨by rw [HUN.out, HVV.out, HB.out, HY.out], v', ?_⟩
      have h := S9.out.tail.tail
      rw [← HY.out, HYB.out]
      exact h
end Go.Proofs.YteefhiniamajkaaGreat
namespace Go.Proofs.YteefhiniamajkaaGreat
set_option linter.unusedVariables false
set_option linter.unusedSimpArgs false
open Go.RowKit Go.ChangeShapes Go.WideShapes Go.ChangeAt
/-- The words of the reference's head, two cells each. -/
def wof (f : Nat → Wd) (j : Nat) : Value := if j % 2 = 0 then .int .i64 (f (j / 2)).b else .int .i64 (f (j / 2)).v
theorem zwd2 (w : World) : (zeroValue 118).run Tryz.prog w = .ok (.agg ([.int .i64 0, .int .i64 0] : List Value).toArray) w := by kernel_rfl
theorem iwd2 : (Tryz.prog.info? 118).map (·.size) = some 2 := by kernel_rfl
theorem wo_cells {w : World} {T : TypeId} {ug un uc k : Nat} {wd : Nat → Wd} (h : Ow w 0 T 2 (.slice (some ⟨ug, 0, none⟩) un uc) un (wof wd)) (hk : k < un) : ug < w.heap.size ∧ w.cell? ⟨ug, k * 2, none⟩ = some (.int .i64 (wd k).b) ∧ w.cell? ⟨ug, k * 2 + 1, none⟩ = some (.int .i64 (wd k).v) ∧ w.frozen? ⟨ug, k * 2, none⟩ = false ∧ w.frozen? ⟨ug, k * 2 + 1, none⟩ = false := by
  obtain ⟨g, hg, _, hl, hc, hf⟩ := h.block_ (by omega)
  injection hg with hg
  injection hg with hg
  subst hg
  have h1 := hc (k * 2) (by omega)
  have h2 := hc (k * 2 + 1) (by omega)
  unfold wof at h1 h2
  rw [if_pos (by omega), show k * 2 / 2 = k by omega] at h1
  rw [if_neg (by omega), show (k * 2 + 1) / 2 = k by omega] at h2
  exact ⟨hl, h1, h2, hf _, hf _⟩
theorem wof_set (f : Nat → Wd) (k : Nat) (y : Wd) (j : Nat) : put1 (put1 (wof f) (k * 2) (.int .i64 y.b)) (k * 2 + 1) (.int .i64 y.v) j = wof (setW f k y) j := by
  unfold put1 wof setW
  by_cases h1 : j = k * 2 + 1
  · subst h1; rw [if_pos rfl, if_neg (by omega), if_pos (by omega)]
  · rw [if_neg h1]
    by_cases h2 : j = k * 2
    · subst h2; rw [if_pos rfl, if_pos (by omega), if_pos (by omega)]
    · rw [if_neg h2, if_neg (show ¬ j / 2 = k by omega)]
attribute [local irreducible] FA FL
set_option maxRecDepth 100000 in
set_option maxHeartbeats 8000000 in
theorem rh_heard {S : List Nat} {W w : World} {B : List Th} {hb ug un uc : Nat} {p : Pl} {l : Value} {e : En} {i : Bool} {wd : Nat → Wd} (hS : HS S W w (thB hb 340 (rhc p l e i (.slice (some ⟨ug, 0, none⟩) un uc)) :: thW 0 118 2 (.slice (some ⟨ug, 0, none⟩) un uc) un (wof wd) :: B)) (n : Nt) (hak : n.ak = true) (hu : 0 ≤ n.u ∧ n.u < un) :
    Calls Tryz.prog 35 #[.pointer (some ⟨hb, 0, none⟩), .agg (FA 342 (ntc n))] w fun x w' => x = .returned (.tuple #[]) ∧ ∃ wd', (∀ j, wd' j = if j = n.u.toNat ∧ cntB (wd n.u.toNat) ⟨n.b, mx n.v⟩ = true then ⟨n.b, mx n.v⟩ else wd j) ∧ HS S W w' (thB hb 340 (rhc p l e i (.slice (some ⟨ug, 0, none⟩) un uc)) :: thW 0 118 2 (.slice (some ⟨ug, 0, none⟩) un uc) un (wof wd') :: B) := by
  have S0 := hid hS
  clear hS
  obtain ⟨k, hk⟩ : ∃ k : Nat, (k : Int) = n.u := ⟨n.u.toNat, by omega⟩
  obtain ⟨x, hx⟩ : ∃ x, x = wd k := ⟨_, rfl⟩
  have k0 : ¬ (k : Int) < 0 := by omega
  have k1 : ¬ (k : Int) ≥ un := by omega
  have k2 : (0 : Int) ≤ k := by omega
  have k3 : (k : Int) < un := by omega
  have K3 := hid (show k < un by omega)
  have HK := hid hk
  have HX := hid hx
  have HAK := hid hak
  clear hx hk hak hu
  go_enter Tryz.func35, Tryz.ntmps35
  go_upto_region 1 with ((with_reducible refine wl_id ?_); refine wl_ow rfl (ow_box rfl rfl (by omega) S0.out (fun X w2 hZ hb => ?_)); have S1 := hid hZ; clear hZ hb)
  refine wp_region_held_drew (S := fun (w' : World) => HS S W w' (thB X 342 (ntc n) :: thB hb 340 (rhc p l e i (.slice (some ⟨ug, 0, none⟩) un uc)) :: thW 0 118 2 (.slice (some ⟨ug, 0, none⟩) un uc) un (wof wd) :: B)) (by kernel_rfl) ?_ (fun hHeld => ?_)
  · exact S1.out.drew
  refine tkq 0 hHeld ?_
  refine tkq 1 hHeld ?_ (hy := by intro w hSw; (try dsimp only at hSw); have x0 : w.cell? ⟨X, 4, none⟩ = some (.bool true) := (by rw [← HAK.out]; exact (hSw.fb 0 rfl).2.1 4 (by omega)); go_simp; (try with_reducible rfl))
  refine tkq 2 hHeld ?_
  refine tkq 3 hHeld ?_
  refine tkq 4 hHeld ?_
  refine tkq 5 hHeld ?_ (hy := by intro w hSw; (try dsimp only at hSw); have x0 : w.cell? ⟨X, 0, none⟩ = some (.int .i64 (k : Int)) := (by rw [HK.out]; exact (hSw.fb 0 rfl).2.1 0 (by omega)); go_simp; (try with_reducible rfl))
  refine tkq 6 hHeld ?_
  refine tkq 7 hHeld ?_
  refine tkq 8 hHeld ?_
  refine tkq 9 hHeld ?_
  refine tkq 10 hHeld ?_ (hy := by intro w hSw; (try dsimp only at hSw); have x0 : w.cell? ⟨X, 0, none⟩ = some (.int .i64 (k : Int)) := (by rw [HK.out]; exact (hSw.fb 0 rfl).2.1 0 (by omega)); go_simp; (try with_reducible rfl))
  refine tkq 11 hHeld ?_
  refine tkq 12 hHeld ?_
  refine tkq 13 hHeld ?_
  refine tkq 14 hHeld ?_ (hy := by intro w hSw; (try dsimp only at hSw); have x1 : w.cell? ⟨hb, 339, none⟩ = some (.slice (some ⟨ug, 0, none⟩) un uc) := (hSw.fb 1 rfl).2.1 339 (by omega); go_simp; (try with_reducible rfl))
  refine tkq 15 hHeld ?_
  refine tkq 16 hHeld ?_
  refine tkq 17 hHeld ?_
  have S2 := hid hHeld
  clear hHeld S1
  refine wpAnyH_done (by kernel_rfl) ?_ _
  go_upto_region 2 with (fail)
  refine wp_region_held_drew (S := fun (w' : World) => HS S W w' (thB X 342 (ntc n) :: thB hb 340 (rhc p l e i (.slice (some ⟨ug, 0, none⟩) un uc)) :: thW 0 118 2 (.slice (some ⟨ug, 0, none⟩) un uc) un (wof wd) :: B)) (by kernel_rfl) ?_ (fun hHeld => ?_)
  · exact S2.out.drew
  refine tkq 0 hHeld ?_
  refine tkq 1 hHeld ?_
  refine tkq 2 hHeld ?_
  refine tkq 3 hHeld ?_ (hy := by intro w hSw; (try dsimp only at hSw); have x1 : w.cell? ⟨hb, 339, none⟩ = some (.slice (some ⟨ug, 0, none⟩) un uc) := (hSw.fb 1 rfl).2.1 339 (by omega); go_simp; (try with_reducible rfl))
  refine tkq 4 hHeld ?_
  refine tkq 5 hHeld ?_ (hy := by intro w hSw; (try dsimp only at hSw); have x0 : w.cell? ⟨X, 0, none⟩ = some (.int .i64 (k : Int)) := (by rw [HK.out]; exact (hSw.fb 0 rfl).2.1 0 (by omega)); go_simp; (try with_reducible rfl))
  refine tkq 6 hHeld ?_
  refine tkq 7 hHeld ?_ (hy := by intro w hSw; (try dsimp only at hSw); obtain ⟨_, y0, y1, _, _⟩ := wo_cells (hSw.nth 2 rfl) K3.out; rw [← HX.out] at y0 y1; go_simp; (try with_reducible rfl))
  refine only 8 rfl (by kernel_rfl) rfl (fun K hK => ?_)
  refine ow_allocC rfl (zwd2 _) (by simp) hHeld (fun V w3 hV _ => ?_)
  refine hK.out _ _ hV.tail (fun h3 => ?_)
  clear hK
  try simp only [Act.put, List.setIfInBounds_toArray, List.set_cons_zero, List.set_cons_succ]
  refine only 9 rfl (by kernel_rfl) rfl (fun K hK => ?_)
  refine ow_storeC (A := []) [.int .i64 x.b, .int .i64 x.v] rfl rfl rfl hV rfl iwd2 rfl (fun w4 hY => ?_)
  refine hK.out _ _ hY.tail (fun _ => ?_)
  clear hK
  try simp only [Act.put, List.setIfInBounds_toArray, List.set_cons_zero, List.set_cons_succ]
  have S3 := hid hY
  clear hY hV h3 hHeld S2
  refine wpAnyH_done (by kernel_rfl) ?_ _
  obtain ⟨mv, hmv⟩ : ∃ v, v = mx n.v := ⟨_, rfl⟩
  have HMV := hid hmv
  have hm : (if n.v < -1 then -1 else n.v) = mv := by rw [hmv]; rfl
  have x2 : _ = some (Value.int .i64 n.v) := (S3.out.fb 1 rfl).2.1 2 (by omega)
  clear hmv
  go_upto_block 0 with (fail)
  clear x2 hm
  go_cut [] from 35 to 55 (fun wx => ∃ y : Wd, y = (if cntB x ⟨n.b, mv⟩ = true then ⟨n.b, mv⟩ else x) ∧ HS S W wx (thC V [.int .i64 y.b, .int .i64 y.v] :: thB X 342 (ntc n) :: thB hb 340 (rhc p l e i (.slice (some ⟨ug, 0, none⟩) un uc)) :: thW 0 118 2 (.slice (some ⟨ug, 0, none⟩) un uc) un (wof wd) :: B))
  case first =>
    have x1 : _ = some (Value.int .i64 n.b) := (S3.out.fb 1 rfl).2.1 1 (by omega)
    obtain ⟨y0, y1⟩ := (S3.out.ce 0 rfl).c2
    have yl := (S3.out.ce 0 rfl).1
    have z1 := (S3.out.ce 0 rfl).2.2 1
    rcases (show x.b < n.b ∨ n.b = x.b ∨ n.b < x.b by omega) with h | h | h
    · have d1 : n.b > x.b := h
      have hc : cntB x ⟨n.b, mv⟩ = true := by unfold cntB; simp [h]
      go_upto_region 5 with (fail)
      go_wp2_with ((with_reducible refine wl_id ?_); refine wl_ow rfl (ow_storeC (A := []) [.int .i64 n.b, .int .i64 mv] rfl rfl rfl S3.out rfl iwd2 rfl ?_); intro w5 hZ; have S4 := hid hZ; clear hZ)
      go_meet
      exact ⟨⟨n.b, mv⟩, by rw [if_pos hc], S4.out⟩
    · have d1 : ¬ n.b > x.b := by omega
      have d2 : (n.b == x.b) = true := by simp [h]
      have hc : cntB x ⟨n.b, mv⟩ = decide (x.v < mv) := by unfold cntB; simp [h]
      by_cases h2 : x.v < mv
      · go_wp2_with fail
        go_meet
        exact ⟨⟨n.b, mv⟩, by rw [if_pos (by rw [hc]; simp [h2])], by rw [show (⟨n.b, mv⟩ : Wd).b = x.b from h]; exact HS.setC (A := []) S3.out 1 (.int .i64 mv) (by simp)⟩
      · go_wp2_with fail
        go_meet
        exact ⟨x, by rw [if_neg (by rw [hc]; simp [h2])], HS.setC (A := []) S3.out 1 (.int .i64 x.v) (by simp)⟩
    · have d1 : ¬ n.b > x.b := by omega
      have d2 : (n.b == x.b) = false := by simp; omega
      have hc : cntB x ⟨n.b, mv⟩ = false := by unfold cntB; simp; omega
      go_wp2_with fail
      go_meet
      exact ⟨x, by rw [if_neg (by rw [hc]; simp)], S3.out⟩
  case rest =>
    obtain ⟨y, hy, hz⟩ := hcut
    have S5 := hid hz
    have HY := hid hy
    clear hz hy S3
    go_upto_region 8 with (fail)
    refine wp_region_held_drew (S := fun (w' : World) => ∃ wd', HS S W w' (thC V [.int .i64 y.b, .int .i64 y.v] :: thB X 342 (ntc n) :: thB hb 340 (rhc p l e i (.slice (some ⟨ug, 0, none⟩) un uc)) :: thW 0 118 2 (.slice (some ⟨ug, 0, none⟩) un uc) un (wof wd') :: B)) (by kernel_rfl) ?_ (fun hHeld => ?_)
    · exact ⟨_, S5.out.drew⟩
    have F0 := S5.out.drew
    refine tkq 0 hHeld ?_
    refine tkq 1 hHeld ?_
    refine tkq 2 hHeld ?_
    refine tkq 3 hHeld ?_ (hy := by intro w hSw; (try dsimp only at hSw); obtain ⟨_, hSw⟩ := hSw; have x1 : w.cell? ⟨hb, 339, none⟩ = some (.slice (some ⟨ug, 0, none⟩) un uc) := (hSw.fb 2 rfl).2.1 339 (by omega); go_simp; (try with_reducible rfl))
    refine tkq 4 hHeld ?_
    refine tkq 5 hHeld ?_ (hy := by intro w hSw; (try dsimp only at hSw); obtain ⟨_, hSw⟩ := hSw; have x0 : w.cell? ⟨X, 0, none⟩ = some (.int .i64 (k : Int)) := (by rw [HK.out]; exact (hSw.fb 1 rfl).2.1 0 (by omega)); go_simp; (try with_reducible rfl))
    refine tkq 6 hHeld ?_ (hy := by intro w hSw; (try dsimp only at hSw); obtain ⟨_, hSw⟩ := hSw; obtain ⟨v0, v1⟩ := (hSw.ce 0 rfl).c2; go_simp; (try with_reducible rfl))
    refine tkq 7 hHeld ?_
    refine only 8 rfl (by kernel_rfl) rfl (fun K hK => ?_)
    obtain ⟨l1, c0, c1, f0, f1⟩ := wo_cells (F0.nth 3 rfl) K3.out
    obtain ⟨m1, b0, b1, g0, g1⟩ := wo_cells (S5.out.nth 3 rfl) K3.out
    refine ov_store rfl rfl rfl (w' := ((World.setCell wc ⟨ug, k * 2, none⟩ (.int .i64 y.b)).setCell ⟨ug, k * 2 + 1, none⟩ (.int .i64 y.v)).drew) (by go_simp) ?_
    have hO : Ow _ 0 118 2 (.slice (some ⟨ug, 0, none⟩) un uc) un (wof wd) := S5.out.nth 3 rfl
    have hX := (HS.upd (A := [thC V [.int .i64 y.b, .int .i64 y.v], thB X 342 (ntc n), thB hb 340 (rhc p l e i (.slice (some ⟨ug, 0, none⟩) un uc))]) S5.out (thW 0 118 2 (.slice (some ⟨ug, 0, none⟩) un uc) un (wof (setW wd k y))) rfl (((Ch.refl _ _).set1 (.inl (by simp [thW, Value.ownBlock]))).set1 (.inl (by simp [thW, Value.ownBlock]))) (((hO.store_ (k * 2) (.int .i64 y.b)).store_ (k * 2 + 1) (.int .i64 y.v)).as_ (fun j hj => wof_set wd k y j))).drew
    refine hK.out _ _ ⟨_, hX⟩ (fun _ => ?_)
    clear hK hHeld l1 c0 c1 f0 f1 m1 b0 b1 g0 g1 hO
    try simp only [Act.put, List.setIfInBounds_toArray, List.set_cons_zero, List.set_cons_succ]
    refine wpAnyH_done (by kernel_rfl) ?_ _
    go_wp2_with fail
    go_end0
    refine ⟨rfl, setW wd k y, fun j => ?_, hX.tail.tail⟩
    have e : n.u.toNat = k := by have := HK.out; omega
    rw [e, HY.out, HMV.out, HX.out]
    unfold setW
    by_cases hj : j = k
    · subst hj; rw [if_pos rfl]; split
      · rw [if_pos ⟨rfl, by assumption⟩]
      · rw [if_neg (fun h => by simp_all)]
    · rw [if_neg hj, if_neg (fun h => hj h.1)]
end Go.Proofs.YteefhiniamajkaaGreat
