/- The reference's yard lies in memory. The reference's yard: Tick, Lose. The reference's yard: New. The reference's yard: Deliver. -/
import Derived.Test.YteefhiniamajkaaGreatRyB
import Derived.Test.YteefhiniamajkaaGreatRyA
import Derived.Test.YteefhiniamajkaaGreatYdF
import Derived.BigQuiet
import Derived.Deep.RegionHeld3
import Derived.Deep.Cut
import Derived.IntWalk
namespace Go.Proofs.YteefhiniamajkaaGreat
set_option linter.unusedVariables false
set_option linter.unusedSimpArgs false
open Go.RowKit Go.ChangeShapes Go.WideShapes Go.ChangeAt
set_option maxRecDepth 100000
theorem results_F9 {w : World} {fn : Func} {r : Tmp} {T : TypeId} {d : TypeDesc} {b n : Nat} {f : Nat → Value} (h : fn.results = #[.cell r T]) (tmps : Array Value) (hp : tmps.getD r undef = .pointer (some ⟨b, 0, none⟩)) (hF : Fb w b n f) (hu : Tryz.prog.underlying T = some d) (hd : d.isRow = true) (hi : (Tryz.prog.info? T).map (·.size) = some n) :
    (results fn tmps).run Tryz.prog w = .ok (.agg (FA n f)) w := by
  have hp' : tmps[r]?.getD undef = .pointer (some ⟨b, 0, none⟩) := by simpa using hp
  simp [results, h, hp', asAddr, hF.loadV (T := T) 0 n f (by omega) (fun j hj => by rw [Nat.zero_add]) hu hd hi]
theorem HS.re {S : List Nat} {W w : World} {L L' : List Th} (h : HS S W w L) (hb : L'.flatMap Th.bs = L.flatMap Th.bs) (ha : ∀ t, t ∈ L' → t.at_ w) : HS S W w L' := ⟨ha, h.2.1, by rw [hb]; exact h.2.2.1, fun b hx => h.2.2.2 b (by rw [← hb]; exact hx)⟩
/-- A unit of the reference's yard: itself, its plane. -/
def thRU (ub pb : Nat) (u : Uy) : Th := ⟨fun w => Fb w ub 332 (urc pb u.p u.b) ∧ ∃ v, Fb w pb 460 (rpc u.up u.p v), [ub, pb], fun w w' h e => ⟨h.1.same (e ub (by simp)), h.2.imp fun v h2 => h2.same (e pb (by simp))⟩, fun w h x hx => by
  simp at hx
  rcases hx with rfl | rfl
  · exact h.1.1
  · exact h.2.elim fun _ h2 => h2.1⟩
theorem HS.openU {S : List Nat} {W w : World} {L : List Th} {ub pb : Nat} {u : Uy} (h : HS S W w (thRU ub pb u :: L)) : ∃ v, HS S W w (thB ub 332 (urc pb u.p u.b) :: thB pb 460 (rpc u.up u.p v) :: L) := by
  obtain ⟨h1, v, h2⟩ := h.1 (thRU ub pb u) (by simp)
  refine ⟨v, h.re (by simp [thRU, thB]) (fun t ht => ?_)⟩
  rcases List.mem_cons.1 ht with rfl | ht
  · exact h1
  · rcases List.mem_cons.1 ht with rfl | ht
    · exact h2
    · exact h.1 t (List.mem_cons_of_mem _ ht)
theorem HS.closeU {S : List Nat} {W w : World} {L : List Th} {ub pb : Nat} {u : Uy} {v : Value} (h : HS S W w (thB ub 332 (urc pb u.p u.b) :: thB pb 460 (rpc u.up u.p v) :: L)) : HS S W w (thRU ub pb u :: L) := by
  refine h.re (by simp [thRU, thB]) (fun t ht => ?_)
  rcases List.mem_cons.1 ht with rfl | ht
  · exact ⟨h.1 (thB ub 332 (urc pb u.p u.b)) (by simp), v, h.1 (thB pb 460 (rpc u.up u.p v)) (by simp)⟩
  · exact h.1 t (by simp [ht])
def ryc (hb : Nat) (U V : Value) (j : Nat) : Value := if j = 0 then .pointer (some ⟨hb, 0, none⟩) else if j = 1 then U else V
/-- Where the reference's yard lies. -/
structure Rl where
  Y : Nat
  hb : Nat
  ug : Nat
  uc : Nat
  U : Value
  bf : Nat → Nat × Nat
def rbV (bf : Nat → Nat × Nat) (j : Nat) : Value := .pointer (some ⟨(bf j).1, 0, none⟩)
def rUn (bf : Nat → Nat × Nat) (uf : Nat → Uy) (i : Nat) : Th := thRU (bf i).1 (bf i).2 (uf i)
def thUs (U : Value) (n : Nat) (bf : Nat → Nat × Nat) : Th := thW 0 81 1 U n (rbV bf)
def RL (D : Rl) (V Q : Value) (y : Yd) (R : List Th) : List Th := thB D.Y 3 (ryc D.hb D.U V) :: thNt V y.ns :: (thB D.hb 340 (rhc y.h.pl Q y.h.la (y.h.la.k != 0) (.slice (some ⟨D.ug, 0, none⟩) y.h.un D.uc))) :: thQ Q y.h.q :: thWd (.slice (some ⟨D.ug, 0, none⟩) y.h.un D.uc) y.h.un y.h.wd :: thUs D.U y.h.un D.bf :: ((List.range y.h.un).map (rUn D.bf y.uf) ++ R)
def RA (S : List Nat) (W w : World) (D : Rl) (y : Yd) (R : List Th) : Prop := ∃ V Q, HS S W w (RL D V Q y R)
section
variable {S : List Nat} {W w w' : World} {D : Rl} {y : Yd} {R : List Th} {V Q : Value}
theorem RA.below (h : RA S W w D y R) (hb : Below w.heap.size w w') : RA S W w' D y R := by
  obtain ⟨V, Q, hS⟩ := h
  exact ⟨V, Q, hS.below hb⟩
theorem RA.memR {t : Th} (h : RA S W w D y R) (ht : t ∈ R) : t.at_ w := by
  obtain ⟨V, Q, hS⟩ := h
  exact hS.1 t (by unfold RL; simp only [List.mem_cons, List.mem_append]; exact .inr (.inr (.inr (.inr (.inr (.inr (.inr ht)))))))
theorem RA.ch (h : RA S W w D y R) : Ch S W w := by
  obtain ⟨V, Q, hS⟩ := h
  exact hS.ch
theorem rl_c0 (hS : HS S W w (RL D V Q y R)) : w.cell? ⟨D.Y, 0, none⟩ = some (.pointer (some ⟨D.hb, 0, none⟩)) := (hS.fb 0 rfl).2.1 0 (by omega)
theorem rl_c1 (hS : HS S W w (RL D V Q y R)) : w.cell? ⟨D.Y, 1, none⟩ = some D.U := (hS.fb 0 rfl).2.1 1 (by omega)
theorem rl_c2 (hS : HS S W w (RL D V Q y R)) : w.cell? ⟨D.Y, 2, none⟩ = some V := (hS.fb 0 rfl).2.1 2 (by omega)
theorem rl_V (hS : HS S W w (RL D V Q y R)) : ∃ A c, V = .slice A y.ns.length c ∧ y.ns.length ≤ c := thW_form hS 1 rfl
theorem rl_U (hS : HS S W w (RL D V Q y R)) : ∃ A c, D.U = .slice A y.h.un c ∧ y.h.un ≤ c := thW_form hS 5 rfl
/-- A unit to the front. -/
def RLx (D : Rl) (V Q : Value) (y : Yd) (i : Nat) (R : List Th) : List Th := thB D.Y 3 (ryc D.hb D.U V) :: thNt V y.ns :: (thB D.hb 340 (rhc y.h.pl Q y.h.la (y.h.la.k != 0) (.slice (some ⟨D.ug, 0, none⟩) y.h.un D.uc))) :: thQ Q y.h.q :: thWd (.slice (some ⟨D.ug, 0, none⟩) y.h.un D.uc) y.h.un y.h.wd :: thUs D.U y.h.un D.bf :: ((((List.range y.h.un).map (rUn D.bf y.uf)).take i ++ ((List.range y.h.un).map (rUn D.bf y.uf)).drop (i + 1)) ++ R)
theorem rl_open {i : Nat} (hS : HS S W w (RL D V Q y R)) (hi : i < y.h.un) : HS S W w (thRU (D.bf i).1 (D.bf i).2 (y.uf i) :: RLx D V Q y i R) := by
  have e : (List.range y.h.un).map (rUn D.bf y.uf) = ((List.range y.h.un).map (rUn D.bf y.uf)).take i ++ rUn D.bf y.uf i :: ((List.range y.h.un).map (rUn D.bf y.uf)).drop (i + 1) := split_at (by simp [hi])
  unfold RL at hS
  rw [e] at hS
  exact hS.perm (pull (thB D.Y 3 (ryc D.hb D.U V) :: thNt V y.ns :: (thB D.hb 340 (rhc y.h.pl Q y.h.la (y.h.la.k != 0) (.slice (some ⟨D.ug, 0, none⟩) y.h.un D.uc))) :: thQ Q y.h.q :: thWd (.slice (some ⟨D.ug, 0, none⟩) y.h.un D.uc) y.h.un y.h.wd :: [thUs D.U y.h.un D.bf]) (((List.range y.h.un).map (rUn D.bf y.uf)).take i) (((List.range y.h.un).map (rUn D.bf y.uf)).drop (i + 1)) R (rUn D.bf y.uf i))
theorem rl_close {i : Nat} {u : Uy} (hS : HS S W w (thRU (D.bf i).1 (D.bf i).2 u :: RLx D V Q y i R)) (hi : i < y.h.un) : HS S W w (RL D V Q ⟨y.h, setU y.uf i u, y.ns⟩ R) := by
  have e1 : ((List.range y.h.un).map (rUn D.bf (setU y.uf i u))).take i = ((List.range y.h.un).map (rUn D.bf y.uf)).take i := by
    rw [← List.map_take, ← List.map_take]
    refine List.map_congr_left fun j hj => ?_
    have hji : j < i := by
      rw [List.take_range] at hj
      have := List.mem_range.1 hj
      omega
    unfold rUn setU
    rw [if_neg (by omega)]
  have e2 : ((List.range y.h.un).map (rUn D.bf (setU y.uf i u))).drop (i + 1) = ((List.range y.h.un).map (rUn D.bf y.uf)).drop (i + 1) := by
    rw [← List.map_drop, ← List.map_drop]
    refine List.map_congr_left fun j hj => ?_
    have hji : i < j := by
      rw [List.range_eq_range', List.drop_range'] at hj
      have := (List.mem_range'_1.1 hj).1
      omega
    unfold rUn setU
    rw [if_neg (by omega)]
  have e : (List.range y.h.un).map (rUn D.bf (setU y.uf i u)) = ((List.range y.h.un).map (rUn D.bf y.uf)).take i ++ thRU (D.bf i).1 (D.bf i).2 u :: ((List.range y.h.un).map (rUn D.bf y.uf)).drop (i + 1) := by
    have h1 := split_at (L := (List.range y.h.un).map (rUn D.bf (setU y.uf i u))) (k := i) (x := rUn D.bf (setU y.uf i u) i) (by simp [hi])
    rw [e1, e2] at h1
    rw [h1]
    congr 2
    unfold rUn setU
    rw [if_pos rfl]
  unfold RL
  show HS S W w (thB D.Y 3 (ryc D.hb D.U V) :: thNt V y.ns :: (thB D.hb 340 (rhc y.h.pl Q y.h.la (y.h.la.k != 0) (.slice (some ⟨D.ug, 0, none⟩) y.h.un D.uc))) :: thQ Q y.h.q :: thWd (.slice (some ⟨D.ug, 0, none⟩) y.h.un D.uc) y.h.un y.h.wd :: thUs D.U y.h.un D.bf :: ((List.range y.h.un).map (rUn D.bf (setU y.uf i u)) ++ R))
  rw [e]
  exact hS.perm (pull (thB D.Y 3 (ryc D.hb D.U V) :: thNt V y.ns :: (thB D.hb 340 (rhc y.h.pl Q y.h.la (y.h.la.k != 0) (.slice (some ⟨D.ug, 0, none⟩) y.h.un D.uc))) :: thQ Q y.h.q :: thWd (.slice (some ⟨D.ug, 0, none⟩) y.h.un D.uc) y.h.un y.h.wd :: [thUs D.U y.h.un D.bf]) (((List.range y.h.un).map (rUn D.bf y.uf)).take i) (((List.range y.h.un).map (rUn D.bf y.uf)).drop (i + 1)) R (thRU (D.bf i).1 (D.bf i).2 u)).symm
theorem info_ryd : (Tryz.prog.info? 80).map (·.size) = some 3 := by kernel_rfl
theorem build_ryd (hb : Nat) (w : World) : (Instr.build 80 #[(0, .pointer (some ⟨hb, 0, none⟩))]).run Tryz.prog w = .ok (.agg (FA 3 (ryc hb (.slice none 0 0) (.slice none 0 0)))) w := run_build w _ _ _ (by kernel_rfl)
theorem build_ru9 (pb : Nat) (w : World) : (Instr.build 85 #[(0, .pointer (some ⟨pb, 0, none⟩))]).run Tryz.prog w = .ok (.agg (FA 332 (urc pb zPl 0))) w := run_build w _ _ _ (by kernel_rfl)
theorem ry_v (hb : Nat) (U V X : Value) (j : Nat) (hj : j < 3) : patch (ryc hb U V) 2 1 (fun _ => X) j = ryc hb U X j := by
  unfold patch ryc
  by_cases h : j = 2
  · rw [if_pos (by omega), if_neg (by omega), if_neg (by omega)]
  · rw [if_neg (by omega)]
    split
    · rfl
    · split
      · rfl
      · omega
theorem ry_u (hb : Nat) (U V X : Value) (j : Nat) (hj : j < 3) : patch (ryc hb U V) 1 1 (fun _ => X) j = ryc hb X V j := by
  unfold patch ryc
  by_cases h : j = 1
  · rw [if_pos (by omega), if_neg (by omega), if_pos h]
  · rw [if_neg (by omega)]
    split
    · rfl
    · simp [h]
end
attribute [local irreducible] FA FL
section
variable {S : List Nat} {W w w' : World} {D : Rl} {y : Yd} {R : List Th} {V Q : Value}
theorem ra_notes (h : RA S W w D y R) : Calls Tryz.prog 40 #[.pointer (some ⟨D.Y, 0, none⟩)] w fun x w' => x = .returned (.int .i64 (y.ns.length : Int)) ∧ w = w' := by
  obtain ⟨V, Q, hS⟩ := h
  obtain ⟨A, c, hV, _⟩ := rl_V hS
  have c2 := rl_c2 hS
  rw [hV] at c2
  clear hS hV
  go_enter Tryz.func40, Tryz.ntmps40
  go_wp2_with fail
  go_ret
  exact ⟨rfl, rfl⟩
theorem ra_is (h : RA S W w D y R) (i : Int) : Calls Tryz.prog 61 #[.pointer (some ⟨D.Y, 0, none⟩), .int .i64 i] w fun x w' => x = .returned (.bool (decide (0 ≤ i) && decide (i < y.h.un))) ∧ w = w' := by
  obtain ⟨V, Q, hS⟩ := h
  obtain ⟨A, c, hU, _⟩ := rl_U hS
  have c1 := rl_c1 hS
  rw [hU] at c1
  clear hS hU
  by_cases h0 : 0 ≤ i
  · by_cases h1 : i < y.h.un
    · go_enter Tryz.func61, Tryz.ntmps61
      go_wp2_with fail
      go_ret
      exact ⟨by first | (simp [h0, h1]; done) | (simp; omega), rfl⟩
    · go_enter Tryz.func61, Tryz.ntmps61
      go_wp2_with fail
      go_ret
      exact ⟨by first | (simp [h0, h1]; done) | (simp; omega), rfl⟩
  · go_enter Tryz.func61, Tryz.ntmps61
    go_wp2_with fail
    go_ret
    exact ⟨by first | (simp [h0]; done) | (simp; omega), rfl⟩
theorem ra_verN (h : RA S W w D y R) (i : Int) (hi : ¬ (0 ≤ i ∧ i < y.h.un)) : Calls Tryz.prog 39 #[.pointer (some ⟨D.Y, 0, none⟩), .int .i64 i] w fun x w' => x = .returned (.tuple #[.int .i64 0, .bool false]) ∧ w = w' := by
  have IS := ra_is h i
  have e : (decide (0 ≤ i) && decide (i < y.h.un)) = false := by
    rw [Bool.and_eq_false_iff]
    by_cases h0 : 0 ≤ i
    · right; simp; omega
    · left; simp; omega
  rw [e] at IS
  have HI := hid IS
  clear IS h
  go_enter Tryz.func39, Tryz.ntmps39
  go_wp2_with fail
  refine HI.out.mono ?_
  rintro x w1 ⟨rfl, rfl⟩
  go_wp2_with fail
  go_ret2
  exact ⟨rfl, rfl⟩
theorem ra_ver (h : RA S W w D y R) (i : Nat) (hi : i < y.h.un) : Calls Tryz.prog 39 #[.pointer (some ⟨D.Y, 0, none⟩), .int .i64 (i : Int)] w fun x w' => x = .returned (.tuple #[.int .i64 (if (y.uf i).up = true then (y.uf i).p.v else 0), .bool (y.uf i).up]) ∧ Below w.heap.size w w' := by
  have IS := ra_is h (i : Int)
  have e : (decide ((0 : Int) ≤ i) && decide ((i : Int) < y.h.un)) = true := by simp; omega
  rw [e] at IS
  have HI := hid IS
  obtain ⟨V, Q, hS⟩ := h
  obtain ⟨A, c, hU, hc⟩ := rl_U hS
  have c1 := rl_c1 hS
  rw [hU] at c1
  have hO : Ow w 0 81 1 D.U y.h.un (rbV D.bf) := hS.nth 5 rfl
  rw [hU] at hO
  obtain ⟨g, hg, _, _, hcell, _⟩ := hO.block_ (by omega)
  subst hg
  have ci : w.cell? ⟨g, i, none⟩ = some (.pointer (some ⟨(D.bf i).1, 0, none⟩)) := hcell i (by omega)
  obtain ⟨v, hS2⟩ := (rl_open hS hi).openU
  have cu : w.cell? ⟨(D.bf i).1, 0, none⟩ = some (.pointer (some ⟨(D.bf i).2, 0, none⟩)) := (hS2.fb 0 rfl).2.1 0 (by omega)
  have RV := rp_ver (hS2.fb 1 rfl)
  generalize (if (y.uf i).up = true then (y.uf i).p.v else 0) = va at *
  generalize (y.uf i).up = bu at *
  replace RV := hid RV
  have i0 : (0 : Int) ≤ i := by omega
  have i1 : (i : Int) < y.h.un := by omega
  clear hS hS2 hO hcell IS hU e
  go_enter Tryz.func39, Tryz.ntmps39
  go_wp2_with fail
  refine HI.out.mono ?_
  rintro x w1 ⟨rfl, rfl⟩
  go_wp2_with fail
  refine RV.out.mono ?_
  rintro x w2 ⟨rfl, hb⟩
  go_simp
  go_wp2_with fail
  go_ret2
  exact ⟨rfl, hb⟩
theorem rh_pool2 (hF : Fb w D.hb 340 (rhc y.h.pl Q y.h.la (y.h.la.k != 0) V)) {L : List Th} (hS : HS S W w L) : Calls Tryz.prog 38 #[.pointer (some ⟨D.hb, 0, none⟩)] w fun x w' => x = .returned (.agg (FA 330 (pc y.h.pl))) ∧ HS S W w' L := by
  have HF := hid hF
  have S0 := hid hS
  have S00 := hid (HS.start (S := []) (W := w))
  clear hF hS
  go_enter Tryz.func38, Tryz.ntmps38
  go_upto_region 1 with ((with_reducible refine wl_id ?_); refine wl_ow rfl (ow_alloc rfl (zpl_fa _) (by omega) S00.out (fun U w_ hZ _ => ?_)); have S1 := hid hZ; clear hZ)
  apply wp_region_lit
  refine wl_val (v := ?_) rfl ?_ ?_; rotate_left; (focus ( go_simp; (try with_reducible rfl))); (try simp only [Act.put, List.setIfInBounds_toArray, List.set_cons_zero, List.set_cons_succ])
  refine wl_val (v := ?_) rfl ?_ ?_; rotate_left; (focus ( go_simp; (try with_reducible rfl))); (try simp only [Act.put, List.setIfInBounds_toArray, List.set_cons_zero, List.set_cons_succ])
  refine wl_val (v := ?_) rfl ?_ ?_; rotate_left; (focus ( go_simp; (try with_reducible rfl))); (try simp only [Act.put, List.setIfInBounds_toArray, List.set_cons_zero, List.set_cons_succ])
  refine wl_ow rfl (ow_val (ex_load rfl rfl ((HF.out.below S1.out.bl).load 0 330 (pc y.h.pl) (by omega) (rh_pool _ _ _ _ _) Tryz.underlying33 rfl info_pl)) ?_)
  try simp only [Act.put, List.setIfInBounds_toArray, List.set_cons_zero, List.set_cons_succ]
  refine wl_ow rfl (ow_store (A := []) 0 330 (pc y.h.pl) (pc y.h.pl) rfl rfl rfl S1.out (by omega) (fun j hj => patch_all _ _ _ j hj) info_pl (pc_one _) ?_)
  intro w3 hZ
  have S2 := hid hZ
  clear hZ
  try simp only [Act.put, List.setIfInBounds_toArray, List.set_cons_zero, List.set_cons_succ]
  go_wp2_with fail
  (try (first | refine end_then ?_ | refine then_norm ?_)); (try apply_assumption); (try refine wp_ret ?_); (repeat refine ret_then ?_); (show bodyPost _ _ _ _ _ _); exact bodyPost_ret (v := .agg (FA 330 (pc y.h.pl))) (results_F9 Tryz.results38 _ rfl (S2.out.fb 0 rfl) Tryz.underlying33 rfl info_pl) rfl ⟨rfl, S0.out.below S2.out.bl⟩
end
end Go.Proofs.YteefhiniamajkaaGreat
namespace Go.Proofs.YteefhiniamajkaaGreat
set_option linter.unusedVariables false
set_option linter.unusedSimpArgs false
open Go.RowKit Go.ChangeShapes Go.WideShapes Go.ChangeAt
set_option maxRecDepth 100000
section
variable {P : Program} {Q : Exit → Act → World → Prop} {md : Region.Mode} {S : World → Prop}
theorem threeUp9 (i j k : Nat) {L r1 r2 r3 : List Oper} {o1 o2 o3 : Oper} {fuel : Nat} {listed : Array Bool} {a : Act} {w : World} (h1 : L.drop i = o1 :: r1) (h2 : L.drop j = o2 :: r2) (h3 : L.drop k = o3 :: r3) (hr : Region.ready md L.toArray listed = [i, j, k])
    (w1 : Region.wanted o1 (yielded L.toArray a.tmps) = true) (w2 : Region.wanted o2 (yielded L.toArray a.tmps) = true) (w3 : Region.wanted o3 (yielded L.toArray a.tmps) = true)
    (k1 : ∀ K' : Act → World → Prop, Shut (∀ a w, S w → (S w → wpAnyH P md L.toArray Q S fuel (listed.setIfInBounds i true) a w) → K' a w) → Oper.wp P o1 a w K' Q)
    (k2 : ∀ K' : Act → World → Prop, Shut (∀ a w, S w → (S w → wpAnyH P md L.toArray Q S fuel (listed.setIfInBounds j true) a w) → K' a w) → Oper.wp P o2 a w K' Q)
    (k3 : ∀ K' : Act → World → Prop, Shut (∀ a w, S w → (S w → wpAnyH P md L.toArray Q S fuel (listed.setIfInBounds k true) a w) → K' a w) → Oper.wp P o3 a w K' Q) : wpAnyH P md L.toArray Q S (fuel + 1) listed a w :=
  wpAnyH_ready hr (by simp) (AllReadyH.cons (at_drop h1) (fun K hK => by rw [if_pos w1]; exact k1 K hK) (AllReadyH.cons (at_drop h2) (fun K hK => by rw [if_pos w2]; exact k2 K hK) (AllReadyH.cons (at_drop h3) (fun K hK => by rw [if_pos w3]; exact k3 K hK) AllReadyH.nil)))
end
section
variable {P : Program} {o : Oper} {w : World} {v : Value}
theorem ex_slice_h9 {f : Operand → Value} {T : TypeId} {x y : Operand} {u z : Value} (ho : o.op = .slice T x none (some y) none) (hx : f x = u) (hy : f y = z) (hT : P.underlying T = some (.slice (P.elem T))) (hl : (Instr.slice T u none (some z) none).run P w = .ok v w) : (execOp f o).run P w = .ok (.value v) w := by
  unfold execOp; simp only [ho, hx, hy, Option.map_some, Option.map_none, Sem.run_bind, run_sliceAt_slice _ _ _ _ _ _ hT, hl, Result.andThen_ok, Sem.run_pure]
theorem ex_slice_l9 {f : Operand → Value} {T : TypeId} {x y : Operand} {u z : Value} (ho : o.op = .slice T x (some y) none none) (hx : f x = u) (hy : f y = z) (hT : P.underlying T = some (.slice (P.elem T))) (hl : (Instr.slice T u (some z) none none).run P w = .ok v w) : (execOp f o).run P w = .ok (.value v) w := by
  unfold execOp; simp only [ho, hx, hy, Option.map_some, Option.map_none, Sem.run_bind, run_sliceAt_slice _ _ _ _ _ _ hT, hl, Result.andThen_ok, Sem.run_pure]
end
theorem elem_n9 : Tryz.prog.underlying 78 = some (.slice (Tryz.prog.elem 78)) := by kernel_rfl
theorem size_n9 (W : World) : (sizeOf (Tryz.prog.elem 78)).run Tryz.prog W = .ok 342 W := by kernel_rfl
theorem cut_hi9 (A : Option Addr) (n d c : Nat) (hc : c ≤ n) (hd : n ≤ d) : ∃ A' : Option Addr, (∀ W : World, (Instr.slice 78 (.slice A n d) none (some (.int .i64 (c : Int))) none).run Tryz.prog W = .ok (.slice A' c d) W) ∧ ∀ (w : World) (f : Nat → Value), Sl w A (n * 342) f → Sl w A' (c * 342) f := by
  refine ⟨if d = 0 then A else A.map (·.add 0), fun W => ?_, fun w f h => ?_⟩
  · rw [run_slice_h W 78 A n d elem_n9 .i64 (c : Int) (by omega) (by omega), size_n9 W]
    simp [Result.andThen, sliced]
  · intro h0
    obtain ⟨b, off, rfl, hb, hcell⟩ := h (by omega)
    refine ⟨b, off, ?_, hb, fun j hj => hcell j (by omega)⟩
    split
    · rfl
    · simp [add_plain]
theorem ntf_take (l : List Nt) (i j : Nat) (hi : i ≤ l.length) (hj : j < i * 342) : ntf l j = ntf (l.take i) j := by
  unfold ntf
  have h : j / 342 < i := by omega
  simp [List.getD, List.getElem?_take, h]
theorem ntf_drop (l : List Nt) (i j : Nat) : ntf l (i * 342 + j) = ntf (l.drop i) j := by
  unfold ntf
  rw [show (i * 342 + j) / 342 = i + j / 342 by omega, show (i * 342 + j) % 342 = j % 342 by omega]
  simp [List.getD, List.getElem?_drop]
theorem ntf_add (l m : List Nt) (f2 : Nat → Value) (hf : ∀ j, j < m.length * 342 → f2 j = ntf m j) (j : Nat) (hj : j < (l.length + m.length) * 342) : two (l.length * 342) (ntf l) f2 j = ntf (l ++ m) j := by
  unfold two
  by_cases h : j < l.length * 342
  · rw [if_pos h]
    unfold ntf
    have h2 : j / 342 < l.length := by omega
    simp [List.getD, List.getElem?_append_left h2]
  · rw [if_neg h, hf _ (by omega)]
    unfold ntf
    have h2 : l.length ≤ j / 342 := by omega
    rw [show (j - l.length * 342) / 342 = j / 342 - l.length by omega, show (j - l.length * 342) % 342 = j % 342 by omega]
    simp [List.getD, List.getElem?_append_right h2]
theorem run_bs09 (w : World) : (Instr.buildSlice 78 0 #[]).run Tryz.prog w = .ok (.slice (some ⟨w.heap.size, 0, none⟩) 0 0) (w.alloc (.cells #[] 88)) := by
  go_simp
section
variable {S : List Nat} {W w : World} {L A B : List Th} {Q : Exit → Act → World → Prop} {o : Oper} {a : Act} {K : Act → World → Prop}
theorem ow_bs09 (ho : o.op = .buildSlice 78 0 #[]) (hS : HS S W w L) (h : ∀ X w', HS S W w' (thNt X [] :: L) → K (a.put o.dst X) w') : o.wp Tryz.prog a w K Q := by
  refine ow_val (v := .slice (some ⟨w.heap.size, 0, none⟩) 0 0) (w' := w.alloc (.cells #[] 88)) ?_ (h _ _ (hS.new (thNt (.slice (some ⟨w.heap.size, 0, none⟩) 0 0) []) ((Below.refl _ _).alloc (Nat.le_refl _) _) (Ow.new (Nat.zero_le _)) (by simp [thNt, thW, Value.ownBlock]) (fun b hb => by simp [thNt, thW, Value.ownBlock] at hb; omega)))
  unfold execOp
  simp only [ho, List.map_toArray, List.map_nil, Sem.run_bind, run_bs09, Result.andThen_ok, Sem.run_pure]
theorem ow_appN9 (s x : Operand) (ho : o.op = .call { callee := .builtin .append, args := #[s, x], argTypes := #[78, 78] }) {V : Value} {l m : List Nt} (hs : a.eval s = V) {X : Option Addr} {k c : Nat} (hx : a.eval x = .slice X k c) {f2 : Nat → Value} (hS : HS S W w (A ++ thNt V l :: B)) (hr : Sl w X (k * 342) f2) (h1 : ∀ j, (f2 j).oneCell' = true) (hk : k = m.length) (hf : ∀ j, j < m.length * 342 → f2 j = ntf m j) (hl : l.length + m.length ≤ 2000000)
    (h : ∀ V' w', HS S W w' (A ++ thNt V' (l ++ m) :: B) → K (a.put o.dst V') w') : o.wp Tryz.prog a w K Q := by
  subst hk
  obtain ⟨i0, hi, hz0, hz1, hz2⟩ := info_parts info_nt2f
  refine ow_appW s x ho (B := 0) (z := .agg (NA zNt)) (bytes := 2728) Tryz.underlying78 hi hz0 hz1 hz2 (na_size _) (by decide) hs hx (f2 := f2) hS hr (fun j _ => h1 j) (by simp only [maxLen]; omega) (by omega) (Nat.zero_le _) (ntf (l ++ m)) (fun j hj => ntf_add l m f2 hf j hj) (fun A' c' w' hS' _ _ => ?_)
  refine h _ _ ?_
  have e : thNt (.slice A' (l.length + m.length) c') (l ++ m) = thW 0 88 342 (.slice A' (l.length + m.length) c') (l.length + m.length) (ntf (l ++ m)) := by unfold thNt; rw [List.length_append]
  rw [e]
  exact hS'
end
theorem perm_t {α : Type} (a b c d e : α) (X : List α) : (a :: b :: c :: d :: e :: X).Perm (c :: d :: e :: a :: b :: X) := by
  classical
  rw [List.perm_iff_count]
  intro x
  simp only [List.count_cons]
  ac_rfl
section
variable {S : List Nat} {W w w' : World} {D : Rl} {y : Yd} {R : List Th} {V Q : Value} {t : Th}
theorem rl_in (h : HS S W w (t :: RL D V Q y R)) : HS S W w (RL D V Q y (t :: R)) := by
  unfold RL at h ⊢
  refine h.perm ?_
  have := (List.perm_middle (a := t) (l₁ := thB D.Y 3 (ryc D.hb D.U V) :: thNt V y.ns :: (thB D.hb 340 (rhc y.h.pl Q y.h.la (y.h.la.k != 0) (.slice (some ⟨D.ug, 0, none⟩) y.h.un D.uc))) :: thQ Q y.h.q :: thWd (.slice (some ⟨D.ug, 0, none⟩) y.h.un D.uc) y.h.un y.h.wd :: thUs D.U y.h.un D.bf :: ((List.range y.h.un).map (rUn D.bf y.uf))) (l₂ := R)).symm
  simpa [List.append_assoc] using this
theorem rl_out (h : HS S W w (RL D V Q y (t :: R))) : HS S W w (t :: RL D V Q y R) := by
  unfold RL at h ⊢
  refine h.perm ?_
  have := (List.perm_middle (a := t) (l₁ := thB D.Y 3 (ryc D.hb D.U V) :: thNt V y.ns :: (thB D.hb 340 (rhc y.h.pl Q y.h.la (y.h.la.k != 0) (.slice (some ⟨D.ug, 0, none⟩) y.h.un D.uc))) :: thQ Q y.h.q :: thWd (.slice (some ⟨D.ug, 0, none⟩) y.h.un D.uc) y.h.un y.h.wd :: thUs D.U y.h.un D.bf :: ((List.range y.h.un).map (rUn D.bf y.uf))) (l₂ := R))
  simpa [List.append_assoc] using this
end
attribute [local irreducible] FA FL
section
variable {S : List Nat} {W w w' : World} {D : Rl} {y : Yd} {R : List Th} {V Q : Value}
theorem rl_tick {N V2 V1 : Value} {l : List Nt} (hl : l = notesK (sendH y.h) y.h.un) (hS : HS S W w (thNt N l :: thB D.hb 340 (rhc (sendH y.h).pl V1 (sendH y.h).la ((sendH y.h).la.k != 0) (.slice (some ⟨D.ug, 0, none⟩) y.h.un D.uc)) :: thQ V1 (sendH y.h).q :: thWd (.slice (some ⟨D.ug, 0, none⟩) y.h.un D.uc) y.h.un y.h.wd :: thB D.Y 3 (ryc D.hb D.U V2) :: thNt V2 (y.ns ++ l) :: thUs D.U y.h.un D.bf :: ((List.range y.h.un).map (rUn D.bf y.uf) ++ R))) : RA S W w D (tickY y) R := by
  subst hl
  refine ⟨V2, V1, ?_⟩
  unfold RL tickY
  simp only [sendH_un, sendH_wd]
  exact hS.tail.perm (perm_t _ _ _ _ _ _).symm
set_option maxHeartbeats 16000000 in
theorem ra_tick (h : RA S W w D y R) (hu : 1 ≤ y.h.un ∧ y.h.un ≤ 16) (hp : PB y.h.pl) (hok : ∀ e t, y.h.q = e :: t → (apR y.h.pl e).2 = 0 ∧ (e.k != 0) = true) (hlq : y.h.q.length ≤ 1000) (hv2 : 0 ≤ (sendH y.h).pl.v ∧ (sendH y.h).pl.v ≤ 1000000000) (hn : y.ns.length ≤ 900000) : Calls Tryz.prog 13 #[.pointer (some ⟨D.Y, 0, none⟩)] w fun x w' => x = .returned (.int .i64 ((tickY y).ns.length : Int)) ∧ RA S W w' D (tickY y) R := by
  obtain ⟨V, Q, hS⟩ := h
  unfold RL at hS
  have S0 := hid (hS.perm (perm_t _ _ _ _ _ _))
  clear hS
  obtain ⟨l, hl⟩ : ∃ l, l = notesK (sendH y.h) y.h.un := ⟨_, rfl⟩
  have hll : l.length ≤ 16 := by rw [hl]; exact Nat.le_trans (notesK_len _ _) hu.2
  have LL := hid hll
  have NL := hid hn
  have HL := hid hl
  have TL := hid (show ((tickY y).ns.length : Int) = ((y.ns ++ l).length : Int) from by rw [hl]; rfl)
  obtain ⟨X, hX⟩ : ∃ X, X = thUs D.U y.h.un D.bf :: ((List.range y.h.un).map (rUn D.bf y.uf) ++ R) := ⟨_, rfl⟩
  have HX := hid hX
  rw [← hX] at S0
  have SND := fun (w' : World) (h' : HS S W w' (thB D.hb 340 (rhc y.h.pl Q y.h.la (y.h.la.k != 0) (.slice (some ⟨D.ug, 0, none⟩) y.h.un D.uc)) :: thQ Q y.h.q :: thWd (.slice (some ⟨D.ug, 0, none⟩) y.h.un D.uc) y.h.un y.h.wd :: thB D.Y 3 (ryc D.hb D.U V) :: thNt V y.ns :: X)) => rh_send h' hu hp hok hlq hv2
  replace SND := hid SND
  clear hl hll hn hX hu hp hok hlq hv2
  go_enter Tryz.func13, Tryz.ntmps13
  go_upto_region 1 with (fail)
  refine wp_region_held_drew (S := fun (w' : World) => w'.cell? ⟨D.Y, 0, none⟩ = some (.pointer (some ⟨D.hb, 0, none⟩))) (by kernel_rfl) ?_ (fun hHeld => ?_)
  · exact (S0.out.drew.fb 3 rfl).2.1 0 (by omega)
  have F0 := S0.out.drew
  refine tkq 0 hHeld ?_
  refine tkq 1 hHeld ?_
  refine tkq 2 hHeld ?_
  refine tkq 3 hHeld ?_
  refine tkq 5 hHeld ?_
  refine tkq 6 hHeld ?_
  refine tkq 7 hHeld ?_
  refine tkq 8 hHeld ?_
  refine twoUp 4 9 rfl rfl (by kernel_rfl) rfl rfl (fun K hK => ?_) (fun K hK => ?_)
  · skip
    have c2 : _ = some V := (F0.fb 3 rfl).2.1 2 (by omega)
    refine ov_val (v := V) (by go_simp) ?_
    refine hK.out _ _ (F0.fb 3 rfl |>.2.1 0 (by omega)) (fun _ => ?_)
    clear hK
    try simp only [Act.put, List.setIfInBounds_toArray, List.set_cons_zero, List.set_cons_succ]
    clear c2
    refine only 9 rfl (by kernel_rfl) rfl (fun K hK => ?_)
    go_simp
    refine (SND.out _ F0).mono ?_
    rintro x w4 ⟨V1, N, H, rfl, rfl, F1⟩
    rw [← HL.out] at F1
    try go_wp2_with fail
    refine hK.out _ _ ((F1.fb 4 rfl).2.1 0 (by omega)) (fun h4 => ?_)
    clear hK
    try simp only [Act.put, List.setIfInBounds_toArray, List.set_cons_zero, List.set_cons_succ]
    refine only 10 rfl (by kernel_rfl) rfl (fun K hK => ?_)
    obtain ⟨A2, c2', hN, _⟩ := thW_form F1 0 rfl
    subst hN
    refine ow_appN9 (A := [thNt (.slice A2 l.length c2') l, thB D.hb 340 (rhc (sendH y.h).pl V1 (sendH y.h).la ((sendH y.h).la.k != 0) (.slice (some ⟨D.ug, 0, none⟩) y.h.un D.uc)), thQ V1 (sendH y.h).q, thWd (.slice (some ⟨D.ug, 0, none⟩) y.h.un D.uc) y.h.un y.h.wd, thB D.Y 3 (ryc D.hb D.U V)]) (B := X) (.tmp 7) (.tmp 12) rfl (m := l) rfl rfl (f2 := ntf l) F1 (Ow.sl (show Ow _ 0 _ _ (.slice A2 l.length c2') l.length (ntf l) from F1.nth 0 rfl)) (fun j => ntc_one _ _) rfl (fun j _ => rfl) (by have := LL.out; have := NL.out; omega) (fun V2 w5 F2 => ?_)
    refine hK.out _ _ ((F2.fb 4 rfl).2.1 0 (by omega)) (fun h5 => ?_)
    clear hK
    try simp only [Act.put, List.setIfInBounds_toArray, List.set_cons_zero, List.set_cons_succ]
    refine tkq 11 h5 ?_
    refine tkq 12 h5 ?_
    refine only 13 rfl (by kernel_rfl) rfl (fun K hK => ?_)
    obtain ⟨A3, c3, hV2, _⟩ := thW_form F2 5 rfl
    subst hV2
    have c2 : _ = some V := (F2.fb 4 rfl).2.1 2 (by omega)
    have z2 := (F2.fb 4 rfl).2.2 2
    refine ov_store rfl rfl rfl (w' := w5.setCell ⟨D.Y, 2, none⟩ (.slice A3 (y.ns ++ l).length c3)) (by go_simp) ?_
    have F3 := HS.set1v (A := [thNt (.slice A2 l.length c2') l, thB D.hb 340 (rhc (sendH y.h).pl V1 (sendH y.h).la ((sendH y.h).la.k != 0) (.slice (some ⟨D.ug, 0, none⟩) y.h.un D.uc)), thQ V1 (sendH y.h).q, thWd (.slice (some ⟨D.ug, 0, none⟩) y.h.un D.uc) y.h.un y.h.wd]) F2 2 (.slice A3 (y.ns ++ l).length c3) (by omega) (ryc D.hb D.U (.slice A3 (y.ns ++ l).length c3)) (fun j hj => ry_v _ _ _ _ j hj)
    generalize w5.setCell ⟨D.Y, 2, none⟩ (.slice A3 (y.ns ++ l).length c3) = w6 at *
    refine hK.out _ _ ((F3.fb 4 rfl).2.1 0 (by omega)) (fun _ => ?_)
    clear hK
    try simp only [Act.put, List.setIfInBounds_toArray, List.set_cons_zero, List.set_cons_succ]
    clear c2 z2 F2 F1
    have c2 : _ = some (Value.slice A3 (y.ns ++ l).length c3) := (F3.fb 4 rfl).2.1 2 (by omega)
    refine wpAnyH_done (by kernel_rfl) ?_ _
    go_wp2_with fail
    go_ret
    exact ⟨by rw [TL.out, List.length_append, Int.natCast_add]; rfl, rl_tick HL.out (by rw [HX.out] at F3; exact F3)⟩
  · skip
    go_simp
    refine (SND.out _ F0).mono ?_
    rintro x w4 ⟨V1, N, H, rfl, rfl, F1⟩
    rw [← HL.out] at F1
    try go_wp2_with fail
    refine hK.out _ _ ((F1.fb 4 rfl).2.1 0 (by omega)) (fun h4 => ?_)
    clear hK
    try simp only [Act.put, List.setIfInBounds_toArray, List.set_cons_zero, List.set_cons_succ]
    refine only 4 rfl (by kernel_rfl) rfl (fun K hK => ?_)
    have c2 : _ = some V := (F1.fb 4 rfl).2.1 2 (by omega)
    refine ov_val (v := V) (by go_simp) ?_
    refine hK.out _ _ (F1.fb 4 rfl |>.2.1 0 (by omega)) (fun _ => ?_)
    clear hK
    try simp only [Act.put, List.setIfInBounds_toArray, List.set_cons_zero, List.set_cons_succ]
    clear c2
    refine only 10 rfl (by kernel_rfl) rfl (fun K hK => ?_)
    obtain ⟨A2, c2', hN, _⟩ := thW_form F1 0 rfl
    subst hN
    refine ow_appN9 (A := [thNt (.slice A2 l.length c2') l, thB D.hb 340 (rhc (sendH y.h).pl V1 (sendH y.h).la ((sendH y.h).la.k != 0) (.slice (some ⟨D.ug, 0, none⟩) y.h.un D.uc)), thQ V1 (sendH y.h).q, thWd (.slice (some ⟨D.ug, 0, none⟩) y.h.un D.uc) y.h.un y.h.wd, thB D.Y 3 (ryc D.hb D.U V)]) (B := X) (.tmp 7) (.tmp 12) rfl (m := l) rfl rfl (f2 := ntf l) F1 (Ow.sl (show Ow _ 0 _ _ (.slice A2 l.length c2') l.length (ntf l) from F1.nth 0 rfl)) (fun j => ntc_one _ _) rfl (fun j _ => rfl) (by have := LL.out; have := NL.out; omega) (fun V2 w5 F2 => ?_)
    refine hK.out _ _ ((F2.fb 4 rfl).2.1 0 (by omega)) (fun h5 => ?_)
    clear hK
    try simp only [Act.put, List.setIfInBounds_toArray, List.set_cons_zero, List.set_cons_succ]
    refine tkq 11 h5 ?_
    refine tkq 12 h5 ?_
    refine only 13 rfl (by kernel_rfl) rfl (fun K hK => ?_)
    obtain ⟨A3, c3, hV2, _⟩ := thW_form F2 5 rfl
    subst hV2
    have c2 : _ = some V := (F2.fb 4 rfl).2.1 2 (by omega)
    have z2 := (F2.fb 4 rfl).2.2 2
    refine ov_store rfl rfl rfl (w' := w5.setCell ⟨D.Y, 2, none⟩ (.slice A3 (y.ns ++ l).length c3)) (by go_simp) ?_
    have F3 := HS.set1v (A := [thNt (.slice A2 l.length c2') l, thB D.hb 340 (rhc (sendH y.h).pl V1 (sendH y.h).la ((sendH y.h).la.k != 0) (.slice (some ⟨D.ug, 0, none⟩) y.h.un D.uc)), thQ V1 (sendH y.h).q, thWd (.slice (some ⟨D.ug, 0, none⟩) y.h.un D.uc) y.h.un y.h.wd]) F2 2 (.slice A3 (y.ns ++ l).length c3) (by omega) (ryc D.hb D.U (.slice A3 (y.ns ++ l).length c3)) (fun j hj => ry_v _ _ _ _ j hj)
    generalize w5.setCell ⟨D.Y, 2, none⟩ (.slice A3 (y.ns ++ l).length c3) = w6 at *
    refine hK.out _ _ ((F3.fb 4 rfl).2.1 0 (by omega)) (fun _ => ?_)
    clear hK
    try simp only [Act.put, List.setIfInBounds_toArray, List.set_cons_zero, List.set_cons_succ]
    clear c2 z2 F2 F1
    have c2 : _ = some (Value.slice A3 (y.ns ++ l).length c3) := (F3.fb 4 rfl).2.1 2 (by omega)
    refine wpAnyH_done (by kernel_rfl) ?_ _
    go_wp2_with fail
    go_ret
    exact ⟨by rw [TL.out, List.length_append, Int.natCast_add]; rfl, rl_tick HL.out (by rw [HX.out] at F3; exact F3)⟩
end
section
variable {S : List Nat} {W w w' : World} {D : Rl} {y : Yd} {R : List Th} {V Q : Value}
set_option maxHeartbeats 16000000 in
theorem ra_lose (h : RA S W w D y R) (i : Nat) (hi : i < y.ns.length) (hn : y.ns.length ≤ 900000) : Calls Tryz.prog 34 #[.pointer (some ⟨D.Y, 0, none⟩), .int .i64 (i : Int)] w fun x w' => x = .returned (.bool true) ∧ RA S W w' D (loY y i) R := by
  obtain ⟨V, Q, hS⟩ := h
  obtain ⟨A, c, hV, hc⟩ := rl_V hS
  subst hV
  obtain ⟨n, hn0⟩ : ∃ n, n = y.ns.length := ⟨_, rfl⟩
  have HN0 := hid hn0
  rw [← hn0] at hi hn hc hS
  have HI := hid hi
  have HN := hid hn
  have i0 : (0 : Int) ≤ i := by omega
  have i1 : (i : Int) < n := by omega
  have x1 : IntKind.i64.wrap ((i : Int) + 1) = ((i + 1 : Nat) : Int) := by rw [IntWalk.i64_in _ (by omega)]; omega
  have c2 : w.cell? ⟨D.Y, 2, none⟩ = some (.slice A n c) := rl_c2 hS
  obtain ⟨A1, ct1, cs1⟩ := cut_hi9 A n c i (by omega) hc
  obtain ⟨A2, ct2, cs2⟩ := cut_from elem_n9 size_n9 A n c (i + 1) (by omega) hc ((i + 1 : Nat) : Int) rfl
  have CT1 := hid ct1
  have CT2 := hid ct2
  have CS1 := hid cs1
  have CS2 := hid cs2
  clear ct1 ct2 cs1 cs2
  unfold RL at hS
  have LO := hid (fun w' V2 (h' : HS S W w' (thB D.Y 3 (ryc D.hb D.U V2) :: thNt V2 (y.ns.take i ++ y.ns.drop (i + 1)) :: ((thB D.hb 340 (rhc y.h.pl Q y.h.la (y.h.la.k != 0) (.slice (some ⟨D.ug, 0, none⟩) y.h.un D.uc))) :: thQ Q y.h.q :: thWd (.slice (some ⟨D.ug, 0, none⟩) y.h.un D.uc) y.h.un y.h.wd :: thUs D.U y.h.un D.bf :: ((List.range y.h.un).map (rUn D.bf y.uf) ++ R)))) => (show RA S W w' D (loY y i) R from by
    refine ⟨V2, Q, ?_⟩
    rw [← List.eraseIdx_eq_take_drop_succ] at h'
    exact h'))
  generalize ((thB D.hb 340 (rhc y.h.pl Q y.h.la (y.h.la.k != 0) (.slice (some ⟨D.ug, 0, none⟩) y.h.un D.uc))) :: thQ Q y.h.q :: thWd (.slice (some ⟨D.ug, 0, none⟩) y.h.un D.uc) y.h.un y.h.wd :: thUs D.U y.h.un D.bf :: ((List.range y.h.un).map (rUn D.bf y.uf) ++ R)) = X at hS LO
  have S0 := hid hS
  clear hS hi hn hc hn0
  go_enter Tryz.func34, Tryz.ntmps34
  go_upto_region 3 with (fail)
  clear c2
  refine wp_region_held_drew (S := fun (w' : World) => True) (by kernel_rfl) ?_ (fun hHeld => ?_)
  · exact trivial
  have F0 := S0.out.drew
  refine tkq 0 hHeld ?_
  refine tkq 2 hHeld ?_
  refine tkq 3 hHeld ?_
  refine tkq 4 hHeld ?_
  refine tkq 6 hHeld ?_
  refine tkq 9 hHeld ?_
  refine tkq 10 hHeld ?_
  refine tkq 11 hHeld ?_
  refine tkq 13 hHeld ?_
  refine tkq 14 hHeld ?_
  refine threeUp9 1 5 12 rfl rfl rfl (by kernel_rfl) rfl rfl rfl (fun K hK => ?_) (fun K hK => ?_) (fun K hK => ?_)
  · skip
    refine ow_bs09 rfl F0 (fun N w4 F1 => ?_)
    refine hK.out _ _ (trivial) (fun _ => ?_)
    clear hK
    try simp only [Act.put, List.setIfInBounds_toArray, List.set_cons_zero, List.set_cons_succ]
    refine twoUp 5 12 rfl rfl (by kernel_rfl) rfl rfl (fun K hK => ?_) (fun K hK => ?_)
    · skip
      have c2 : _ = some (Value.slice A n c) := (F1.fb 1 rfl).2.1 2 (by omega)
      refine ov_val (v := .slice A n c) (by go_simp) ?_
      refine hK.out _ _ (trivial) (fun _ => ?_)
      clear hK
      try simp only [Act.put, List.setIfInBounds_toArray, List.set_cons_zero, List.set_cons_succ]
      clear c2
      refine tk 7 (v := (.slice A1 i c)) rfl (by kernel_rfl) (by kernel_rfl) (by kernel_rfl) (fun _ _ _ h => h) rfl (fun w hSw => ex_slice_h9 rfl rfl rfl elem_n9 (CT1.out w)) trivial ?_; (try simp only [Act.put, List.setIfInBounds_toArray, List.set_cons_zero, List.set_cons_succ])
      refine twoUp 8 12 rfl rfl (by kernel_rfl) rfl rfl (fun K hK => ?_) (fun K hK => ?_)
      · skip
        have e1 : ([] ++ y.ns.take i) = y.ns.take i := rfl
        refine ow_appN9 (A := []) (.tmp 17) (.tmp 23) rfl (m := y.ns.take i) (l := []) rfl rfl (f2 := ntf y.ns) F1 (CS1.out _ _ (Ow.sl (show Ow _ 0 _ _ (.slice A n c) n (ntf y.ns) from by rw [HN0.out]; rw [HN0.out] at F1; exact F1.nth 2 rfl))) (fun j => ntc_one _ _) (by have := HI.out; have := HN0.out; simp; omega) (fun j hj => ntf_take _ _ j (by have := HI.out; have := HN0.out; omega) (by have := HI.out; have := HN0.out; simp at hj; omega)) (by have := HN.out; have := HN0.out; simp; omega) (fun N1 w5 F2 => ?_)
        refine hK.out _ _ (trivial) (fun _ => ?_)
        clear hK
        try simp only [Act.put, List.setIfInBounds_toArray, List.set_cons_zero, List.set_cons_succ]
        refine only 12 rfl (by kernel_rfl) rfl (fun K hK => ?_)
        have c2 : _ = some (Value.slice A n c) := (F2.fb 1 rfl).2.1 2 (by omega)
        refine ov_val (v := .slice A n c) (by go_simp) ?_
        refine hK.out _ _ (trivial) (fun _ => ?_)
        clear hK
        try simp only [Act.put, List.setIfInBounds_toArray, List.set_cons_zero, List.set_cons_succ]
        clear c2
        refine tk 15 (v := (.slice A2 (n - (i + 1)) (c - (i + 1)))) rfl (by kernel_rfl) (by kernel_rfl) (by kernel_rfl) (fun _ _ _ h => h) rfl (fun w hSw => ex_slice_l9 rfl rfl rfl elem_n9 (CT2.out w)) trivial ?_; (try simp only [Act.put, List.setIfInBounds_toArray, List.set_cons_zero, List.set_cons_succ])
        refine only 16 rfl (by kernel_rfl) rfl (fun K hK => ?_)
        refine ow_appN9 (A := []) (.tmp 24) (.tmp 31) rfl (m := y.ns.drop (i + 1)) rfl rfl (f2 := fun j => ntf y.ns ((i + 1) * 342 + j)) F2 (CS2.out _ _ (Ow.sl (show Ow _ 0 _ _ (.slice A n c) n (ntf y.ns) from by rw [HN0.out]; rw [HN0.out] at F2; exact F2.nth 2 rfl))) (fun j => ntc_one _ _) (by have := HI.out; have := HN0.out; simp; omega) (fun j hj => ntf_drop _ _ j) (by have := HN.out; have := HN0.out; simp; omega) (fun N2 w6 F3 => ?_)
        refine hK.out _ _ (trivial) (fun _ => ?_)
        clear hK
        try simp only [Act.put, List.setIfInBounds_toArray, List.set_cons_zero, List.set_cons_succ]
        refine tkq 17 trivial ?_
        refine tkq 18 trivial ?_
        refine only 19 rfl (by kernel_rfl) rfl (fun K hK => ?_)
        obtain ⟨A3, c3, hN2, _⟩ := thW_form F3 0 rfl
        subst hN2
        have c2 : _ = some (Value.slice A n c) := (F3.fb 1 rfl).2.1 2 (by omega)
        have z2 := (F3.fb 1 rfl).2.2 2
        refine ov_store rfl rfl rfl (w' := w6.setCell ⟨D.Y, 2, none⟩ (.slice A3 (y.ns.take i ++ y.ns.drop (i + 1)).length c3)) (by go_simp) ?_
        have F4 := HS.set1v (A := [thNt (.slice A3 (y.ns.take i ++ y.ns.drop (i + 1)).length c3) (y.ns.take i ++ y.ns.drop (i + 1))]) F3 2 (.slice A3 (y.ns.take i ++ y.ns.drop (i + 1)).length c3) (by omega) (ryc D.hb D.U (.slice A3 (y.ns.take i ++ y.ns.drop (i + 1)).length c3)) (fun j hj => ry_v _ _ _ _ j hj)
        generalize w6.setCell ⟨D.Y, 2, none⟩ (.slice A3 (y.ns.take i ++ y.ns.drop (i + 1)).length c3) = w7 at *
        refine hK.out _ _ (trivial) (fun _ => ?_)
        clear hK
        try simp only [Act.put, List.setIfInBounds_toArray, List.set_cons_zero, List.set_cons_succ]
        clear c2 z2 F3 F2 F1
        refine wpAnyH_done (by kernel_rfl) ?_ _
        go_wp2_with fail
        go_ret
        exact ⟨rfl, LO.out _ _ ((HS.drop (A := [thNt (.slice A3 (y.ns.take i ++ y.ns.drop (i + 1)).length c3) (y.ns.take i ++ y.ns.drop (i + 1)), thB D.Y 3 (ryc D.hb D.U (.slice A3 (y.ns.take i ++ y.ns.drop (i + 1)).length c3))]) F4).perm (List.Perm.swap _ _ _))⟩
      · skip
        have c2 : _ = some (Value.slice A n c) := (F1.fb 1 rfl).2.1 2 (by omega)
        refine ov_val (v := .slice A n c) (by go_simp) ?_
        refine hK.out _ _ (trivial) (fun _ => ?_)
        clear hK
        try simp only [Act.put, List.setIfInBounds_toArray, List.set_cons_zero, List.set_cons_succ]
        clear c2
        refine tk 15 (v := (.slice A2 (n - (i + 1)) (c - (i + 1)))) rfl (by kernel_rfl) (by kernel_rfl) (by kernel_rfl) (fun _ _ _ h => h) rfl (fun w hSw => ex_slice_l9 rfl rfl rfl elem_n9 (CT2.out w)) trivial ?_; (try simp only [Act.put, List.setIfInBounds_toArray, List.set_cons_zero, List.set_cons_succ])
        refine only 8 rfl (by kernel_rfl) rfl (fun K hK => ?_)
        have e1 : ([] ++ y.ns.take i) = y.ns.take i := rfl
        refine ow_appN9 (A := []) (.tmp 17) (.tmp 23) rfl (m := y.ns.take i) (l := []) rfl rfl (f2 := ntf y.ns) F1 (CS1.out _ _ (Ow.sl (show Ow _ 0 _ _ (.slice A n c) n (ntf y.ns) from by rw [HN0.out]; rw [HN0.out] at F1; exact F1.nth 2 rfl))) (fun j => ntc_one _ _) (by have := HI.out; have := HN0.out; simp; omega) (fun j hj => ntf_take _ _ j (by have := HI.out; have := HN0.out; omega) (by have := HI.out; have := HN0.out; simp at hj; omega)) (by have := HN.out; have := HN0.out; simp; omega) (fun N1 w5 F2 => ?_)
        refine hK.out _ _ (trivial) (fun _ => ?_)
        clear hK
        try simp only [Act.put, List.setIfInBounds_toArray, List.set_cons_zero, List.set_cons_succ]
        refine only 16 rfl (by kernel_rfl) rfl (fun K hK => ?_)
        refine ow_appN9 (A := []) (.tmp 24) (.tmp 31) rfl (m := y.ns.drop (i + 1)) rfl rfl (f2 := fun j => ntf y.ns ((i + 1) * 342 + j)) F2 (CS2.out _ _ (Ow.sl (show Ow _ 0 _ _ (.slice A n c) n (ntf y.ns) from by rw [HN0.out]; rw [HN0.out] at F2; exact F2.nth 2 rfl))) (fun j => ntc_one _ _) (by have := HI.out; have := HN0.out; simp; omega) (fun j hj => ntf_drop _ _ j) (by have := HN.out; have := HN0.out; simp; omega) (fun N2 w6 F3 => ?_)
        refine hK.out _ _ (trivial) (fun _ => ?_)
        clear hK
        try simp only [Act.put, List.setIfInBounds_toArray, List.set_cons_zero, List.set_cons_succ]
        refine tkq 17 trivial ?_
        refine tkq 18 trivial ?_
        refine only 19 rfl (by kernel_rfl) rfl (fun K hK => ?_)
        obtain ⟨A3, c3, hN2, _⟩ := thW_form F3 0 rfl
        subst hN2
        have c2 : _ = some (Value.slice A n c) := (F3.fb 1 rfl).2.1 2 (by omega)
        have z2 := (F3.fb 1 rfl).2.2 2
        refine ov_store rfl rfl rfl (w' := w6.setCell ⟨D.Y, 2, none⟩ (.slice A3 (y.ns.take i ++ y.ns.drop (i + 1)).length c3)) (by go_simp) ?_
        have F4 := HS.set1v (A := [thNt (.slice A3 (y.ns.take i ++ y.ns.drop (i + 1)).length c3) (y.ns.take i ++ y.ns.drop (i + 1))]) F3 2 (.slice A3 (y.ns.take i ++ y.ns.drop (i + 1)).length c3) (by omega) (ryc D.hb D.U (.slice A3 (y.ns.take i ++ y.ns.drop (i + 1)).length c3)) (fun j hj => ry_v _ _ _ _ j hj)
        generalize w6.setCell ⟨D.Y, 2, none⟩ (.slice A3 (y.ns.take i ++ y.ns.drop (i + 1)).length c3) = w7 at *
        refine hK.out _ _ (trivial) (fun _ => ?_)
        clear hK
        try simp only [Act.put, List.setIfInBounds_toArray, List.set_cons_zero, List.set_cons_succ]
        clear c2 z2 F3 F2 F1
        refine wpAnyH_done (by kernel_rfl) ?_ _
        go_wp2_with fail
        go_ret
        exact ⟨rfl, LO.out _ _ ((HS.drop (A := [thNt (.slice A3 (y.ns.take i ++ y.ns.drop (i + 1)).length c3) (y.ns.take i ++ y.ns.drop (i + 1)), thB D.Y 3 (ryc D.hb D.U (.slice A3 (y.ns.take i ++ y.ns.drop (i + 1)).length c3))]) F4).perm (List.Perm.swap _ _ _))⟩
    · skip
      have c2 : _ = some (Value.slice A n c) := (F1.fb 1 rfl).2.1 2 (by omega)
      refine ov_val (v := .slice A n c) (by go_simp) ?_
      refine hK.out _ _ (trivial) (fun _ => ?_)
      clear hK
      try simp only [Act.put, List.setIfInBounds_toArray, List.set_cons_zero, List.set_cons_succ]
      clear c2
      refine tk 15 (v := (.slice A2 (n - (i + 1)) (c - (i + 1)))) rfl (by kernel_rfl) (by kernel_rfl) (by kernel_rfl) (fun _ _ _ h => h) rfl (fun w hSw => ex_slice_l9 rfl rfl rfl elem_n9 (CT2.out w)) trivial ?_; (try simp only [Act.put, List.setIfInBounds_toArray, List.set_cons_zero, List.set_cons_succ])
      refine only 5 rfl (by kernel_rfl) rfl (fun K hK => ?_)
      have c2 : _ = some (Value.slice A n c) := (F1.fb 1 rfl).2.1 2 (by omega)
      refine ov_val (v := .slice A n c) (by go_simp) ?_
      refine hK.out _ _ (trivial) (fun _ => ?_)
      clear hK
      try simp only [Act.put, List.setIfInBounds_toArray, List.set_cons_zero, List.set_cons_succ]
      clear c2
      refine tk 7 (v := (.slice A1 i c)) rfl (by kernel_rfl) (by kernel_rfl) (by kernel_rfl) (fun _ _ _ h => h) rfl (fun w hSw => ex_slice_h9 rfl rfl rfl elem_n9 (CT1.out w)) trivial ?_; (try simp only [Act.put, List.setIfInBounds_toArray, List.set_cons_zero, List.set_cons_succ])
      refine only 8 rfl (by kernel_rfl) rfl (fun K hK => ?_)
      have e1 : ([] ++ y.ns.take i) = y.ns.take i := rfl
      refine ow_appN9 (A := []) (.tmp 17) (.tmp 23) rfl (m := y.ns.take i) (l := []) rfl rfl (f2 := ntf y.ns) F1 (CS1.out _ _ (Ow.sl (show Ow _ 0 _ _ (.slice A n c) n (ntf y.ns) from by rw [HN0.out]; rw [HN0.out] at F1; exact F1.nth 2 rfl))) (fun j => ntc_one _ _) (by have := HI.out; have := HN0.out; simp; omega) (fun j hj => ntf_take _ _ j (by have := HI.out; have := HN0.out; omega) (by have := HI.out; have := HN0.out; simp at hj; omega)) (by have := HN.out; have := HN0.out; simp; omega) (fun N1 w5 F2 => ?_)
      refine hK.out _ _ (trivial) (fun _ => ?_)
      clear hK
      try simp only [Act.put, List.setIfInBounds_toArray, List.set_cons_zero, List.set_cons_succ]
      refine only 16 rfl (by kernel_rfl) rfl (fun K hK => ?_)
      refine ow_appN9 (A := []) (.tmp 24) (.tmp 31) rfl (m := y.ns.drop (i + 1)) rfl rfl (f2 := fun j => ntf y.ns ((i + 1) * 342 + j)) F2 (CS2.out _ _ (Ow.sl (show Ow _ 0 _ _ (.slice A n c) n (ntf y.ns) from by rw [HN0.out]; rw [HN0.out] at F2; exact F2.nth 2 rfl))) (fun j => ntc_one _ _) (by have := HI.out; have := HN0.out; simp; omega) (fun j hj => ntf_drop _ _ j) (by have := HN.out; have := HN0.out; simp; omega) (fun N2 w6 F3 => ?_)
      refine hK.out _ _ (trivial) (fun _ => ?_)
      clear hK
      try simp only [Act.put, List.setIfInBounds_toArray, List.set_cons_zero, List.set_cons_succ]
      refine tkq 17 trivial ?_
      refine tkq 18 trivial ?_
      refine only 19 rfl (by kernel_rfl) rfl (fun K hK => ?_)
      obtain ⟨A3, c3, hN2, _⟩ := thW_form F3 0 rfl
      subst hN2
      have c2 : _ = some (Value.slice A n c) := (F3.fb 1 rfl).2.1 2 (by omega)
      have z2 := (F3.fb 1 rfl).2.2 2
      refine ov_store rfl rfl rfl (w' := w6.setCell ⟨D.Y, 2, none⟩ (.slice A3 (y.ns.take i ++ y.ns.drop (i + 1)).length c3)) (by go_simp) ?_
      have F4 := HS.set1v (A := [thNt (.slice A3 (y.ns.take i ++ y.ns.drop (i + 1)).length c3) (y.ns.take i ++ y.ns.drop (i + 1))]) F3 2 (.slice A3 (y.ns.take i ++ y.ns.drop (i + 1)).length c3) (by omega) (ryc D.hb D.U (.slice A3 (y.ns.take i ++ y.ns.drop (i + 1)).length c3)) (fun j hj => ry_v _ _ _ _ j hj)
      generalize w6.setCell ⟨D.Y, 2, none⟩ (.slice A3 (y.ns.take i ++ y.ns.drop (i + 1)).length c3) = w7 at *
      refine hK.out _ _ (trivial) (fun _ => ?_)
      clear hK
      try simp only [Act.put, List.setIfInBounds_toArray, List.set_cons_zero, List.set_cons_succ]
      clear c2 z2 F3 F2 F1
      refine wpAnyH_done (by kernel_rfl) ?_ _
      go_wp2_with fail
      go_ret
      exact ⟨rfl, LO.out _ _ ((HS.drop (A := [thNt (.slice A3 (y.ns.take i ++ y.ns.drop (i + 1)).length c3) (y.ns.take i ++ y.ns.drop (i + 1)), thB D.Y 3 (ryc D.hb D.U (.slice A3 (y.ns.take i ++ y.ns.drop (i + 1)).length c3))]) F4).perm (List.Perm.swap _ _ _))⟩
  · skip
    have c2 : _ = some (Value.slice A n c) := (F0.fb 0 rfl).2.1 2 (by omega)
    refine ov_val (v := .slice A n c) (by go_simp) ?_
    refine hK.out _ _ (trivial) (fun _ => ?_)
    clear hK
    try simp only [Act.put, List.setIfInBounds_toArray, List.set_cons_zero, List.set_cons_succ]
    clear c2
    refine tk 7 (v := (.slice A1 i c)) rfl (by kernel_rfl) (by kernel_rfl) (by kernel_rfl) (fun _ _ _ h => h) rfl (fun w hSw => ex_slice_h9 rfl rfl rfl elem_n9 (CT1.out w)) trivial ?_; (try simp only [Act.put, List.setIfInBounds_toArray, List.set_cons_zero, List.set_cons_succ])
    refine twoUp 1 12 rfl rfl (by kernel_rfl) rfl rfl (fun K hK => ?_) (fun K hK => ?_)
    · skip
      refine ow_bs09 rfl F0 (fun N w4 F1 => ?_)
      refine hK.out _ _ (trivial) (fun _ => ?_)
      clear hK
      try simp only [Act.put, List.setIfInBounds_toArray, List.set_cons_zero, List.set_cons_succ]
      refine twoUp 8 12 rfl rfl (by kernel_rfl) rfl rfl (fun K hK => ?_) (fun K hK => ?_)
      · skip
        have e1 : ([] ++ y.ns.take i) = y.ns.take i := rfl
        refine ow_appN9 (A := []) (.tmp 17) (.tmp 23) rfl (m := y.ns.take i) (l := []) rfl rfl (f2 := ntf y.ns) F1 (CS1.out _ _ (Ow.sl (show Ow _ 0 _ _ (.slice A n c) n (ntf y.ns) from by rw [HN0.out]; rw [HN0.out] at F1; exact F1.nth 2 rfl))) (fun j => ntc_one _ _) (by have := HI.out; have := HN0.out; simp; omega) (fun j hj => ntf_take _ _ j (by have := HI.out; have := HN0.out; omega) (by have := HI.out; have := HN0.out; simp at hj; omega)) (by have := HN.out; have := HN0.out; simp; omega) (fun N1 w5 F2 => ?_)
        refine hK.out _ _ (trivial) (fun _ => ?_)
        clear hK
        try simp only [Act.put, List.setIfInBounds_toArray, List.set_cons_zero, List.set_cons_succ]
        refine only 12 rfl (by kernel_rfl) rfl (fun K hK => ?_)
        have c2 : _ = some (Value.slice A n c) := (F2.fb 1 rfl).2.1 2 (by omega)
        refine ov_val (v := .slice A n c) (by go_simp) ?_
        refine hK.out _ _ (trivial) (fun _ => ?_)
        clear hK
        try simp only [Act.put, List.setIfInBounds_toArray, List.set_cons_zero, List.set_cons_succ]
        clear c2
        refine tk 15 (v := (.slice A2 (n - (i + 1)) (c - (i + 1)))) rfl (by kernel_rfl) (by kernel_rfl) (by kernel_rfl) (fun _ _ _ h => h) rfl (fun w hSw => ex_slice_l9 rfl rfl rfl elem_n9 (CT2.out w)) trivial ?_; (try simp only [Act.put, List.setIfInBounds_toArray, List.set_cons_zero, List.set_cons_succ])
        refine only 16 rfl (by kernel_rfl) rfl (fun K hK => ?_)
        refine ow_appN9 (A := []) (.tmp 24) (.tmp 31) rfl (m := y.ns.drop (i + 1)) rfl rfl (f2 := fun j => ntf y.ns ((i + 1) * 342 + j)) F2 (CS2.out _ _ (Ow.sl (show Ow _ 0 _ _ (.slice A n c) n (ntf y.ns) from by rw [HN0.out]; rw [HN0.out] at F2; exact F2.nth 2 rfl))) (fun j => ntc_one _ _) (by have := HI.out; have := HN0.out; simp; omega) (fun j hj => ntf_drop _ _ j) (by have := HN.out; have := HN0.out; simp; omega) (fun N2 w6 F3 => ?_)
        refine hK.out _ _ (trivial) (fun _ => ?_)
        clear hK
        try simp only [Act.put, List.setIfInBounds_toArray, List.set_cons_zero, List.set_cons_succ]
        refine tkq 17 trivial ?_
        refine tkq 18 trivial ?_
        refine only 19 rfl (by kernel_rfl) rfl (fun K hK => ?_)
        obtain ⟨A3, c3, hN2, _⟩ := thW_form F3 0 rfl
        subst hN2
        have c2 : _ = some (Value.slice A n c) := (F3.fb 1 rfl).2.1 2 (by omega)
        have z2 := (F3.fb 1 rfl).2.2 2
        refine ov_store rfl rfl rfl (w' := w6.setCell ⟨D.Y, 2, none⟩ (.slice A3 (y.ns.take i ++ y.ns.drop (i + 1)).length c3)) (by go_simp) ?_
        have F4 := HS.set1v (A := [thNt (.slice A3 (y.ns.take i ++ y.ns.drop (i + 1)).length c3) (y.ns.take i ++ y.ns.drop (i + 1))]) F3 2 (.slice A3 (y.ns.take i ++ y.ns.drop (i + 1)).length c3) (by omega) (ryc D.hb D.U (.slice A3 (y.ns.take i ++ y.ns.drop (i + 1)).length c3)) (fun j hj => ry_v _ _ _ _ j hj)
        generalize w6.setCell ⟨D.Y, 2, none⟩ (.slice A3 (y.ns.take i ++ y.ns.drop (i + 1)).length c3) = w7 at *
        refine hK.out _ _ (trivial) (fun _ => ?_)
        clear hK
        try simp only [Act.put, List.setIfInBounds_toArray, List.set_cons_zero, List.set_cons_succ]
        clear c2 z2 F3 F2 F1
        refine wpAnyH_done (by kernel_rfl) ?_ _
        go_wp2_with fail
        go_ret
        exact ⟨rfl, LO.out _ _ ((HS.drop (A := [thNt (.slice A3 (y.ns.take i ++ y.ns.drop (i + 1)).length c3) (y.ns.take i ++ y.ns.drop (i + 1)), thB D.Y 3 (ryc D.hb D.U (.slice A3 (y.ns.take i ++ y.ns.drop (i + 1)).length c3))]) F4).perm (List.Perm.swap _ _ _))⟩
      · skip
        have c2 : _ = some (Value.slice A n c) := (F1.fb 1 rfl).2.1 2 (by omega)
        refine ov_val (v := .slice A n c) (by go_simp) ?_
        refine hK.out _ _ (trivial) (fun _ => ?_)
        clear hK
        try simp only [Act.put, List.setIfInBounds_toArray, List.set_cons_zero, List.set_cons_succ]
        clear c2
        refine tk 15 (v := (.slice A2 (n - (i + 1)) (c - (i + 1)))) rfl (by kernel_rfl) (by kernel_rfl) (by kernel_rfl) (fun _ _ _ h => h) rfl (fun w hSw => ex_slice_l9 rfl rfl rfl elem_n9 (CT2.out w)) trivial ?_; (try simp only [Act.put, List.setIfInBounds_toArray, List.set_cons_zero, List.set_cons_succ])
        refine only 8 rfl (by kernel_rfl) rfl (fun K hK => ?_)
        have e1 : ([] ++ y.ns.take i) = y.ns.take i := rfl
        refine ow_appN9 (A := []) (.tmp 17) (.tmp 23) rfl (m := y.ns.take i) (l := []) rfl rfl (f2 := ntf y.ns) F1 (CS1.out _ _ (Ow.sl (show Ow _ 0 _ _ (.slice A n c) n (ntf y.ns) from by rw [HN0.out]; rw [HN0.out] at F1; exact F1.nth 2 rfl))) (fun j => ntc_one _ _) (by have := HI.out; have := HN0.out; simp; omega) (fun j hj => ntf_take _ _ j (by have := HI.out; have := HN0.out; omega) (by have := HI.out; have := HN0.out; simp at hj; omega)) (by have := HN.out; have := HN0.out; simp; omega) (fun N1 w5 F2 => ?_)
        refine hK.out _ _ (trivial) (fun _ => ?_)
        clear hK
        try simp only [Act.put, List.setIfInBounds_toArray, List.set_cons_zero, List.set_cons_succ]
        refine only 16 rfl (by kernel_rfl) rfl (fun K hK => ?_)
        refine ow_appN9 (A := []) (.tmp 24) (.tmp 31) rfl (m := y.ns.drop (i + 1)) rfl rfl (f2 := fun j => ntf y.ns ((i + 1) * 342 + j)) F2 (CS2.out _ _ (Ow.sl (show Ow _ 0 _ _ (.slice A n c) n (ntf y.ns) from by rw [HN0.out]; rw [HN0.out] at F2; exact F2.nth 2 rfl))) (fun j => ntc_one _ _) (by have := HI.out; have := HN0.out; simp; omega) (fun j hj => ntf_drop _ _ j) (by have := HN.out; have := HN0.out; simp; omega) (fun N2 w6 F3 => ?_)
        refine hK.out _ _ (trivial) (fun _ => ?_)
        clear hK
        try simp only [Act.put, List.setIfInBounds_toArray, List.set_cons_zero, List.set_cons_succ]
        refine tkq 17 trivial ?_
        refine tkq 18 trivial ?_
        refine only 19 rfl (by kernel_rfl) rfl (fun K hK => ?_)
        obtain ⟨A3, c3, hN2, _⟩ := thW_form F3 0 rfl
        subst hN2
        have c2 : _ = some (Value.slice A n c) := (F3.fb 1 rfl).2.1 2 (by omega)
        have z2 := (F3.fb 1 rfl).2.2 2
        refine ov_store rfl rfl rfl (w' := w6.setCell ⟨D.Y, 2, none⟩ (.slice A3 (y.ns.take i ++ y.ns.drop (i + 1)).length c3)) (by go_simp) ?_
        have F4 := HS.set1v (A := [thNt (.slice A3 (y.ns.take i ++ y.ns.drop (i + 1)).length c3) (y.ns.take i ++ y.ns.drop (i + 1))]) F3 2 (.slice A3 (y.ns.take i ++ y.ns.drop (i + 1)).length c3) (by omega) (ryc D.hb D.U (.slice A3 (y.ns.take i ++ y.ns.drop (i + 1)).length c3)) (fun j hj => ry_v _ _ _ _ j hj)
        generalize w6.setCell ⟨D.Y, 2, none⟩ (.slice A3 (y.ns.take i ++ y.ns.drop (i + 1)).length c3) = w7 at *
        refine hK.out _ _ (trivial) (fun _ => ?_)
        clear hK
        try simp only [Act.put, List.setIfInBounds_toArray, List.set_cons_zero, List.set_cons_succ]
        clear c2 z2 F3 F2 F1
        refine wpAnyH_done (by kernel_rfl) ?_ _
        go_wp2_with fail
        go_ret
        exact ⟨rfl, LO.out _ _ ((HS.drop (A := [thNt (.slice A3 (y.ns.take i ++ y.ns.drop (i + 1)).length c3) (y.ns.take i ++ y.ns.drop (i + 1)), thB D.Y 3 (ryc D.hb D.U (.slice A3 (y.ns.take i ++ y.ns.drop (i + 1)).length c3))]) F4).perm (List.Perm.swap _ _ _))⟩
    · skip
      have c2 : _ = some (Value.slice A n c) := (F0.fb 0 rfl).2.1 2 (by omega)
      refine ov_val (v := .slice A n c) (by go_simp) ?_
      refine hK.out _ _ (trivial) (fun _ => ?_)
      clear hK
      try simp only [Act.put, List.setIfInBounds_toArray, List.set_cons_zero, List.set_cons_succ]
      clear c2
      refine tk 15 (v := (.slice A2 (n - (i + 1)) (c - (i + 1)))) rfl (by kernel_rfl) (by kernel_rfl) (by kernel_rfl) (fun _ _ _ h => h) rfl (fun w hSw => ex_slice_l9 rfl rfl rfl elem_n9 (CT2.out w)) trivial ?_; (try simp only [Act.put, List.setIfInBounds_toArray, List.set_cons_zero, List.set_cons_succ])
      refine only 1 rfl (by kernel_rfl) rfl (fun K hK => ?_)
      refine ow_bs09 rfl F0 (fun N w4 F1 => ?_)
      refine hK.out _ _ (trivial) (fun _ => ?_)
      clear hK
      try simp only [Act.put, List.setIfInBounds_toArray, List.set_cons_zero, List.set_cons_succ]
      refine only 8 rfl (by kernel_rfl) rfl (fun K hK => ?_)
      have e1 : ([] ++ y.ns.take i) = y.ns.take i := rfl
      refine ow_appN9 (A := []) (.tmp 17) (.tmp 23) rfl (m := y.ns.take i) (l := []) rfl rfl (f2 := ntf y.ns) F1 (CS1.out _ _ (Ow.sl (show Ow _ 0 _ _ (.slice A n c) n (ntf y.ns) from by rw [HN0.out]; rw [HN0.out] at F1; exact F1.nth 2 rfl))) (fun j => ntc_one _ _) (by have := HI.out; have := HN0.out; simp; omega) (fun j hj => ntf_take _ _ j (by have := HI.out; have := HN0.out; omega) (by have := HI.out; have := HN0.out; simp at hj; omega)) (by have := HN.out; have := HN0.out; simp; omega) (fun N1 w5 F2 => ?_)
      refine hK.out _ _ (trivial) (fun _ => ?_)
      clear hK
      try simp only [Act.put, List.setIfInBounds_toArray, List.set_cons_zero, List.set_cons_succ]
      refine only 16 rfl (by kernel_rfl) rfl (fun K hK => ?_)
      refine ow_appN9 (A := []) (.tmp 24) (.tmp 31) rfl (m := y.ns.drop (i + 1)) rfl rfl (f2 := fun j => ntf y.ns ((i + 1) * 342 + j)) F2 (CS2.out _ _ (Ow.sl (show Ow _ 0 _ _ (.slice A n c) n (ntf y.ns) from by rw [HN0.out]; rw [HN0.out] at F2; exact F2.nth 2 rfl))) (fun j => ntc_one _ _) (by have := HI.out; have := HN0.out; simp; omega) (fun j hj => ntf_drop _ _ j) (by have := HN.out; have := HN0.out; simp; omega) (fun N2 w6 F3 => ?_)
      refine hK.out _ _ (trivial) (fun _ => ?_)
      clear hK
      try simp only [Act.put, List.setIfInBounds_toArray, List.set_cons_zero, List.set_cons_succ]
      refine tkq 17 trivial ?_
      refine tkq 18 trivial ?_
      refine only 19 rfl (by kernel_rfl) rfl (fun K hK => ?_)
      obtain ⟨A3, c3, hN2, _⟩ := thW_form F3 0 rfl
      subst hN2
      have c2 : _ = some (Value.slice A n c) := (F3.fb 1 rfl).2.1 2 (by omega)
      have z2 := (F3.fb 1 rfl).2.2 2
      refine ov_store rfl rfl rfl (w' := w6.setCell ⟨D.Y, 2, none⟩ (.slice A3 (y.ns.take i ++ y.ns.drop (i + 1)).length c3)) (by go_simp) ?_
      have F4 := HS.set1v (A := [thNt (.slice A3 (y.ns.take i ++ y.ns.drop (i + 1)).length c3) (y.ns.take i ++ y.ns.drop (i + 1))]) F3 2 (.slice A3 (y.ns.take i ++ y.ns.drop (i + 1)).length c3) (by omega) (ryc D.hb D.U (.slice A3 (y.ns.take i ++ y.ns.drop (i + 1)).length c3)) (fun j hj => ry_v _ _ _ _ j hj)
      generalize w6.setCell ⟨D.Y, 2, none⟩ (.slice A3 (y.ns.take i ++ y.ns.drop (i + 1)).length c3) = w7 at *
      refine hK.out _ _ (trivial) (fun _ => ?_)
      clear hK
      try simp only [Act.put, List.setIfInBounds_toArray, List.set_cons_zero, List.set_cons_succ]
      clear c2 z2 F3 F2 F1
      refine wpAnyH_done (by kernel_rfl) ?_ _
      go_wp2_with fail
      go_ret
      exact ⟨rfl, LO.out _ _ ((HS.drop (A := [thNt (.slice A3 (y.ns.take i ++ y.ns.drop (i + 1)).length c3) (y.ns.take i ++ y.ns.drop (i + 1)), thB D.Y 3 (ryc D.hb D.U (.slice A3 (y.ns.take i ++ y.ns.drop (i + 1)).length c3))]) F4).perm (List.Perm.swap _ _ _))⟩
  · skip
    have c2 : _ = some (Value.slice A n c) := (F0.fb 0 rfl).2.1 2 (by omega)
    refine ov_val (v := .slice A n c) (by go_simp) ?_
    refine hK.out _ _ (trivial) (fun _ => ?_)
    clear hK
    try simp only [Act.put, List.setIfInBounds_toArray, List.set_cons_zero, List.set_cons_succ]
    clear c2
    refine tk 15 (v := (.slice A2 (n - (i + 1)) (c - (i + 1)))) rfl (by kernel_rfl) (by kernel_rfl) (by kernel_rfl) (fun _ _ _ h => h) rfl (fun w hSw => ex_slice_l9 rfl rfl rfl elem_n9 (CT2.out w)) trivial ?_; (try simp only [Act.put, List.setIfInBounds_toArray, List.set_cons_zero, List.set_cons_succ])
    refine twoUp 1 5 rfl rfl (by kernel_rfl) rfl rfl (fun K hK => ?_) (fun K hK => ?_)
    · skip
      refine ow_bs09 rfl F0 (fun N w4 F1 => ?_)
      refine hK.out _ _ (trivial) (fun _ => ?_)
      clear hK
      try simp only [Act.put, List.setIfInBounds_toArray, List.set_cons_zero, List.set_cons_succ]
      refine only 5 rfl (by kernel_rfl) rfl (fun K hK => ?_)
      have c2 : _ = some (Value.slice A n c) := (F1.fb 1 rfl).2.1 2 (by omega)
      refine ov_val (v := .slice A n c) (by go_simp) ?_
      refine hK.out _ _ (trivial) (fun _ => ?_)
      clear hK
      try simp only [Act.put, List.setIfInBounds_toArray, List.set_cons_zero, List.set_cons_succ]
      clear c2
      refine tk 7 (v := (.slice A1 i c)) rfl (by kernel_rfl) (by kernel_rfl) (by kernel_rfl) (fun _ _ _ h => h) rfl (fun w hSw => ex_slice_h9 rfl rfl rfl elem_n9 (CT1.out w)) trivial ?_; (try simp only [Act.put, List.setIfInBounds_toArray, List.set_cons_zero, List.set_cons_succ])
      refine only 8 rfl (by kernel_rfl) rfl (fun K hK => ?_)
      have e1 : ([] ++ y.ns.take i) = y.ns.take i := rfl
      refine ow_appN9 (A := []) (.tmp 17) (.tmp 23) rfl (m := y.ns.take i) (l := []) rfl rfl (f2 := ntf y.ns) F1 (CS1.out _ _ (Ow.sl (show Ow _ 0 _ _ (.slice A n c) n (ntf y.ns) from by rw [HN0.out]; rw [HN0.out] at F1; exact F1.nth 2 rfl))) (fun j => ntc_one _ _) (by have := HI.out; have := HN0.out; simp; omega) (fun j hj => ntf_take _ _ j (by have := HI.out; have := HN0.out; omega) (by have := HI.out; have := HN0.out; simp at hj; omega)) (by have := HN.out; have := HN0.out; simp; omega) (fun N1 w5 F2 => ?_)
      refine hK.out _ _ (trivial) (fun _ => ?_)
      clear hK
      try simp only [Act.put, List.setIfInBounds_toArray, List.set_cons_zero, List.set_cons_succ]
      refine only 16 rfl (by kernel_rfl) rfl (fun K hK => ?_)
      refine ow_appN9 (A := []) (.tmp 24) (.tmp 31) rfl (m := y.ns.drop (i + 1)) rfl rfl (f2 := fun j => ntf y.ns ((i + 1) * 342 + j)) F2 (CS2.out _ _ (Ow.sl (show Ow _ 0 _ _ (.slice A n c) n (ntf y.ns) from by rw [HN0.out]; rw [HN0.out] at F2; exact F2.nth 2 rfl))) (fun j => ntc_one _ _) (by have := HI.out; have := HN0.out; simp; omega) (fun j hj => ntf_drop _ _ j) (by have := HN.out; have := HN0.out; simp; omega) (fun N2 w6 F3 => ?_)
      refine hK.out _ _ (trivial) (fun _ => ?_)
      clear hK
      try simp only [Act.put, List.setIfInBounds_toArray, List.set_cons_zero, List.set_cons_succ]
      refine tkq 17 trivial ?_
      refine tkq 18 trivial ?_
      refine only 19 rfl (by kernel_rfl) rfl (fun K hK => ?_)
      obtain ⟨A3, c3, hN2, _⟩ := thW_form F3 0 rfl
      subst hN2
      have c2 : _ = some (Value.slice A n c) := (F3.fb 1 rfl).2.1 2 (by omega)
      have z2 := (F3.fb 1 rfl).2.2 2
      refine ov_store rfl rfl rfl (w' := w6.setCell ⟨D.Y, 2, none⟩ (.slice A3 (y.ns.take i ++ y.ns.drop (i + 1)).length c3)) (by go_simp) ?_
      have F4 := HS.set1v (A := [thNt (.slice A3 (y.ns.take i ++ y.ns.drop (i + 1)).length c3) (y.ns.take i ++ y.ns.drop (i + 1))]) F3 2 (.slice A3 (y.ns.take i ++ y.ns.drop (i + 1)).length c3) (by omega) (ryc D.hb D.U (.slice A3 (y.ns.take i ++ y.ns.drop (i + 1)).length c3)) (fun j hj => ry_v _ _ _ _ j hj)
      generalize w6.setCell ⟨D.Y, 2, none⟩ (.slice A3 (y.ns.take i ++ y.ns.drop (i + 1)).length c3) = w7 at *
      refine hK.out _ _ (trivial) (fun _ => ?_)
      clear hK
      try simp only [Act.put, List.setIfInBounds_toArray, List.set_cons_zero, List.set_cons_succ]
      clear c2 z2 F3 F2 F1
      refine wpAnyH_done (by kernel_rfl) ?_ _
      go_wp2_with fail
      go_ret
      exact ⟨rfl, LO.out _ _ ((HS.drop (A := [thNt (.slice A3 (y.ns.take i ++ y.ns.drop (i + 1)).length c3) (y.ns.take i ++ y.ns.drop (i + 1)), thB D.Y 3 (ryc D.hb D.U (.slice A3 (y.ns.take i ++ y.ns.drop (i + 1)).length c3))]) F4).perm (List.Perm.swap _ _ _))⟩
    · skip
      have c2 : _ = some (Value.slice A n c) := (F0.fb 0 rfl).2.1 2 (by omega)
      refine ov_val (v := .slice A n c) (by go_simp) ?_
      refine hK.out _ _ (trivial) (fun _ => ?_)
      clear hK
      try simp only [Act.put, List.setIfInBounds_toArray, List.set_cons_zero, List.set_cons_succ]
      clear c2
      refine tk 7 (v := (.slice A1 i c)) rfl (by kernel_rfl) (by kernel_rfl) (by kernel_rfl) (fun _ _ _ h => h) rfl (fun w hSw => ex_slice_h9 rfl rfl rfl elem_n9 (CT1.out w)) trivial ?_; (try simp only [Act.put, List.setIfInBounds_toArray, List.set_cons_zero, List.set_cons_succ])
      refine only 1 rfl (by kernel_rfl) rfl (fun K hK => ?_)
      refine ow_bs09 rfl F0 (fun N w4 F1 => ?_)
      refine hK.out _ _ (trivial) (fun _ => ?_)
      clear hK
      try simp only [Act.put, List.setIfInBounds_toArray, List.set_cons_zero, List.set_cons_succ]
      refine only 8 rfl (by kernel_rfl) rfl (fun K hK => ?_)
      have e1 : ([] ++ y.ns.take i) = y.ns.take i := rfl
      refine ow_appN9 (A := []) (.tmp 17) (.tmp 23) rfl (m := y.ns.take i) (l := []) rfl rfl (f2 := ntf y.ns) F1 (CS1.out _ _ (Ow.sl (show Ow _ 0 _ _ (.slice A n c) n (ntf y.ns) from by rw [HN0.out]; rw [HN0.out] at F1; exact F1.nth 2 rfl))) (fun j => ntc_one _ _) (by have := HI.out; have := HN0.out; simp; omega) (fun j hj => ntf_take _ _ j (by have := HI.out; have := HN0.out; omega) (by have := HI.out; have := HN0.out; simp at hj; omega)) (by have := HN.out; have := HN0.out; simp; omega) (fun N1 w5 F2 => ?_)
      refine hK.out _ _ (trivial) (fun _ => ?_)
      clear hK
      try simp only [Act.put, List.setIfInBounds_toArray, List.set_cons_zero, List.set_cons_succ]
      refine only 16 rfl (by kernel_rfl) rfl (fun K hK => ?_)
      refine ow_appN9 (A := []) (.tmp 24) (.tmp 31) rfl (m := y.ns.drop (i + 1)) rfl rfl (f2 := fun j => ntf y.ns ((i + 1) * 342 + j)) F2 (CS2.out _ _ (Ow.sl (show Ow _ 0 _ _ (.slice A n c) n (ntf y.ns) from by rw [HN0.out]; rw [HN0.out] at F2; exact F2.nth 2 rfl))) (fun j => ntc_one _ _) (by have := HI.out; have := HN0.out; simp; omega) (fun j hj => ntf_drop _ _ j) (by have := HN.out; have := HN0.out; simp; omega) (fun N2 w6 F3 => ?_)
      refine hK.out _ _ (trivial) (fun _ => ?_)
      clear hK
      try simp only [Act.put, List.setIfInBounds_toArray, List.set_cons_zero, List.set_cons_succ]
      refine tkq 17 trivial ?_
      refine tkq 18 trivial ?_
      refine only 19 rfl (by kernel_rfl) rfl (fun K hK => ?_)
      obtain ⟨A3, c3, hN2, _⟩ := thW_form F3 0 rfl
      subst hN2
      have c2 : _ = some (Value.slice A n c) := (F3.fb 1 rfl).2.1 2 (by omega)
      have z2 := (F3.fb 1 rfl).2.2 2
      refine ov_store rfl rfl rfl (w' := w6.setCell ⟨D.Y, 2, none⟩ (.slice A3 (y.ns.take i ++ y.ns.drop (i + 1)).length c3)) (by go_simp) ?_
      have F4 := HS.set1v (A := [thNt (.slice A3 (y.ns.take i ++ y.ns.drop (i + 1)).length c3) (y.ns.take i ++ y.ns.drop (i + 1))]) F3 2 (.slice A3 (y.ns.take i ++ y.ns.drop (i + 1)).length c3) (by omega) (ryc D.hb D.U (.slice A3 (y.ns.take i ++ y.ns.drop (i + 1)).length c3)) (fun j hj => ry_v _ _ _ _ j hj)
      generalize w6.setCell ⟨D.Y, 2, none⟩ (.slice A3 (y.ns.take i ++ y.ns.drop (i + 1)).length c3) = w7 at *
      refine hK.out _ _ (trivial) (fun _ => ?_)
      clear hK
      try simp only [Act.put, List.setIfInBounds_toArray, List.set_cons_zero, List.set_cons_succ]
      clear c2 z2 F3 F2 F1
      refine wpAnyH_done (by kernel_rfl) ?_ _
      go_wp2_with fail
      go_ret
      exact ⟨rfl, LO.out _ _ ((HS.drop (A := [thNt (.slice A3 (y.ns.take i ++ y.ns.drop (i + 1)).length c3) (y.ns.take i ++ y.ns.drop (i + 1)), thB D.Y 3 (ryc D.hb D.U (.slice A3 (y.ns.take i ++ y.ns.drop (i + 1)).length c3))]) F4).perm (List.Perm.swap _ _ _))⟩
end
end Go.Proofs.YteefhiniamajkaaGreat
namespace Go.Proofs.YteefhiniamajkaaGreat
set_option linter.unusedVariables false
set_option linter.unusedSimpArgs false
open Go.RowKit Go.ChangeShapes Go.WideShapes Go.ChangeAt
set_option maxRecDepth 100000
theorem perm_n {α : Type} (n q y h w : α) (X : List α) : (n :: q :: y :: h :: w :: X).Perm (y :: n :: h :: q :: w :: X) := by
  classical
  rw [List.perm_iff_count]
  intro x
  simp only [List.count_cons]
  ac_rfl
theorem perm_4 {α : Type} (n y h w : α) (X : List α) : (n :: y :: h :: w :: X).Perm (y :: h :: w :: n :: X) := by
  classical
  rw [List.perm_iff_count]
  intro x
  simp only [List.count_cons]
  ac_rfl
theorem perm_h {α : Type} (y n h q w : α) (X : List α) : (y :: n :: h :: q :: w :: X).Perm (h :: w :: y :: n :: q :: X) := by
  classical
  rw [List.perm_iff_count]
  intro x
  simp only [List.count_cons]
  ac_rfl
theorem perm_q {α : Type} (y n h q w : α) (X : List α) : (y :: n :: h :: q :: w :: X).Perm (h :: q :: y :: n :: w :: X) := by
  classical
  rw [List.perm_iff_count]
  intro x
  simp only [List.count_cons]
  ac_rfl
attribute [local irreducible] FA FL
def addB9 (f : Nat → Nat × Nat) (k ub pb j : Nat) : Nat × Nat := if j = k then (ub, pb) else f j
theorem rbv_add (f : Nat → Nat × Nat) (k ub pb j : Nat) (hj : j < (k + 1) * 1) : two (k * 1) (rbV f) (fun _ => .pointer (some ⟨ub, 0, none⟩)) j = rbV (addB9 f k ub pb) j := by
  unfold two rbV addB9
  by_cases h : j < k * 1
  · rw [if_pos h]
    simp only [if_neg (show ¬ j = k by omega)]
  · rw [if_neg h]
    simp only [if_pos (show j = k by omega)]
theorem info_pu9 : (Tryz.prog.info? 81).map (fun i => (i.zero, i.size, i.bytes)) = some (some (.pointer none), 1, 8) := by kernel_rfl
theorem run_bsU (ub : Nat) (w : World) : (Instr.buildSlice 77 1 #[(0, .pointer (some ⟨ub, 0, none⟩))]).run Tryz.prog w = .ok (.slice (some ⟨w.heap.size, 0, none⟩) 1 1) (w.alloc (.cells #[.pointer (some ⟨ub, 0, none⟩)] 81)) := by
  go_simp
section
variable {P : Program} {o : Oper} {w : World} {v : Value} {f : Operand → Value} {T : TypeId} {i1 : Nat} {x1 : Operand} {v1 : Value}
theorem ex_build1 (ho : o.op = .build T #[(i1, x1)]) (h1 : f x1 = v1) (hl : (Instr.build T #[(i1, v1)]).run P w = .ok v w) : (execOp f o).run P w = .ok (.value v) w := by
  unfold execOp; simp only [ho, List.map_toArray, List.map_cons, List.map_nil, h1, Sem.run_bind, hl, Result.andThen_ok, Sem.run_pure]
end
section
variable {S : List Nat} {W w : World} {L : List Th} {Q : Exit → Act → World → Prop} {o : Oper} {a : Act} {K : Act → World → Prop}
theorem ow_bsU {x : Operand} {ub : Nat} (ho : o.op = .buildSlice 77 1 #[(0, x)]) (hx : a.eval x = .pointer (some ⟨ub, 0, none⟩)) (hS : HS S W w L)
    (h : ∀ X w', HS S W w' (thC X [.pointer (some ⟨ub, 0, none⟩)] :: L) → K (a.put o.dst (.slice (some ⟨X, 0, none⟩) 1 1)) w') : o.wp Tryz.prog a w K Q := by
  refine ow_val (v := .slice (some ⟨w.heap.size, 0, none⟩) 1 1) (w' := w.alloc (.cells #[.pointer (some ⟨ub, 0, none⟩)] 81)) ?_ (h _ _ (hS.cells [.pointer (some ⟨ub, 0, none⟩)]))
  unfold execOp
  simp only [ho, List.map_toArray, List.map_cons, List.map_nil, hx, Sem.run_bind, run_bsU, Result.andThen_ok, Sem.run_pure]
end
section
variable {S : List Nat} {W w : World} {R : List Th} {p : Pl} {u k Y hb ug uc ub pb : Nat} {U : Value} {bf : Nat → Nat × Nat}
def RM (Y hb ug uc : Nat) (p : Pl) (u : Nat) (U : Value) (bf : Nat → Nat × Nat) (k : Nat) (R : List Th) : List Th := thB Y 3 (ryc hb U (.slice none 0 0)) :: thB hb 340 (rhc p (.slice none 0 0) zEn false (.slice (some ⟨ug, 0, none⟩) u uc)) :: thWd (.slice (some ⟨ug, 0, none⟩) u uc) u wd0 :: thUs U k bf :: ((List.range k).map (rUn bf (fun _ => ⟨0, zPl, false⟩)) ++ R)
theorem rm_step {v : Value} (hS : HS S W w (thB ub 332 (urc pb zPl 0) :: thB pb 460 (rpc false zPl v) :: thB Y 3 (ryc hb U (.slice none 0 0)) :: thB hb 340 (rhc p (.slice none 0 0) zEn false (.slice (some ⟨ug, 0, none⟩) u uc)) :: thWd (.slice (some ⟨ug, 0, none⟩) u uc) u wd0 :: thUs U (k + 1) (addB9 bf k ub pb) :: ((List.range k).map (rUn bf (fun _ => ⟨0, zPl, false⟩)) ++ R))) : HS S W w (RM Y hb ug uc p u U (addB9 bf k ub pb) (k + 1) R) := by
  have h1 := HS.closeU (u := ⟨0, zPl, false⟩) hS
  have h2 := h1.perm (put_end _ [thB Y 3 (ryc hb U (.slice none 0 0)), thB hb 340 (rhc p (.slice none 0 0) zEn false (.slice (some ⟨ug, 0, none⟩) u uc)), thWd (.slice (some ⟨ug, 0, none⟩) u uc) u wd0, thUs U (k + 1) (addB9 bf k ub pb)] ((List.range k).map (rUn bf (fun _ => ⟨0, zPl, false⟩))) R)
  have e : (List.range k).map (rUn bf (fun _ => ⟨0, zPl, false⟩)) ++ [thRU ub pb ⟨0, zPl, false⟩] = (List.range (k + 1)).map (rUn (addB9 bf k ub pb) (fun _ => ⟨0, zPl, false⟩)) := by
    rw [List.range_succ, List.map_append, List.map_singleton]
    congr 1
    · refine List.map_congr_left fun j hj => ?_
      have hj' : j < k := by simpa using hj
      unfold rUn addB9
      simp only [if_neg (show ¬ j = k by omega)]
    · unfold rUn addB9
      simp only [if_pos rfl, if_true]
  rw [e] at h2
  exact h2
theorem rm_end (hS : HS S W w (RM Y hb ug uc p u U bf u R)) : RA S W w ⟨Y, hb, ug, uc, U, bf⟩ (newY p u) R := by
  refine ⟨.slice none 0 0, .slice none 0 0, ?_⟩
  have h1 : HS S W w (thNt (.slice none 0 0) [] :: thQ (.slice none 0 0) [] :: RM Y hb ug uc p u U bf u R) := HS.nilW (HS.nilW hS)
  unfold RM at h1
  unfold RL
  exact h1.perm (perm_n _ _ _ _ _ _)
end
section
variable {S : List Nat} {W w : World} {R : List Th}
set_option maxHeartbeats 16000000 in
theorem ra_new (hS : HS S W w R) (p : Pl) (u : Nat) (hu : 1 ≤ u ∧ u ≤ 16) : Calls Tryz.prog 8 #[.agg (FA 330 (pc p)), .int .i64 (u : Int)] w fun x w' => ∃ D : Rl, x = .returned (.tuple #[.pointer (some ⟨D.Y, 0, none⟩), .int .i64 0]) ∧ RA S W w' D (newY p u) R := by
  have S0 := hid hS
  have HN := hid (fun (w' : World) (L : List Th) (h' : HS S W w' L) => rh_new2 h' p u hu)
  clear hS
  have hu2 := hu.2
  go_enter Tryz.func8, Tryz.ntmps8
  go_upto_region 0 with (fail)
  apply wp_region_lit
  refine wl_ow rfl (ow_box rfl rfl (by omega) S0.out (fun P w1 hZ _ => ?_))
  have S1 := hid hZ
  clear hZ S0
  try simp only [Act.put, List.setIfInBounds_toArray, List.set_cons_zero, List.set_cons_succ]
  go_wp2_with ((with_reducible refine wl_id ?_); refine wl_ow rfl (ow_load 0 rfl 0 330 (pc p) rfl rfl S1.out (by omega) (fun j hj => by rw [Nat.zero_add]) Tryz.underlying33 rfl info_pl ?_))
  refine (HN.out _ _ S1.out).mono ?_
  rintro x w2 ⟨hb, ug, uc, rfl, hZ⟩
  have S2 := hid hZ
  clear hZ S1 HN
  go_simp
  go_upto_region 4 with (fail)
  apply wp_region_lit
  refine wl_val (v := ?_) rfl ?_ ?_; rotate_left; (focus ( go_simp; (try with_reducible rfl))); (try simp only [Act.put, List.setIfInBounds_toArray, List.set_cons_zero, List.set_cons_succ])
  refine wl_val rfl (v := .agg (FA 3 (ryc hb (.slice none 0 0) (.slice none 0 0)))) (by unfold execOp; simp only [List.map_toArray, List.map_cons, List.map_nil]; rw [show Act.eval _ (Operand.tmp 19) = Value.pointer (some ⟨hb, 0, none⟩) from rfl]; simp only [Sem.run_bind, build_ryd, Result.andThen_ok, Sem.run_pure]) ?_
  try simp only [Act.put, List.setIfInBounds_toArray, List.set_cons_zero, List.set_cons_succ]
  refine wl_ow rfl (ow_box rfl rfl (by omega) S2.out (fun Y w3 hZ _ => ?_))
  have S3 : Hid (HS S W w3 (thB Y 3 (ryc hb (.slice none 0 0) (.slice none 0 0)) :: thB hb 340 (rhc p (.slice none 0 0) zEn false (.slice (some ⟨ug, 0, none⟩) u uc)) :: thWd (.slice (some ⟨ug, 0, none⟩) u uc) u wd0 :: thB P 330 (pc p) :: R)) := hid hZ
  clear hZ S2
  try simp only [Act.put, List.setIfInBounds_toArray, List.set_cons_zero, List.set_cons_succ]
  have S4 : Hid (HS S W w3 (RM Y hb ug uc p u (.slice none 0 0) (fun _ => (0, 0)) 0 (thB P 330 (pc p) :: R))) := hid (by
    have h1 : HS S W w3 (thUs (.slice none 0 0) 0 (fun _ => (0, 0)) :: thB Y 3 (ryc hb (.slice none 0 0) (.slice none 0 0)) :: thB hb 340 (rhc p (.slice none 0 0) zEn false (.slice (some ⟨ug, 0, none⟩) u uc)) :: thWd (.slice (some ⟨ug, 0, none⟩) u uc) u wd0 :: thB P 330 (pc p) :: R) := HS.nilW S3.out
    exact h1.perm (perm_4 _ _ _ _ _))
  clear S3
  go_wp2_with fail
  go_loopw [9] (fun i wr => ∃ (k : Nat) (U : Value) (bf : Nat → Nat × Nat), k ≤ u ∧ i = .int .i64 (k : Int) ∧ HS S W wr (RM Y hb ug uc p u U bf k (thB P 330 (pc p) :: R))) (fun i _ => u - (intOf i).toNat)
  case atStart => exact ⟨0, _, _, Nat.zero_le _, rfl, S4.out⟩
  case round =>
    clear S4
    obtain ⟨k, U, bf, hk, rfl, hS⟩ := hrel
    unfold RM at hS
    obtain ⟨A, c, hU, hkc⟩ := thW_form hS 3 rfl
    subst hU
    have S5 := hid hS
    clear hS
    by_cases hlt : (k : Int) < u
    · have hku : k < u := by omega
      go_upto_region 8 with (fail)
      obtain ⟨X, hX⟩ : ∃ X, X = ((List.range k).map (rUn bf (fun _ => ⟨0, zPl, false⟩)) ++ (thB P 330 (pc p) :: R)) := ⟨_, rfl⟩
      rw [← hX] at S5
      have HX := hid hX
      clear hX
      refine wp_region_held_drew (S := fun (w' : World) => True) (by kernel_rfl) ?_ (fun hHeld => ?_)
      · exact trivial
      have F0 := S5.out.drew
      clear S5
      refine tkq 0 hHeld ?_
      refine tkq 1 hHeld ?_
      refine tkq 2 hHeld ?_
      refine tkq 3 hHeld ?_
      refine twoUp 4 5 rfl rfl (by kernel_rfl) rfl rfl (fun K hK => ?_) (fun K hK => ?_)
      · skip
        have c1 : _ = some (Value.slice A k c) := (F0.fb 0 rfl).2.1 1 (by omega)
        refine ov_val (v := .slice A k c) (by go_simp) ?_
        refine hK.out _ _ (trivial) (fun _ => ?_)
        clear hK
        try simp only [Act.put, List.setIfInBounds_toArray, List.set_cons_zero, List.set_cons_succ]
        clear c1
        refine only 5 rfl (by kernel_rfl) rfl (fun K hK => ?_)
        go_simp
        refine (rp_new F0).mono ?_
        rintro x w4 ⟨pb, rfl, F1⟩
        try go_wp2_with fail
        refine hK.out _ _ (trivial) (fun _ => ?_)
        clear hK
        try simp only [Act.put, List.setIfInBounds_toArray, List.set_cons_zero, List.set_cons_succ]
        refine tk 6 (v := (.agg (FA 332 (urc pb zPl 0)))) rfl (by kernel_rfl) (by kernel_rfl) (by kernel_rfl) (fun _ _ _ h => h) rfl (fun w hSw => ex_build1 rfl rfl (build_ru9 pb w)) trivial ?_; (try simp only [Act.put, List.setIfInBounds_toArray, List.set_cons_zero, List.set_cons_succ])
        refine only 7 rfl (by kernel_rfl) rfl (fun K hK => ?_)
        refine ow_box rfl rfl (by omega) F1 (fun ub w5 F2 _ => ?_)
        refine hK.out _ _ (trivial) (fun _ => ?_)
        clear hK
        try simp only [Act.put, List.setIfInBounds_toArray, List.set_cons_zero, List.set_cons_succ]
        refine only 8 rfl (by kernel_rfl) rfl (fun K hK => ?_)
        refine ow_bsU rfl rfl F2 (fun E w6 F3 => ?_)
        refine hK.out _ _ (trivial) (fun _ => ?_)
        clear hK
        try simp only [Act.put, List.setIfInBounds_toArray, List.set_cons_zero, List.set_cons_succ]
        refine only 9 rfl (by kernel_rfl) rfl (fun K hK => ?_)
        obtain ⟨i0, hi, hz0, hz1, hz2⟩ := info_parts info_pu9
        have ES : Sl w6 (some ⟨E, 0, none⟩) (1 * 1) (fun _ => .pointer (some ⟨ub, 0, none⟩)) := Sl.mk (F3.ce 0 rfl).1 (fun j hj => by rw [show j = 0 from by omega]; exact (F3.ce 0 rfl).2.1 0 _ rfl)
        refine ow_appW (A := [thC E [.pointer (some ⟨ub, 0, none⟩)], thB ub 332 (urc pb zPl 0), thB pb 460 (rpc false zPl (.slice none 0 0)), thB Y 3 (ryc hb (.slice A k c) (.slice none 0 0)), thB hb 340 (rhc p (.slice none 0 0) zEn false (.slice (some ⟨ug, 0, none⟩) u uc)), thWd (.slice (some ⟨ug, 0, none⟩) u uc) u wd0]) (L := X) (B := 0) (e := 81) (size := 1) (n := k) (f := rbV bf) (.tmp 31) (.tmp 35) rfl (z := .pointer none) (bytes := 8) Tryz.underlying77 hi hz0 hz1 hz2 rfl (by decide) rfl (X := some ⟨E, 0, none⟩) (m := 1) (c := 1) (f2 := fun _ => .pointer (some ⟨ub, 0, none⟩)) rfl F3 ES (fun j _ => rfl) (by simp only [maxLen]; omega) (by omega) (Nat.zero_le _) (rbV (addB9 bf k ub pb)) (fun j hj => rbv_add _ _ _ _ j hj) (fun A' c' w7 F4 _ _ => ?_)
        clear ES hi hz0 hz1 hz2
        refine hK.out _ _ (trivial) (fun _ => ?_)
        clear hK
        try simp only [Act.put, List.setIfInBounds_toArray, List.set_cons_zero, List.set_cons_succ]
        refine tkq 10 trivial ?_
        refine tkq 11 trivial ?_
        refine only 12 rfl (by kernel_rfl) rfl (fun K hK => ?_)
        have c1 : _ = some (Value.slice A k c) := (F4.fb 3 rfl).2.1 1 (by omega)
        have z1 := (F4.fb 3 rfl).2.2 1
        refine ov_store rfl rfl rfl (w' := w7.setCell ⟨Y, 1, none⟩ (.slice A' (k + 1) c')) (by go_simp) ?_
        have F5 := HS.set1v (A := [thC E [.pointer (some ⟨ub, 0, none⟩)], thB ub 332 (urc pb zPl 0), thB pb 460 (rpc false zPl (.slice none 0 0))]) F4 1 (.slice A' (k + 1) c') (by omega) (ryc hb (.slice A' (k + 1) c') (.slice none 0 0)) (fun j hj => ry_u _ _ _ _ j hj)
        generalize w7.setCell ⟨Y, 1, none⟩ (.slice A' (k + 1) c') = w8 at *
        refine hK.out _ _ (trivial) (fun _ => ?_)
        clear hK
        try simp only [Act.put, List.setIfInBounds_toArray, List.set_cons_zero, List.set_cons_succ]
        clear c1 z1
        have S6 : Hid (HS S W w8 (RM Y hb ug uc p u (.slice A' (k + 1) c') (addB9 bf k ub pb) (k + 1) (thB P 330 (pc p) :: R))) := hid (by have h := F5.tail; rw [HX.out] at h; exact rm_step h)
        clear F5 F4 F3 F2 F1 F0
        refine wpAnyH_done (by kernel_rfl) ?_ _
        go_wp2_with fail
        go_roundw
        case rel => exact ⟨k + 1, _, _, by omega, by go_num, S6.out⟩
        case measure => simp [intOf]; omega
      · skip
        go_simp
        refine (rp_new F0).mono ?_
        rintro x w4 ⟨pb, rfl, F1⟩
        try go_wp2_with fail
        refine hK.out _ _ (trivial) (fun _ => ?_)
        clear hK
        try simp only [Act.put, List.setIfInBounds_toArray, List.set_cons_zero, List.set_cons_succ]
        refine tk 6 (v := (.agg (FA 332 (urc pb zPl 0)))) rfl (by kernel_rfl) (by kernel_rfl) (by kernel_rfl) (fun _ _ _ h => h) rfl (fun w hSw => ex_build1 rfl rfl (build_ru9 pb w)) trivial ?_; (try simp only [Act.put, List.setIfInBounds_toArray, List.set_cons_zero, List.set_cons_succ])
        refine twoUp 4 7 rfl rfl (by kernel_rfl) rfl rfl (fun K hK => ?_) (fun K hK => ?_)
        · skip
          have c1 : _ = some (Value.slice A k c) := (F1.fb 1 rfl).2.1 1 (by omega)
          refine ov_val (v := .slice A k c) (by go_simp) ?_
          refine hK.out _ _ (trivial) (fun _ => ?_)
          clear hK
          try simp only [Act.put, List.setIfInBounds_toArray, List.set_cons_zero, List.set_cons_succ]
          clear c1
          refine only 7 rfl (by kernel_rfl) rfl (fun K hK => ?_)
          refine ow_box rfl rfl (by omega) F1 (fun ub w5 F2 _ => ?_)
          refine hK.out _ _ (trivial) (fun _ => ?_)
          clear hK
          try simp only [Act.put, List.setIfInBounds_toArray, List.set_cons_zero, List.set_cons_succ]
          refine only 8 rfl (by kernel_rfl) rfl (fun K hK => ?_)
          refine ow_bsU rfl rfl F2 (fun E w6 F3 => ?_)
          refine hK.out _ _ (trivial) (fun _ => ?_)
          clear hK
          try simp only [Act.put, List.setIfInBounds_toArray, List.set_cons_zero, List.set_cons_succ]
          refine only 9 rfl (by kernel_rfl) rfl (fun K hK => ?_)
          obtain ⟨i0, hi, hz0, hz1, hz2⟩ := info_parts info_pu9
          have ES : Sl w6 (some ⟨E, 0, none⟩) (1 * 1) (fun _ => .pointer (some ⟨ub, 0, none⟩)) := Sl.mk (F3.ce 0 rfl).1 (fun j hj => by rw [show j = 0 from by omega]; exact (F3.ce 0 rfl).2.1 0 _ rfl)
          refine ow_appW (A := [thC E [.pointer (some ⟨ub, 0, none⟩)], thB ub 332 (urc pb zPl 0), thB pb 460 (rpc false zPl (.slice none 0 0)), thB Y 3 (ryc hb (.slice A k c) (.slice none 0 0)), thB hb 340 (rhc p (.slice none 0 0) zEn false (.slice (some ⟨ug, 0, none⟩) u uc)), thWd (.slice (some ⟨ug, 0, none⟩) u uc) u wd0]) (L := X) (B := 0) (e := 81) (size := 1) (n := k) (f := rbV bf) (.tmp 31) (.tmp 35) rfl (z := .pointer none) (bytes := 8) Tryz.underlying77 hi hz0 hz1 hz2 rfl (by decide) rfl (X := some ⟨E, 0, none⟩) (m := 1) (c := 1) (f2 := fun _ => .pointer (some ⟨ub, 0, none⟩)) rfl F3 ES (fun j _ => rfl) (by simp only [maxLen]; omega) (by omega) (Nat.zero_le _) (rbV (addB9 bf k ub pb)) (fun j hj => rbv_add _ _ _ _ j hj) (fun A' c' w7 F4 _ _ => ?_)
          clear ES hi hz0 hz1 hz2
          refine hK.out _ _ (trivial) (fun _ => ?_)
          clear hK
          try simp only [Act.put, List.setIfInBounds_toArray, List.set_cons_zero, List.set_cons_succ]
          refine tkq 10 trivial ?_
          refine tkq 11 trivial ?_
          refine only 12 rfl (by kernel_rfl) rfl (fun K hK => ?_)
          have c1 : _ = some (Value.slice A k c) := (F4.fb 3 rfl).2.1 1 (by omega)
          have z1 := (F4.fb 3 rfl).2.2 1
          refine ov_store rfl rfl rfl (w' := w7.setCell ⟨Y, 1, none⟩ (.slice A' (k + 1) c')) (by go_simp) ?_
          have F5 := HS.set1v (A := [thC E [.pointer (some ⟨ub, 0, none⟩)], thB ub 332 (urc pb zPl 0), thB pb 460 (rpc false zPl (.slice none 0 0))]) F4 1 (.slice A' (k + 1) c') (by omega) (ryc hb (.slice A' (k + 1) c') (.slice none 0 0)) (fun j hj => ry_u _ _ _ _ j hj)
          generalize w7.setCell ⟨Y, 1, none⟩ (.slice A' (k + 1) c') = w8 at *
          refine hK.out _ _ (trivial) (fun _ => ?_)
          clear hK
          try simp only [Act.put, List.setIfInBounds_toArray, List.set_cons_zero, List.set_cons_succ]
          clear c1 z1
          have S6 : Hid (HS S W w8 (RM Y hb ug uc p u (.slice A' (k + 1) c') (addB9 bf k ub pb) (k + 1) (thB P 330 (pc p) :: R))) := hid (by have h := F5.tail; rw [HX.out] at h; exact rm_step h)
          clear F5 F4 F3 F2 F1 F0
          refine wpAnyH_done (by kernel_rfl) ?_ _
          go_wp2_with fail
          go_roundw
          case rel => exact ⟨k + 1, _, _, by omega, by go_num, S6.out⟩
          case measure => simp [intOf]; omega
        · skip
          refine ow_box rfl rfl (by omega) F1 (fun ub w5 F2 _ => ?_)
          refine hK.out _ _ (trivial) (fun _ => ?_)
          clear hK
          try simp only [Act.put, List.setIfInBounds_toArray, List.set_cons_zero, List.set_cons_succ]
          refine twoUp 4 8 rfl rfl (by kernel_rfl) rfl rfl (fun K hK => ?_) (fun K hK => ?_)
          · skip
            have c1 : _ = some (Value.slice A k c) := (F2.fb 2 rfl).2.1 1 (by omega)
            refine ov_val (v := .slice A k c) (by go_simp) ?_
            refine hK.out _ _ (trivial) (fun _ => ?_)
            clear hK
            try simp only [Act.put, List.setIfInBounds_toArray, List.set_cons_zero, List.set_cons_succ]
            clear c1
            refine only 8 rfl (by kernel_rfl) rfl (fun K hK => ?_)
            refine ow_bsU rfl rfl F2 (fun E w6 F3 => ?_)
            refine hK.out _ _ (trivial) (fun _ => ?_)
            clear hK
            try simp only [Act.put, List.setIfInBounds_toArray, List.set_cons_zero, List.set_cons_succ]
            refine only 9 rfl (by kernel_rfl) rfl (fun K hK => ?_)
            obtain ⟨i0, hi, hz0, hz1, hz2⟩ := info_parts info_pu9
            have ES : Sl w6 (some ⟨E, 0, none⟩) (1 * 1) (fun _ => .pointer (some ⟨ub, 0, none⟩)) := Sl.mk (F3.ce 0 rfl).1 (fun j hj => by rw [show j = 0 from by omega]; exact (F3.ce 0 rfl).2.1 0 _ rfl)
            refine ow_appW (A := [thC E [.pointer (some ⟨ub, 0, none⟩)], thB ub 332 (urc pb zPl 0), thB pb 460 (rpc false zPl (.slice none 0 0)), thB Y 3 (ryc hb (.slice A k c) (.slice none 0 0)), thB hb 340 (rhc p (.slice none 0 0) zEn false (.slice (some ⟨ug, 0, none⟩) u uc)), thWd (.slice (some ⟨ug, 0, none⟩) u uc) u wd0]) (L := X) (B := 0) (e := 81) (size := 1) (n := k) (f := rbV bf) (.tmp 31) (.tmp 35) rfl (z := .pointer none) (bytes := 8) Tryz.underlying77 hi hz0 hz1 hz2 rfl (by decide) rfl (X := some ⟨E, 0, none⟩) (m := 1) (c := 1) (f2 := fun _ => .pointer (some ⟨ub, 0, none⟩)) rfl F3 ES (fun j _ => rfl) (by simp only [maxLen]; omega) (by omega) (Nat.zero_le _) (rbV (addB9 bf k ub pb)) (fun j hj => rbv_add _ _ _ _ j hj) (fun A' c' w7 F4 _ _ => ?_)
            clear ES hi hz0 hz1 hz2
            refine hK.out _ _ (trivial) (fun _ => ?_)
            clear hK
            try simp only [Act.put, List.setIfInBounds_toArray, List.set_cons_zero, List.set_cons_succ]
            refine tkq 10 trivial ?_
            refine tkq 11 trivial ?_
            refine only 12 rfl (by kernel_rfl) rfl (fun K hK => ?_)
            have c1 : _ = some (Value.slice A k c) := (F4.fb 3 rfl).2.1 1 (by omega)
            have z1 := (F4.fb 3 rfl).2.2 1
            refine ov_store rfl rfl rfl (w' := w7.setCell ⟨Y, 1, none⟩ (.slice A' (k + 1) c')) (by go_simp) ?_
            have F5 := HS.set1v (A := [thC E [.pointer (some ⟨ub, 0, none⟩)], thB ub 332 (urc pb zPl 0), thB pb 460 (rpc false zPl (.slice none 0 0))]) F4 1 (.slice A' (k + 1) c') (by omega) (ryc hb (.slice A' (k + 1) c') (.slice none 0 0)) (fun j hj => ry_u _ _ _ _ j hj)
            generalize w7.setCell ⟨Y, 1, none⟩ (.slice A' (k + 1) c') = w8 at *
            refine hK.out _ _ (trivial) (fun _ => ?_)
            clear hK
            try simp only [Act.put, List.setIfInBounds_toArray, List.set_cons_zero, List.set_cons_succ]
            clear c1 z1
            have S6 : Hid (HS S W w8 (RM Y hb ug uc p u (.slice A' (k + 1) c') (addB9 bf k ub pb) (k + 1) (thB P 330 (pc p) :: R))) := hid (by have h := F5.tail; rw [HX.out] at h; exact rm_step h)
            clear F5 F4 F3 F2 F1 F0
            refine wpAnyH_done (by kernel_rfl) ?_ _
            go_wp2_with fail
            go_roundw
            case rel => exact ⟨k + 1, _, _, by omega, by go_num, S6.out⟩
            case measure => simp [intOf]; omega
          · skip
            refine ow_bsU rfl rfl F2 (fun E w6 F3 => ?_)
            refine hK.out _ _ (trivial) (fun _ => ?_)
            clear hK
            try simp only [Act.put, List.setIfInBounds_toArray, List.set_cons_zero, List.set_cons_succ]
            refine only 4 rfl (by kernel_rfl) rfl (fun K hK => ?_)
            have c1 : _ = some (Value.slice A k c) := (F3.fb 3 rfl).2.1 1 (by omega)
            refine ov_val (v := .slice A k c) (by go_simp) ?_
            refine hK.out _ _ (trivial) (fun _ => ?_)
            clear hK
            try simp only [Act.put, List.setIfInBounds_toArray, List.set_cons_zero, List.set_cons_succ]
            clear c1
            refine only 9 rfl (by kernel_rfl) rfl (fun K hK => ?_)
            obtain ⟨i0, hi, hz0, hz1, hz2⟩ := info_parts info_pu9
            have ES : Sl w6 (some ⟨E, 0, none⟩) (1 * 1) (fun _ => .pointer (some ⟨ub, 0, none⟩)) := Sl.mk (F3.ce 0 rfl).1 (fun j hj => by rw [show j = 0 from by omega]; exact (F3.ce 0 rfl).2.1 0 _ rfl)
            refine ow_appW (A := [thC E [.pointer (some ⟨ub, 0, none⟩)], thB ub 332 (urc pb zPl 0), thB pb 460 (rpc false zPl (.slice none 0 0)), thB Y 3 (ryc hb (.slice A k c) (.slice none 0 0)), thB hb 340 (rhc p (.slice none 0 0) zEn false (.slice (some ⟨ug, 0, none⟩) u uc)), thWd (.slice (some ⟨ug, 0, none⟩) u uc) u wd0]) (L := X) (B := 0) (e := 81) (size := 1) (n := k) (f := rbV bf) (.tmp 31) (.tmp 35) rfl (z := .pointer none) (bytes := 8) Tryz.underlying77 hi hz0 hz1 hz2 rfl (by decide) rfl (X := some ⟨E, 0, none⟩) (m := 1) (c := 1) (f2 := fun _ => .pointer (some ⟨ub, 0, none⟩)) rfl F3 ES (fun j _ => rfl) (by simp only [maxLen]; omega) (by omega) (Nat.zero_le _) (rbV (addB9 bf k ub pb)) (fun j hj => rbv_add _ _ _ _ j hj) (fun A' c' w7 F4 _ _ => ?_)
            clear ES hi hz0 hz1 hz2
            refine hK.out _ _ (trivial) (fun _ => ?_)
            clear hK
            try simp only [Act.put, List.setIfInBounds_toArray, List.set_cons_zero, List.set_cons_succ]
            refine tkq 10 trivial ?_
            refine tkq 11 trivial ?_
            refine only 12 rfl (by kernel_rfl) rfl (fun K hK => ?_)
            have c1 : _ = some (Value.slice A k c) := (F4.fb 3 rfl).2.1 1 (by omega)
            have z1 := (F4.fb 3 rfl).2.2 1
            refine ov_store rfl rfl rfl (w' := w7.setCell ⟨Y, 1, none⟩ (.slice A' (k + 1) c')) (by go_simp) ?_
            have F5 := HS.set1v (A := [thC E [.pointer (some ⟨ub, 0, none⟩)], thB ub 332 (urc pb zPl 0), thB pb 460 (rpc false zPl (.slice none 0 0))]) F4 1 (.slice A' (k + 1) c') (by omega) (ryc hb (.slice A' (k + 1) c') (.slice none 0 0)) (fun j hj => ry_u _ _ _ _ j hj)
            generalize w7.setCell ⟨Y, 1, none⟩ (.slice A' (k + 1) c') = w8 at *
            refine hK.out _ _ (trivial) (fun _ => ?_)
            clear hK
            try simp only [Act.put, List.setIfInBounds_toArray, List.set_cons_zero, List.set_cons_succ]
            clear c1 z1
            have S6 : Hid (HS S W w8 (RM Y hb ug uc p u (.slice A' (k + 1) c') (addB9 bf k ub pb) (k + 1) (thB P 330 (pc p) :: R))) := hid (by have h := F5.tail; rw [HX.out] at h; exact rm_step h)
            clear F5 F4 F3 F2 F1 F0
            refine wpAnyH_done (by kernel_rfl) ?_ _
            go_wp2_with fail
            go_roundw
            case rel => exact ⟨k + 1, _, _, by omega, by go_num, S6.out⟩
            case measure => simp [intOf]; omega
    · have hku : k = u := by omega
      subst hku
      have E := hid (rm_end (HS.sub S5.out (by unfold RM; exact List.Sublist.cons_cons _ (List.Sublist.cons_cons _ (List.Sublist.cons_cons _ (List.Sublist.cons_cons _ (List.Sublist.append (List.Sublist.refl _) (List.sublist_cons_self _ _))))))))
      clear S5
      go_wp2_with fail
      go_ret2
      exact ⟨⟨Y, hb, ug, uc, _, bf⟩, rfl, E.out⟩
end
end Go.Proofs.YteefhiniamajkaaGreat
namespace Go.Proofs.YteefhiniamajkaaGreat
set_option linter.unusedVariables false
set_option linter.unusedSimpArgs false
open Go.RowKit Go.ChangeShapes Go.WideShapes Go.ChangeAt
set_option maxRecDepth 100000
section
variable {S : List Nat} {W w w' : World} {D : Rl} {y : Yd} {R : List Th} {V Q : Value} {x : Nt} {k B : Nat}
theorem rl_fb {l : List Nt} {A : Option Addr} {c : Nat} (hO : Ow w 0 88 342 (.slice A l.length c) l.length (ntf l)) (h0 : 0 < l.length) : ∃ g : Nat, A = some ⟨g, 0, none⟩ ∧ Fb w g (l.length * 342) (ntf l) := by
  obtain ⟨g, hg, _, hl, hc, hf⟩ := hO.block_ h0
  exact ⟨g, hg, hl, hc, hf⟩
theorem heard_wd (h : Hd) (n : Nt) (hak : n.ak = true) (hu : 0 ≤ n.u ∧ n.u < h.un) (wd' : Nat → Wd) (hw : ∀ j, wd' j = if j = n.u.toNat ∧ cntB (h.wd n.u.toNat) ⟨n.b, mx n.v⟩ = true then ⟨n.b, mx n.v⟩ else h.wd j) : heardH h n = { h with wd := wd' } := by
  have e : earB h n = true := by unfold earB; rw [hak]; simp [hu.1, hu.2]
  unfold heardH
  rw [if_pos e]
  by_cases hc : cntB (h.wd n.u.toNat) ⟨n.b, mx n.v⟩ = true
  · rw [if_pos hc]
    congr 1
    funext j
    rw [hw j]
    unfold setW
    by_cases hj : j = n.u.toNat
    · rw [if_pos hj, if_pos ⟨hj, hc⟩]
    · rw [if_neg hj, if_neg (fun h => hj h.1)]
  · rw [if_neg hc]
    have e2 : wd' = h.wd := by
      funext j
      rw [hw j, if_neg (fun h => hc h.2)]
    rw [e2]
theorem rl_heard {wd' : Nat → Wd} {ns : List Nt} (hS : HS S W w (thB D.hb 340 (rhc y.h.pl Q y.h.la (y.h.la.k != 0) (.slice (some ⟨D.ug, 0, none⟩) y.h.un D.uc)) :: thWd (.slice (some ⟨D.ug, 0, none⟩) y.h.un D.uc) y.h.un wd' :: thB D.Y 3 (ryc D.hb D.U V) :: thNt V ns :: thQ Q y.h.q :: thUs D.U y.h.un D.bf :: ((List.range y.h.un).map (rUn D.bf y.uf) ++ (thB B 342 (ntc x) :: R)))) : RA S W w D ⟨{ y.h with wd := wd' }, y.uf, ns⟩ R := by
  refine ⟨V, Q, ?_⟩
  have h1 : HS S W w (RL D V Q ⟨{ y.h with wd := wd' }, y.uf, ns⟩ (thB B 342 (ntc x) :: R)) := by
    unfold RL
    exact hS.perm (perm_h _ _ _ _ _ _).symm
  exact (rl_out h1).tail
theorem rl_fin {X : List Th} {u : Uy} {v : Value} {l : List Nt} (hX : X = ((thB D.hb 340 (rhc y.h.pl Q y.h.la (y.h.la.k != 0) (.slice (some ⟨D.ug, 0, none⟩) y.h.un D.uc))) :: thQ Q y.h.q :: thWd (.slice (some ⟨D.ug, 0, none⟩) y.h.un D.uc) y.h.un y.h.wd :: thUs D.U y.h.un D.bf :: ((((List.range y.h.un).map (rUn D.bf y.uf)).take k ++ ((List.range y.h.un).map (rUn D.bf y.uf)).drop (k + 1)) ++ (thB B 342 (ntc x) :: R)))) (hk : k < y.h.un) (hS : HS S W w (thB (D.bf k).1 332 (urc (D.bf k).2 u.p u.b) :: thB (D.bf k).2 460 (rpc u.up u.p v) :: thB D.Y 3 (ryc D.hb D.U V) :: thNt V l :: X)) : RA S W w D ⟨y.h, setU y.uf k u, l⟩ R := by
  subst hX
  have h1 := HS.closeU hS
  have h2 : HS S W w (RL D V Q ⟨y.h, setU y.uf k u, l⟩ (thB B 342 (ntc x) :: R)) := rl_close (y := ⟨y.h, y.uf, l⟩) h1 hk
  exact ⟨V, Q, (rl_out h2).tail⟩
end
attribute [local irreducible] FA FL
section
variable {S : List Nat} {W w w' : World} {D : Rl} {y : Yd} {R : List Th} {V Q : Value}
set_option maxHeartbeats 16000000 in
theorem ra_delA (h : RA S W w D y R) (i : Nat) (x : Nt) (hx : y.ns[i]? = some x) (hak : x.ak = true) (hu : 0 ≤ x.u ∧ x.u < y.h.un) (hn : y.ns.length ≤ 900000) : Calls Tryz.prog 14 #[.pointer (some ⟨D.Y, 0, none⟩), .int .i64 (i : Int), .bool false] w fun e w' => e = .returned (.bool true) ∧ RA S W w' D ⟨heardH y.h x, y.uf, y.ns.eraseIdx i⟩ R := by
  have HAK := hid hak
  have HU := hid hu
  clear hak hu
  obtain ⟨V, Q, hS⟩ := h
  have hi : i < y.ns.length := (List.getElem?_eq_some_iff.1 hx).1
  obtain ⟨A, c, hV, hc⟩ := rl_V hS
  subst hV
  have c2 : w.cell? ⟨D.Y, 2, none⟩ = some (.slice A y.ns.length c) := rl_c2 hS
  obtain ⟨g, hg, hF⟩ := rl_fb (show Ow w 0 _ 342 (.slice A y.ns.length c) y.ns.length (ntf y.ns) from hS.nth 1 rfl) (by omega)
  subst hg
  obtain ⟨n, hn0⟩ : ∃ n, n = y.ns.length := ⟨_, rfl⟩
  have S0 := hid hS
  have HF := hid hF
  have HXX := hid hx
  have HI := hid hi
  have HN := hid hn
  have HN0 := hid hn0
  rw [← hn0] at c2
  have i0 : (0 : Int) ≤ i := by omega
  have i1 : (i : Int) < n := by omega
  have i2 : (0 : Nat) ≤ i := Nat.zero_le _
  have i3 : i < n := by omega
  clear hS hF hx hc hi hn hn0
  go_enter Tryz.func14, Tryz.ntmps14
  go_upto_region 3 with (fail)
  apply wp_region_lit
  refine wl_val (v := ?_) rfl ?_ ?_; rotate_left; (focus ( go_simp; (try with_reducible rfl))); (try simp only [Act.put, List.setIfInBounds_toArray, List.set_cons_zero, List.set_cons_succ])
  refine wl_val (v := ?_) rfl ?_ ?_; rotate_left; (focus ( go_simp; (try with_reducible rfl))); (try simp only [Act.put, List.setIfInBounds_toArray, List.set_cons_zero, List.set_cons_succ])
  refine wl_val (v := ?_) rfl ?_ ?_; rotate_left; (focus ( go_simp; (try with_reducible rfl))); (try simp only [Act.put, List.setIfInBounds_toArray, List.set_cons_zero, List.set_cons_succ])
  refine wl_val (v := ?_) rfl ?_ ?_; rotate_left; (focus ( go_simp; (try with_reducible rfl))); (try simp only [Act.put, List.setIfInBounds_toArray, List.set_cons_zero, List.set_cons_succ])
  refine wl_val (v := ?_) rfl ?_ ?_; rotate_left; (focus ( go_simp; (try with_reducible rfl))); (try simp only [Act.put, List.setIfInBounds_toArray, List.set_cons_zero, List.set_cons_succ])
  refine wl_val (v := ?_) rfl ?_ ?_; rotate_left; (focus ( go_simp; (try with_reducible rfl))); (try simp only [Act.put, List.setIfInBounds_toArray, List.set_cons_zero, List.set_cons_succ])
  refine wl_ow rfl (ov_val (ex_load rfl rfl (HF.out.load (i * 342) 342 (ntc x) (by have := HN0.out; omega) (fun j hj => ntf_at y.ns i j x HXX.out hj) Tryz.underlying88 rfl info_nt2)) ?_)
  try simp only [Act.put, List.setIfInBounds_toArray, List.set_cons_zero, List.set_cons_succ]
  refine wl_ow rfl (ow_alloc rfl (znt2 _) (by omega) S0.out (fun B w4 hZ _ => ?_))
  have S1 := hid hZ
  clear hZ S0 HF c2
  try simp only [Act.put, List.setIfInBounds_toArray, List.set_cons_zero, List.set_cons_succ]
  refine wl_ow rfl (ow_store (A := []) 0 342 (ntc x) (ntc x) rfl rfl rfl S1.out (by omega) (fun j hj => patch_all _ _ _ j hj) info_nt2 (ntc_one _) ?_)
  intro w5 hZ
  have S2 : Hid (HS S W w5 (thB B 342 (ntc x) :: RL D (.slice (some ⟨g, 0, none⟩) y.ns.length c) Q y R)) := hid hZ
  clear hZ S1
  try simp only [Act.put, List.setIfInBounds_toArray, List.set_cons_zero, List.set_cons_succ]
  go_upto_region 5 with (fail)
  go_wp2_with fail
  refine (ra_lose (R := thB B 342 (ntc x) :: R) ⟨_, _, rl_in S2.out⟩ i HI.out HN.out).mono ?_
  rintro e w6 ⟨rfl, hA⟩
  have b4 : w6.cell? ⟨B, 4, none⟩ = some (.bool true) := ((RA.memR (t := thB B 342 (ntc x)) hA (by simp)).2.1 4 (by omega)).trans (by rw [← HAK.out]; rfl)
  have S3 := hid hA
  clear hA S2
  go_simp
  go_upto_region 7 with (fail)
  obtain ⟨V2, Q2, hS⟩ := S3.out
  unfold RL at hS
  have S4 := hid (hS.perm (perm_h _ _ _ _ _ _))
  clear hS S3 b4
  obtain ⟨X, hX⟩ : ∃ X, X = thUs D.U (loY y i).h.un D.bf :: ((List.range (loY y i).h.un).map (rUn D.bf (loY y i).uf) ++ (thB B 342 (ntc x) :: R)) := ⟨_, rfl⟩
  have hm : thB B 342 (ntc x) ∈ X := by rw [hX]; simp
  rw [← hX] at S4
  have HX := hid hX
  have HM := hid hm
  clear hX hm
  refine wp_region_held_drew (S := fun (w' : World) => w'.cell? ⟨D.Y, 0, none⟩ = some (.pointer (some ⟨D.hb, 0, none⟩)) ∧ Fb w' B 342 (ntc x)) (by kernel_rfl) ?_ (fun hHeld => ?_)
  · exact ⟨(S4.out.drew.fb 2 rfl).2.1 0 (by omega), S4.out.drew.1 (thB B 342 (ntc x)) (by simp only [List.mem_cons]; simp [HM.out])⟩
  have F0 := S4.out.drew
  refine tkq 0 hHeld ?_
  refine tkq 1 hHeld ?_
  refine tkq 2 hHeld ?_
  refine tkq 3 hHeld ?_ (hy := by intro w hSw; (try dsimp only at hSw); have x0 := hSw.1; go_simp; (try with_reducible rfl))
  refine tk 4 (v := (.agg (FA 342 (ntc x)))) rfl (by kernel_rfl) (by kernel_rfl) (by kernel_rfl) (fun _ _ _ h => h) rfl (fun w hSw => ex_load rfl rfl (hSw.2.load 0 342 (ntc x) (by omega) (fun j hj => by rw [Nat.zero_add]) Tryz.underlying88 rfl info_nt2)) hHeld ?_; (try simp only [Act.put, List.setIfInBounds_toArray, List.set_cons_zero, List.set_cons_succ])
  refine only 5 rfl (by kernel_rfl) rfl (fun K hK => ?_)
  go_simp
  refine (rh_heard F0 x HAK.out HU.out).mono ?_
  rintro e w7 ⟨rfl, wd', hwd, F1⟩
  try go_wp2_with fail
  refine hK.out _ _ ⟨(F1.fb 2 rfl).2.1 0 (by omega), F1.1 (thB B 342 (ntc x)) (by simp only [List.mem_cons]; simp [HM.out])⟩ (fun _ => ?_)
  clear hK
  try simp only [Act.put, List.setIfInBounds_toArray, List.set_cons_zero, List.set_cons_succ]
  have E := hid (heard_wd y.h x HAK.out HU.out wd' hwd)
  clear hwd F0 hHeld S4
  refine wpAnyH_done (by kernel_rfl) ?_ _
  go_wp2_with fail
  go_ret
  refine ⟨rfl, ?_⟩
  rw [E.out]
  rw [HX.out] at F1
  exact rl_heard F1
set_option maxHeartbeats 16000000 in
theorem ra_delM (h : RA S W w D y R) (i : Nat) (x : Nt) (hx : y.ns[i]? = some x) (hak : x.ak = false) (k : Nat) (hku : x.u = (k : Int)) (hk : k < y.h.un) (hp : PB (y.uf k).p) (hw : (readU x (y.uf k)).up = true → Pw (readU x (y.uf k)).p) (hv : (y.uf k).up = true → 0 ≤ (y.uf k).p.v ∧ (y.uf k).p.v ≤ 100000) (hnv : x.b = (y.uf k).b → x.wh = true → x.p.v = x.v ∧ 0 ≤ x.v) (hn : y.ns.length ≤ 900000) :
    Calls Tryz.prog 14 #[.pointer (some ⟨D.Y, 0, none⟩), .int .i64 (i : Int), .bool false] w fun e w' => e = .returned (.bool true) ∧ RA S W w' D ⟨y.h, setU y.uf k (readU x (y.uf k)), y.ns.eraseIdx i ++ [ackU k (readU x (y.uf k))]⟩ R := by
  have HAK := hid hak
  have HKU := hid hku
  have HK := hid hk
  have CO := hid (fun (S' : List Nat) (W' w' : World) (L : List Th) (v : Value) (h' : HS S' W' w' (thB (D.bf k).1 332 (urc (D.bf k).2 (y.uf k).p (y.uf k).b) :: thB (D.bf k).2 460 (rpc (y.uf k).up (y.uf k).p v) :: L)) => ru_come h' x hp hw hv hnv)
  clear hak hku hk hp hw hv hnv
  obtain ⟨V, Q, hS⟩ := h
  have hi : i < y.ns.length := (List.getElem?_eq_some_iff.1 hx).1
  obtain ⟨A, c, hV, hc⟩ := rl_V hS
  subst hV
  have c2 : w.cell? ⟨D.Y, 2, none⟩ = some (.slice A y.ns.length c) := rl_c2 hS
  obtain ⟨g, hg, hF⟩ := rl_fb (show Ow w 0 _ 342 (.slice A y.ns.length c) y.ns.length (ntf y.ns) from hS.nth 1 rfl) (by omega)
  subst hg
  obtain ⟨n, hn0⟩ : ∃ n, n = y.ns.length := ⟨_, rfl⟩
  have S0 := hid hS
  have HF := hid hF
  have HXX := hid hx
  have HI := hid hi
  have HN := hid hn
  have HN0 := hid hn0
  rw [← hn0] at c2
  have i0 : (0 : Int) ≤ i := by omega
  have i1 : (i : Int) < n := by omega
  have i2 : (0 : Nat) ≤ i := Nat.zero_le _
  have i3 : i < n := by omega
  clear hS hF hx hc hi hn hn0
  go_enter Tryz.func14, Tryz.ntmps14
  go_upto_region 3 with (fail)
  apply wp_region_lit
  refine wl_val (v := ?_) rfl ?_ ?_; rotate_left; (focus ( go_simp; (try with_reducible rfl))); (try simp only [Act.put, List.setIfInBounds_toArray, List.set_cons_zero, List.set_cons_succ])
  refine wl_val (v := ?_) rfl ?_ ?_; rotate_left; (focus ( go_simp; (try with_reducible rfl))); (try simp only [Act.put, List.setIfInBounds_toArray, List.set_cons_zero, List.set_cons_succ])
  refine wl_val (v := ?_) rfl ?_ ?_; rotate_left; (focus ( go_simp; (try with_reducible rfl))); (try simp only [Act.put, List.setIfInBounds_toArray, List.set_cons_zero, List.set_cons_succ])
  refine wl_val (v := ?_) rfl ?_ ?_; rotate_left; (focus ( go_simp; (try with_reducible rfl))); (try simp only [Act.put, List.setIfInBounds_toArray, List.set_cons_zero, List.set_cons_succ])
  refine wl_val (v := ?_) rfl ?_ ?_; rotate_left; (focus ( go_simp; (try with_reducible rfl))); (try simp only [Act.put, List.setIfInBounds_toArray, List.set_cons_zero, List.set_cons_succ])
  refine wl_val (v := ?_) rfl ?_ ?_; rotate_left; (focus ( go_simp; (try with_reducible rfl))); (try simp only [Act.put, List.setIfInBounds_toArray, List.set_cons_zero, List.set_cons_succ])
  refine wl_ow rfl (ov_val (ex_load rfl rfl (HF.out.load (i * 342) 342 (ntc x) (by have := HN0.out; omega) (fun j hj => ntf_at y.ns i j x HXX.out hj) Tryz.underlying88 rfl info_nt2)) ?_)
  try simp only [Act.put, List.setIfInBounds_toArray, List.set_cons_zero, List.set_cons_succ]
  refine wl_ow rfl (ow_alloc rfl (znt2 _) (by omega) S0.out (fun B w4 hZ _ => ?_))
  have S1 := hid hZ
  clear hZ S0 HF c2
  try simp only [Act.put, List.setIfInBounds_toArray, List.set_cons_zero, List.set_cons_succ]
  refine wl_ow rfl (ow_store (A := []) 0 342 (ntc x) (ntc x) rfl rfl rfl S1.out (by omega) (fun j hj => patch_all _ _ _ j hj) info_nt2 (ntc_one _) ?_)
  intro w5 hZ
  have S2 : Hid (HS S W w5 (thB B 342 (ntc x) :: RL D (.slice (some ⟨g, 0, none⟩) y.ns.length c) Q y R)) := hid hZ
  clear hZ S1
  try simp only [Act.put, List.setIfInBounds_toArray, List.set_cons_zero, List.set_cons_succ]
  go_upto_region 5 with (fail)
  go_wp2_with fail
  refine (ra_lose (R := thB B 342 (ntc x) :: R) ⟨_, _, rl_in S2.out⟩ i HI.out HN.out).mono ?_
  rintro e w6 ⟨rfl, hA⟩
  have b4 : w6.cell? ⟨B, 4, none⟩ = some (.bool false) := ((RA.memR (t := thB B 342 (ntc x)) hA (by simp)).2.1 4 (by omega)).trans (by rw [← HAK.out]; rfl)
  have S3 := hid hA
  clear hA S2
  go_simp
  go_upto_region 8 with (fail)
  obtain ⟨V2, Q, hS⟩ := S3.out
  obtain ⟨A2, c2', hU, hcU⟩ := rl_U hS
  have hk : k < y.h.un := HK.out
  obtain ⟨v, hS2⟩ := (rl_open (y := loY y i) hS hk).openU
  unfold RLx at hS2
  obtain ⟨X, hX⟩ : ∃ X, X = ((thB D.hb 340 (rhc y.h.pl Q y.h.la (y.h.la.k != 0) (.slice (some ⟨D.ug, 0, none⟩) y.h.un D.uc))) :: thQ Q y.h.q :: thWd (.slice (some ⟨D.ug, 0, none⟩) y.h.un D.uc) y.h.un y.h.wd :: thUs D.U y.h.un D.bf :: ((((List.range y.h.un).map (rUn D.bf y.uf)).take k ++ ((List.range y.h.un).map (rUn D.bf y.uf)).drop (k + 1)) ++ (thB B 342 (ntc x) :: R))) := ⟨_, rfl⟩
  have hS3 : HS S W w6 (thB (D.bf k).1 332 (urc (D.bf k).2 (y.uf k).p (y.uf k).b) :: thB (D.bf k).2 460 (rpc (y.uf k).up (y.uf k).p v) :: thB D.Y 3 (ryc D.hb D.U V2) :: thNt V2 (y.ns.eraseIdx i) :: X) := by rw [hX]; exact hS2
  have hO : Ow w6 0 81 1 D.U y.h.un (rbV D.bf) := hS.nth 5 rfl
  have hU' : D.U = .slice A2 y.h.un c2' := hU
  rw [hU'] at hO
  obtain ⟨G, hG, _⟩ := hO.block_ (by omega)
  subst hG
  obtain ⟨un, hun⟩ : ∃ un, un = y.h.un := ⟨_, rfl⟩
  have hmB : thB B 342 (ntc x) ∈ X := by rw [hX]; simp
  have hmU : thUs D.U y.h.un D.bf ∈ X := by rw [hX]; simp
  have CF := hid (fun (w' : World) (L : List Th) (V' : Value) (h' : HS S W w' L) (hx1 : ∀ t, t ∈ X → t ∈ L) (hy : thB D.Y 3 (ryc D.hb D.U V') ∈ L) => (show w'.cell? ⟨D.Y, 1, none⟩ = some (.slice (some ⟨G, 0, none⟩) un c2') ∧ w'.cell? ⟨G, k, none⟩ = some (.pointer (some ⟨(D.bf k).1, 0, none⟩)) ∧ Fb w' B 342 (ntc x) from by
    refine ⟨?_, ?_, h'.1 _ (hx1 _ hmB)⟩
    · have h1 : Fb w' D.Y 3 (ryc D.hb D.U V') := h'.1 _ hy
      rw [hun, ← hU']
      exact h1.2.1 1 (by omega)
    · have h1 : Ow w' 0 81 1 D.U y.h.un (rbV D.bf) := h'.1 _ (hx1 _ hmU)
      rw [hU'] at h1
      obtain ⟨G2, hG2, _, _, hcell, _⟩ := h1.block_ (by omega)
      injection hG2 with hG2
      injection hG2 with hG2
      subst hG2
      exact hcell k (by omega)))
  have S4 := hid hS3
  have HX := hid hX
  have kz : (0 : Int) ≤ k := by omega
  have kz2 : (0 : Nat) ≤ k := Nat.zero_le _
  have kn : k < un := by omega
  have kn2 : (k : Int) < un := by omega
  have LE := hid (show (y.ns.eraseIdx i).length ≤ 900000 from Nat.le_trans (List.length_eraseIdx_le _ _) HN.out)
  clear hS hS2 hS3 hO hU hU' hcU hmB hmU hX hun S3 b4 hk
  obtain ⟨ub, hub⟩ : ∃ ub, ub = (D.bf k).1 := ⟨_, rfl⟩
  obtain ⟨pb, hpb⟩ : ∃ pb, pb = (D.bf k).2 := ⟨_, rfl⟩
  have HUB := hid hub
  have HPB := hid hpb
  rw [← hub, ← hpb] at S4
  rw [← hub] at CF
  rw [← hub, ← hpb] at CO
  clear hub hpb
  refine wp_region_held_drew (S := fun (w' : World) => w'.cell? ⟨D.Y, 1, none⟩ = some (.slice (some ⟨G, 0, none⟩) un c2') ∧ w'.cell? ⟨G, k, none⟩ = some (.pointer (some ⟨ub, 0, none⟩)) ∧ Fb w' B 342 (ntc x)) (by kernel_rfl) ?_ (fun hHeld => ?_)
  · exact CF.out _ _ V2 S4.out.drew (by intro t ht; simp only [List.append_eq, List.cons_append, List.nil_append, List.mem_cons, ht, or_true]) (by simp)
  have F0 := S4.out.drew
  refine tkq 0 hHeld ?_
  refine tkq 1 hHeld ?_
  refine tkq 2 hHeld ?_
  refine tkq 3 hHeld ?_
  refine tkq 5 hHeld ?_
  refine tkq 6 hHeld ?_
  refine tkq 7 hHeld ?_
  refine tkq 8 hHeld ?_ (hy := by intro w hSw; (try dsimp only at hSw); obtain ⟨cU, cg, cB⟩ := hSw; go_simp; (try with_reducible rfl))
  refine tkq 9 hHeld ?_
  refine tkq 10 hHeld ?_ (hy := by intro w hSw; (try dsimp only at hSw); obtain ⟨cU, cg, cB⟩ := hSw; have xB : w.cell? ⟨B, 0, none⟩ = some (.int .i64 (k : Int)) := (cB.2.1 0 (by omega)).trans (by rw [← HKU.out]; rfl); go_simp; (try with_reducible rfl))
  refine tkq 11 hHeld ?_
  refine tkq 12 hHeld ?_ (hy := by intro w hSw; (try dsimp only at hSw); obtain ⟨cU, cg, cB⟩ := hSw; go_simp; (try with_reducible rfl))
  refine tk 13 (v := (.agg (FA 342 (ntc x)))) rfl (by kernel_rfl) (by kernel_rfl) (by kernel_rfl) (fun _ _ _ h => h) rfl (fun w hSw => ex_load rfl rfl (hSw.2.2.load 0 342 (ntc x) (by omega) (fun j hj => by rw [Nat.zero_add]) Tryz.underlying88 rfl info_nt2)) hHeld ?_; (try simp only [Act.put, List.setIfInBounds_toArray, List.set_cons_zero, List.set_cons_succ])
  refine twoUp 4 14 rfl rfl (by kernel_rfl) rfl rfl (fun K hK => ?_) (fun K hK => ?_)
  · skip
    have c2 : _ = some V2 := (F0.fb 2 rfl).2.1 2 (by omega)
    refine ov_val (v := V2) (by go_simp) ?_
    refine hK.out _ _ (CF.out _ _ V2 F0 (by intro t ht; simp only [List.append_eq, List.cons_append, List.nil_append, List.mem_cons, ht, or_true]) (by simp)) (fun _ => ?_)
    clear hK
    try simp only [Act.put, List.setIfInBounds_toArray, List.set_cons_zero, List.set_cons_succ]
    clear c2
    refine only 14 rfl (by kernel_rfl) rfl (fun K hK => ?_)
    go_simp
    refine (CO.out _ _ _ _ _ F0).mono ?_
    rintro e' w7 ⟨rfl, v', F1⟩
    try go_wp2_with fail
    refine hK.out _ _ (CF.out _ _ V2 F1 (by intro t ht; simp only [List.append_eq, List.cons_append, List.nil_append, List.mem_cons, ht, or_true]) (by simp)) (fun _ => ?_)
    clear hK
    try simp only [Act.put, List.setIfInBounds_toArray, List.set_cons_zero, List.set_cons_succ]
    refine only 15 rfl (by kernel_rfl) rfl (fun K hK => ?_)
    refine ow_bs2 (nt := (⟨x.u, (y.uf k).b, ver (readU x (y.uf k)), false, true, zEn, zPl⟩ : Nt)) rfl rfl F1 (fun E w8 F2 => ?_)
    refine hK.out _ _ (CF.out _ _ V2 F2 (by intro t ht; simp only [List.append_eq, List.cons_append, List.nil_append, List.mem_cons, ht, or_true]) (by simp)) (fun _ => ?_)
    clear hK
    try simp only [Act.put, List.setIfInBounds_toArray, List.set_cons_zero, List.set_cons_succ]
    refine only 16 rfl (by kernel_rfl) rfl (fun K hK => ?_)
    refine ow_app2 (A := [thB E 342 (ntc (⟨x.u, (y.uf k).b, ver (readU x (y.uf k)), false, true, zEn, zPl⟩ : Nt)), thB ub 332 (urc pb (readU x (y.uf k)).p (readU x (y.uf k)).b), thB pb 460 (rpc (readU x (y.uf k)).up (readU x (y.uf k)).p v'), thB D.Y 3 (ryc D.hb D.U V2)]) (.tmp 43) (.tmp 54) rfl rfl rfl F2 (F2.fb 0 rfl) (by have := LE.out; omega) (fun V3 w9 F3 => ?_)
    refine hK.out _ _ (CF.out _ _ V2 F3 (by intro t ht; simp only [List.append_eq, List.cons_append, List.nil_append, List.mem_cons, ht, or_true]) (by simp)) (fun h5 => ?_)
    clear hK
    try simp only [Act.put, List.setIfInBounds_toArray, List.set_cons_zero, List.set_cons_succ]
    refine tkq 17 h5 ?_
    refine tkq 18 h5 ?_
    refine only 19 rfl (by kernel_rfl) rfl (fun K hK => ?_)
    obtain ⟨A3, c3, hV3, _⟩ := thW_form F3 4 rfl
    subst hV3
    have c2 : _ = some V2 := (F3.fb 3 rfl).2.1 2 (by omega)
    have z2 := (F3.fb 3 rfl).2.2 2
    refine ov_store rfl rfl rfl (w' := w9.setCell ⟨D.Y, 2, none⟩ (.slice A3 (y.ns.eraseIdx i ++ [(⟨x.u, (y.uf k).b, ver (readU x (y.uf k)), false, true, zEn, zPl⟩ : Nt)]).length c3)) (by go_simp) ?_
    have F4 := HS.set1v (A := [thB E 342 (ntc (⟨x.u, (y.uf k).b, ver (readU x (y.uf k)), false, true, zEn, zPl⟩ : Nt)), thB ub 332 (urc pb (readU x (y.uf k)).p (readU x (y.uf k)).b), thB pb 460 (rpc (readU x (y.uf k)).up (readU x (y.uf k)).p v')]) F3 2 (.slice A3 (y.ns.eraseIdx i ++ [(⟨x.u, (y.uf k).b, ver (readU x (y.uf k)), false, true, zEn, zPl⟩ : Nt)]).length c3) (by omega) (ryc D.hb D.U (.slice A3 (y.ns.eraseIdx i ++ [(⟨x.u, (y.uf k).b, ver (readU x (y.uf k)), false, true, zEn, zPl⟩ : Nt)]).length c3)) (fun j hj => ry_v _ _ _ _ j hj)
    generalize w9.setCell ⟨D.Y, 2, none⟩ (.slice A3 (y.ns.eraseIdx i ++ [(⟨x.u, (y.uf k).b, ver (readU x (y.uf k)), false, true, zEn, zPl⟩ : Nt)]).length c3) = w10 at *
    refine hK.out _ _ (CF.out _ _ (.slice A3 (y.ns.eraseIdx i ++ [(⟨x.u, (y.uf k).b, ver (readU x (y.uf k)), false, true, zEn, zPl⟩ : Nt)]).length c3) F4 (by intro t ht; simp only [List.append_eq, List.cons_append, List.nil_append, List.mem_cons, ht, or_true]) (by simp)) (fun _ => ?_)
    clear hK
    try simp only [Act.put, List.setIfInBounds_toArray, List.set_cons_zero, List.set_cons_succ]
    clear c2 z2 F3
    have F5 := F4.tail
    rw [HUB.out, HPB.out] at F5
    have E := hid (rl_fin HX.out HK.out F5)
    have EA : Hid (((⟨x.u, (y.uf k).b, ver (readU x (y.uf k)), false, true, zEn, zPl⟩ : Nt) : Nt) = ackU k (readU x (y.uf k))) := hid (by unfold ackU; rw [read_b, HKU.out])
    clear F4 F5
    refine wpAnyH_done (by kernel_rfl) ?_ _
    go_wp2_with fail
    go_ret
    exact ⟨rfl, by rw [← EA.out]; exact E.out⟩
  · skip
    go_simp
    refine (CO.out _ _ _ _ _ F0).mono ?_
    rintro e' w7 ⟨rfl, v', F1⟩
    try go_wp2_with fail
    refine hK.out _ _ (CF.out _ _ V2 F1 (by intro t ht; simp only [List.append_eq, List.cons_append, List.nil_append, List.mem_cons, ht, or_true]) (by simp)) (fun _ => ?_)
    clear hK
    try simp only [Act.put, List.setIfInBounds_toArray, List.set_cons_zero, List.set_cons_succ]
    refine twoUp 4 15 rfl rfl (by kernel_rfl) rfl rfl (fun K hK => ?_) (fun K hK => ?_)
    · skip
      have c2 : _ = some V2 := (F1.fb 2 rfl).2.1 2 (by omega)
      refine ov_val (v := V2) (by go_simp) ?_
      refine hK.out _ _ (CF.out _ _ V2 F1 (by intro t ht; simp only [List.append_eq, List.cons_append, List.nil_append, List.mem_cons, ht, or_true]) (by simp)) (fun _ => ?_)
      clear hK
      try simp only [Act.put, List.setIfInBounds_toArray, List.set_cons_zero, List.set_cons_succ]
      clear c2
      refine only 15 rfl (by kernel_rfl) rfl (fun K hK => ?_)
      refine ow_bs2 (nt := (⟨x.u, (y.uf k).b, ver (readU x (y.uf k)), false, true, zEn, zPl⟩ : Nt)) rfl rfl F1 (fun E w8 F2 => ?_)
      refine hK.out _ _ (CF.out _ _ V2 F2 (by intro t ht; simp only [List.append_eq, List.cons_append, List.nil_append, List.mem_cons, ht, or_true]) (by simp)) (fun _ => ?_)
      clear hK
      try simp only [Act.put, List.setIfInBounds_toArray, List.set_cons_zero, List.set_cons_succ]
      refine only 16 rfl (by kernel_rfl) rfl (fun K hK => ?_)
      refine ow_app2 (A := [thB E 342 (ntc (⟨x.u, (y.uf k).b, ver (readU x (y.uf k)), false, true, zEn, zPl⟩ : Nt)), thB ub 332 (urc pb (readU x (y.uf k)).p (readU x (y.uf k)).b), thB pb 460 (rpc (readU x (y.uf k)).up (readU x (y.uf k)).p v'), thB D.Y 3 (ryc D.hb D.U V2)]) (.tmp 43) (.tmp 54) rfl rfl rfl F2 (F2.fb 0 rfl) (by have := LE.out; omega) (fun V3 w9 F3 => ?_)
      refine hK.out _ _ (CF.out _ _ V2 F3 (by intro t ht; simp only [List.append_eq, List.cons_append, List.nil_append, List.mem_cons, ht, or_true]) (by simp)) (fun h5 => ?_)
      clear hK
      try simp only [Act.put, List.setIfInBounds_toArray, List.set_cons_zero, List.set_cons_succ]
      refine tkq 17 h5 ?_
      refine tkq 18 h5 ?_
      refine only 19 rfl (by kernel_rfl) rfl (fun K hK => ?_)
      obtain ⟨A3, c3, hV3, _⟩ := thW_form F3 4 rfl
      subst hV3
      have c2 : _ = some V2 := (F3.fb 3 rfl).2.1 2 (by omega)
      have z2 := (F3.fb 3 rfl).2.2 2
      refine ov_store rfl rfl rfl (w' := w9.setCell ⟨D.Y, 2, none⟩ (.slice A3 (y.ns.eraseIdx i ++ [(⟨x.u, (y.uf k).b, ver (readU x (y.uf k)), false, true, zEn, zPl⟩ : Nt)]).length c3)) (by go_simp) ?_
      have F4 := HS.set1v (A := [thB E 342 (ntc (⟨x.u, (y.uf k).b, ver (readU x (y.uf k)), false, true, zEn, zPl⟩ : Nt)), thB ub 332 (urc pb (readU x (y.uf k)).p (readU x (y.uf k)).b), thB pb 460 (rpc (readU x (y.uf k)).up (readU x (y.uf k)).p v')]) F3 2 (.slice A3 (y.ns.eraseIdx i ++ [(⟨x.u, (y.uf k).b, ver (readU x (y.uf k)), false, true, zEn, zPl⟩ : Nt)]).length c3) (by omega) (ryc D.hb D.U (.slice A3 (y.ns.eraseIdx i ++ [(⟨x.u, (y.uf k).b, ver (readU x (y.uf k)), false, true, zEn, zPl⟩ : Nt)]).length c3)) (fun j hj => ry_v _ _ _ _ j hj)
      generalize w9.setCell ⟨D.Y, 2, none⟩ (.slice A3 (y.ns.eraseIdx i ++ [(⟨x.u, (y.uf k).b, ver (readU x (y.uf k)), false, true, zEn, zPl⟩ : Nt)]).length c3) = w10 at *
      refine hK.out _ _ (CF.out _ _ (.slice A3 (y.ns.eraseIdx i ++ [(⟨x.u, (y.uf k).b, ver (readU x (y.uf k)), false, true, zEn, zPl⟩ : Nt)]).length c3) F4 (by intro t ht; simp only [List.append_eq, List.cons_append, List.nil_append, List.mem_cons, ht, or_true]) (by simp)) (fun _ => ?_)
      clear hK
      try simp only [Act.put, List.setIfInBounds_toArray, List.set_cons_zero, List.set_cons_succ]
      clear c2 z2 F3
      have F5 := F4.tail
      rw [HUB.out, HPB.out] at F5
      have E := hid (rl_fin HX.out HK.out F5)
      have EA : Hid (((⟨x.u, (y.uf k).b, ver (readU x (y.uf k)), false, true, zEn, zPl⟩ : Nt) : Nt) = ackU k (readU x (y.uf k))) := hid (by unfold ackU; rw [read_b, HKU.out])
      clear F4 F5
      refine wpAnyH_done (by kernel_rfl) ?_ _
      go_wp2_with fail
      go_ret
      exact ⟨rfl, by rw [← EA.out]; exact E.out⟩
    · skip
      refine ow_bs2 (nt := (⟨x.u, (y.uf k).b, ver (readU x (y.uf k)), false, true, zEn, zPl⟩ : Nt)) rfl rfl F1 (fun E w8 F2 => ?_)
      refine hK.out _ _ (CF.out _ _ V2 F2 (by intro t ht; simp only [List.append_eq, List.cons_append, List.nil_append, List.mem_cons, ht, or_true]) (by simp)) (fun _ => ?_)
      clear hK
      try simp only [Act.put, List.setIfInBounds_toArray, List.set_cons_zero, List.set_cons_succ]
      refine only 4 rfl (by kernel_rfl) rfl (fun K hK => ?_)
      have c2 : _ = some V2 := (F2.fb 3 rfl).2.1 2 (by omega)
      refine ov_val (v := V2) (by go_simp) ?_
      refine hK.out _ _ (CF.out _ _ V2 F2 (by intro t ht; simp only [List.append_eq, List.cons_append, List.nil_append, List.mem_cons, ht, or_true]) (by simp)) (fun _ => ?_)
      clear hK
      try simp only [Act.put, List.setIfInBounds_toArray, List.set_cons_zero, List.set_cons_succ]
      clear c2
      refine only 16 rfl (by kernel_rfl) rfl (fun K hK => ?_)
      refine ow_app2 (A := [thB E 342 (ntc (⟨x.u, (y.uf k).b, ver (readU x (y.uf k)), false, true, zEn, zPl⟩ : Nt)), thB ub 332 (urc pb (readU x (y.uf k)).p (readU x (y.uf k)).b), thB pb 460 (rpc (readU x (y.uf k)).up (readU x (y.uf k)).p v'), thB D.Y 3 (ryc D.hb D.U V2)]) (.tmp 43) (.tmp 54) rfl rfl rfl F2 (F2.fb 0 rfl) (by have := LE.out; omega) (fun V3 w9 F3 => ?_)
      refine hK.out _ _ (CF.out _ _ V2 F3 (by intro t ht; simp only [List.append_eq, List.cons_append, List.nil_append, List.mem_cons, ht, or_true]) (by simp)) (fun h5 => ?_)
      clear hK
      try simp only [Act.put, List.setIfInBounds_toArray, List.set_cons_zero, List.set_cons_succ]
      refine tkq 17 h5 ?_
      refine tkq 18 h5 ?_
      refine only 19 rfl (by kernel_rfl) rfl (fun K hK => ?_)
      obtain ⟨A3, c3, hV3, _⟩ := thW_form F3 4 rfl
      subst hV3
      have c2 : _ = some V2 := (F3.fb 3 rfl).2.1 2 (by omega)
      have z2 := (F3.fb 3 rfl).2.2 2
      refine ov_store rfl rfl rfl (w' := w9.setCell ⟨D.Y, 2, none⟩ (.slice A3 (y.ns.eraseIdx i ++ [(⟨x.u, (y.uf k).b, ver (readU x (y.uf k)), false, true, zEn, zPl⟩ : Nt)]).length c3)) (by go_simp) ?_
      have F4 := HS.set1v (A := [thB E 342 (ntc (⟨x.u, (y.uf k).b, ver (readU x (y.uf k)), false, true, zEn, zPl⟩ : Nt)), thB ub 332 (urc pb (readU x (y.uf k)).p (readU x (y.uf k)).b), thB pb 460 (rpc (readU x (y.uf k)).up (readU x (y.uf k)).p v')]) F3 2 (.slice A3 (y.ns.eraseIdx i ++ [(⟨x.u, (y.uf k).b, ver (readU x (y.uf k)), false, true, zEn, zPl⟩ : Nt)]).length c3) (by omega) (ryc D.hb D.U (.slice A3 (y.ns.eraseIdx i ++ [(⟨x.u, (y.uf k).b, ver (readU x (y.uf k)), false, true, zEn, zPl⟩ : Nt)]).length c3)) (fun j hj => ry_v _ _ _ _ j hj)
      generalize w9.setCell ⟨D.Y, 2, none⟩ (.slice A3 (y.ns.eraseIdx i ++ [(⟨x.u, (y.uf k).b, ver (readU x (y.uf k)), false, true, zEn, zPl⟩ : Nt)]).length c3) = w10 at *
      refine hK.out _ _ (CF.out _ _ (.slice A3 (y.ns.eraseIdx i ++ [(⟨x.u, (y.uf k).b, ver (readU x (y.uf k)), false, true, zEn, zPl⟩ : Nt)]).length c3) F4 (by intro t ht; simp only [List.append_eq, List.cons_append, List.nil_append, List.mem_cons, ht, or_true]) (by simp)) (fun _ => ?_)
      clear hK
      try simp only [Act.put, List.setIfInBounds_toArray, List.set_cons_zero, List.set_cons_succ]
      clear c2 z2 F3
      have F5 := F4.tail
      rw [HUB.out, HPB.out] at F5
      have E := hid (rl_fin HX.out HK.out F5)
      have EA : Hid (((⟨x.u, (y.uf k).b, ver (readU x (y.uf k)), false, true, zEn, zPl⟩ : Nt) : Nt) = ackU k (readU x (y.uf k))) := hid (by unfold ackU; rw [read_b, HKU.out])
      clear F4 F5
      refine wpAnyH_done (by kernel_rfl) ?_ _
      go_wp2_with fail
      go_ret
      exact ⟨rfl, by rw [← EA.out]; exact E.out⟩
end
end Go.Proofs.YteefhiniamajkaaGreat
