/- roundhouselaw4.OptsStamps answers true for all numbers; no condition. -/
import Derived.Test.YtdbfpoplhmonhaaOptTile
import Derived.Deep.RegionWith
import Derived.Deep.Cut
import Derived.BigQuiet
import Derived.Deep.RegionHeld3
import Derived.Test.YtdbfpoplhmonhaaTakes
namespace Go.Proofs.Ytdbfpoplhmonhaa.optsStamps
set_option linter.unusedVariables false
set_option linter.unusedSimpArgs false
open Go.RowKit Go.ChangeShapes Go.WideShapes Go.ChangeAt

theorem then_ {W w1 w2 : World} (h : Below W.heap.size W w1) (hb : Below w1.heap.size w1 w2) : Below W.heap.size W w2 := h.trans (hb.mono h.size)
section
variable {w : World} {ops : Array Oper} {rest : List Oper} {o : Oper} {a : Act} {Q : Exit → Act → World → Prop}
/-- make([]byte, n). -/
theorem wp_make_b (hgd : o.guard = none) (l c : Operand) (ho : o.op = .makeSlice 23 l c) (base n : Nat) (L C : Int) (hl : a.eval l = .int .i64 L) (hc : a.eval c = .int .i64 C) (hL : L = n) (hC : C = n) (hsz : n ≤ 140737488355328) (hbase : base ≤ w.heap.size)
    (h : ∀ w', Ow w' base 5 1 (.slice (some ⟨w.heap.size, 0, none⟩) n n) n (fun _ => .int .u8 0) → Below base w w' → wpList Try.prog ops Q rest (a.put o.dst (.slice (some ⟨w.heap.size, 0, none⟩) n n)) w') : wpList Try.prog ops Q (o :: rest) a w := by
  obtain ⟨i0, hi, hz0, hz1, hz2⟩ := info_parts info_u8
  refine wpList_make_full w hgd l c _ ho base 5 i0 (.int .u8 0) 1 Try.underlying23 hi hz0 hz1 .i64 .i64 L C n hl hc hL hC (by rw [hz2]; omega) (by simp only [maxLen]; omega) hbase ?_
  intro w' h1 h2
  refine h w' ?_ (Ow.below_ (v := .slice none 0 0) (Ow.none_ (w := w) (B := base) (e := 5) (size := 1) (f := fun _ => .int .u8 0)) h2 hbase)
  have e : (madeCells (Value.int .u8 0).cells (n * 1)).toList = (List.range (n * 1)).map (fun _ => Value.int .u8 0) := by
    rw [show (Value.int .u8 0).cells = #[Value.int .u8 0] from rfl, toList_madeCells_one]
    simp [List.map_const']
  rw [e] at h1
  exact h1
end
theorem walk_fills {g : Nat → Int} {n : Nat} : ∀ (k a : Nat), a + k ≤ n → (∀ j, j < k → g (a + j) = 1) → ∃ pre, (∀ o ∈ pre, isS o = false) ∧ Go.Proofs.Ytdbfpoplhmonhaa.walk g n a = (Go.Proofs.Ytdbfpoplhmonhaa.walk g n (a + k)).map (pre ++ ·) := by
  intro k
  induction k with
  | zero => intro a _ _; exact ⟨[], (fun o ho => by cases ho), by cases Go.Proofs.Ytdbfpoplhmonhaa.walk g n (a + 0) <;> simp_all⟩
  | succ k ih =>
    intro a ha h
    obtain ⟨pre, h1, h2⟩ := ih (a + 1) (by omega) (fun j hj => by rw [show a + 1 + j = a + (j + 1) from by omega]; exact h _ (by omega))
    refine ⟨(1, (a : Int), 1) :: pre, fun o ho => ?_, ?_⟩
    · rcases List.mem_cons.1 ho with rfl | ho
      · rfl
      · exact h1 o ho
    · rw [walk_fill (a := a) (by omega) (by simpa using h 0 (by omega)), h2, Option.map_map, show a + 1 + k = a + (k + 1) from by omega]
      rfl
theorem stamp_fills {g : Nat → Int} {K : Nat} {v e : Int} (hv : U32 v) (he : U32 e) (h1 : ∀ j, j < K → g j = 1) (h2 : ∀ j, j < 12 → g (K + j) = mkB v e j) (h3 : g (K + 12) = 0) : stamp g (K + 12 + 1) = ((K : Int) + 4, v, e, true) := by
  obtain ⟨pre, hp, hw⟩ := walk_fills (g := g) (n := K + 12 + 1) K 0 (by omega) (fun j hj => by rw [Nat.zero_add]; exact h1 j hj)
  rw [Nat.zero_add] at hw
  have hr : (Go.Proofs.Ytdbfpoplhmonhaa.walk g (K + 12 + 1) (K + 12)).isSome = true := by
    have ho : oneO g (K + 12 + 1) (K + 12) = some (0, ((K + 12 : Nat) : Int), 1) := by unfold oneO; rw [h3]; rfl
    rw [walk_last (by omega) ho rfl]
    rfl
  have := stamp_mk (i := K) h2 (by omega) hv he hp hw hr
  rw [this]
  congr 1

set_option maxRecDepth 100000 in
set_option maxHeartbeats 4000000 in
theorem walk (W : World) (a0 : Int) (r0 : 0 ≤ a0 ∧ a0 ≤ 4294967295) (a1 : Int) (r1 : 0 ≤ a1 ∧ a1 ≤ 4294967295) (a2 : Int) (r2 : -9223372036854775808 ≤ a2 ∧ a2 ≤ 9223372036854775807) :
    Calls Try.prog 5 #[.int .u32 a0, .int .u32 a1, .int .i64 a2] W fun e w' => e = .returned (.bool true) ∧ Below W.heap.size W w' := by
  have u0 : U32 a0 := by unfold U32; omega
  have u1 : U32 a1 := by unfold U32; omega
  have U0 := hid u0
  have U1 := hid u1
  have wb := wi_bd a2 9 (by omega)
  obtain ⟨K, hK⟩ := Int.eq_ofNat_of_zero_le wb.1
  have hK9 : K < 9 := by omega
  have WS := hid (fun w => re_i64 (within_any a2 9 w (by omega) (by omega)) hK)
  clear hK wb u0 u1 r0 r1
  go_enter Try.func5, Try.ntmps5
  go_wp2_with fail
  refine (known_any _).mono ?_
  rintro e w ⟨rfl, hb1⟩
  have B := hid hb1
  clear hb1
  go_wp2_with fail
  refine (WS.out _).mono ?_
  rintro e w' ⟨rfl, rfl⟩
  have k1 : (0 : Int) ≤ (K : Int) := by omega
  have k2 : (K : Int) < 9 := by omega
  go_wp2_with (at_make; refine wp_make_b rfl (.tmp 17) (.tmp 17) rfl w.heap.size K _ _ rfl rfl rfl rfl (by omega) (Nat.le_refl _) ?_; intro w3 O3 hb3)
  generalize hG : w.heap.size = R at *
  have BR : Below W.heap.size W w := B.out
  go_loopw [8] (fun j wr => ∃ k : Nat, k ≤ K ∧ j = .int .i64 (k : Int) ∧ Below R w wr ∧ Ow wr R 5 1 (.slice (some ⟨R, 0, none⟩) K K) K (fun j => .int .u8 (if j < k then 1 else 0)))
    (fun j _ => K - (intOf j).toNat)
  case atStart => exact ⟨0, by omega, rfl, hb3, O3.as_ fun j _ => by simp⟩
  case round =>
    clear O3 hb3
    obtain ⟨k, hk, rfl, hb2, hO2⟩ := hrel
    by_cases hlt : k < K
    · have i1 : (k : Int) < K := by omega
      obtain ⟨_, e5, hB, _, cell5, fro5⟩ := hO2.block_ (by omega)
      injection e5 with e5
      injection e5 with e5
      subst e5
      have c5 := cell5 k (by omega)
      have f5 := fro5 k
      clear cell5 fro5
      go_wp2_with fail
      go_roundw
      case rel => exact ⟨k + 1, by omega, by go_num, hb2.setCell (Nat.le_refl _) _, (hO2.store_ k _).as_ fun j hj => by
        simp only [put1]
        by_cases hj2 : j = k
        · subst hj2
          simp
        · rw [if_neg hj2]
          congr 1
          split <;> split <;> first | rfl | omega⟩
      case measure => simp [intOf]; omega
    · obtain rfl : k = K := by omega
      have i1 : ¬ (k : Int) < k := by omega
      have hS : By wr (some ⟨R, 0, none⟩) k (fun _ => 1) := (hO2.sl1).as fun j hj => by simp [hj]
      have HS := hid hS
      have B5 := hid (BR.trans (hb2.mono (by rw [← hG]; exact BR.size)))
      clear hO2 hb2 hS BR
      go_wp2_with (at_builtin; refine wp_app_b0 rfl (.tmp 28) (.tmp 29) rfl wr.heap.size _ rfl (fun _ => Ow.new' rfl) _ k _ (fun _ => 1) rfl (Sl.alloc HS.out _) (by omega) (by simp) ?_; intro A3 c3 w4 q1 q2 q3 q4 q5 q6; have H3 := hid q1; have B4 := hid (((Below.refl wr.heap.size wr).alloc (Nat.le_refl _) _).trans q4); clear q1 q2 q3 q4 q5 q6)
      refine (make_any a0 a1 w4 U0.out U1.out).mono ?_
      rintro e w6 ⟨A6, c6, rfl, h6, hb6⟩
      have H6 := hid (Ow.sl1 h6)
      have B6 := hid (B4.out.trans (hb6.mono B4.out.size))
      have O6 := hid (Ow.keep H3.out hb6 (Nat.le_refl _))
      clear h6 hb6 B4 H3
      go_wp2_with (at_builtin; first
        | (refine wp_app_b rfl (.tmp 30) (.tmp 33) rfl wr.heap.size _ k (fun _ => 1) rfl O6.out _ 12 _ (mkB a0 a1) rfl H6.out (by omega) B6.out.size ?_; intro A7 c7 w7 q1 q2 q3 q4 q5 q6; have H7 := hid q1; have B7 := hid (B6.out.trans q4); clear q1 q2 q3 q4 q5 q6 O6 H6 B6)
        | (refine wp_app_b rfl (.tmp 36) (.tmp 37) rfl wr.heap.size _ (k + 12) (fun j => if j < k then 1 else mkB a0 a1 (j - k)) rfl (Ow.alloc H7.out _) (some ⟨w7.heap.size, 0, none⟩) 1 1 (fun j => ([0] : List Int).getD j 0) rfl (row_at0 .u8 [0] rfl rfl rfl) (by omega) (by simp; exact Nat.le_succ_of_le B7.out.size) ?_; intro A8 c8 w8 q1 q2 q3 q4 q5 q6; have H8 := hid q1; have hc8 := hid q2; have B8 := hid ((B7.out.alloc B7.out.size _).trans q4); clear q1 q2 q3 q4 q5 q6 H7 B7))
      have S8 := stamp_any A8 (k + 12 + 1) c8 (fun j => if j < k + 12 then (if j < k then 1 else mkB a0 a1 (j - k)) else ([0] : List Int).getD (j - (k + 12)) 0) w8 (Ow.sl1 H8.out) (by
        intro j
        dsimp only
        split
        · split
          · omega
          · exact mkB_bd U0.out U1.out _
        · exact lit_b [0] (by decide) _) (by omega) hc8.out
      rw [stamp_fills (K := k) U0.out U1.out (fun j hj => by rw [if_pos (by omega), if_pos hj]) (fun j hj => by rw [if_pos (by omega), if_neg (by omega), Nat.add_sub_cancel_left]) (by rw [if_neg (by omega), Nat.sub_self]; rfl)] at S8
      unfold StV at S8
      replace S8 := hid S8
      refine S8.out.mono ?_
      rintro e w9 ⟨rfl, hb9⟩
      have B9 := B5.out.trans ((B8.out.trans (hb9.mono B8.out.size)).mono B5.out.size)
      have BD : Hid (Below W.heap.size W w9.drew) := hid (Below.drew B9)
      clear hb9 B8 H8 hc8 S8 B5 HS hG B9
      have i4 : IntKind.i64.wrap ((k : Int) + 4) = (k : Int) + 4 := IntWalk.i64_in _ (by omega)
      have d4 : ((k : Int) + 4 == (k : Int) + 4) = true := by simp
      go_wp2_with fail
      have BD1 := BD.out
      refine wp_region_held_drew (S := fun w' => Below W.heap.size W w') (by kernel_rfl) ?_ (fun hHeld => ?_)
      · exact BD1
      refine tk 0 (v := ?_) rfl (by kernel_rfl) (by kernel_rfl) (by kernel_rfl) (fun _ _ _ h => h) rfl ?_ (by assumption) ?_; rotate_left; (focus (intro w hSw; (try dsimp only at hSw); go_simp; (try with_reducible rfl))); (try simp only [Act.put, List.setIfInBounds_toArray, List.set_cons_zero, List.set_cons_succ])
      refine tk 1 (v := ?_) rfl (by kernel_rfl) (by kernel_rfl) (by kernel_rfl) (fun _ _ _ h => h) rfl ?_ (by assumption) ?_; rotate_left; (focus (intro w hSw; (try dsimp only at hSw); go_simp; (try with_reducible rfl))); (try simp only [Act.put, List.setIfInBounds_toArray, List.set_cons_zero, List.set_cons_succ])
      refine tk 2 (v := ?_) rfl (by kernel_rfl) (by kernel_rfl) (by kernel_rfl) (fun _ _ _ h => h) rfl ?_ (by assumption) ?_; rotate_left; (focus (intro w hSw; (try dsimp only at hSw); go_simp; (try with_reducible rfl))); (try simp only [Act.put, List.setIfInBounds_toArray, List.set_cons_zero, List.set_cons_succ])
      refine tk 3 (v := ?_) rfl (by kernel_rfl) (by kernel_rfl) (by kernel_rfl) (fun _ _ _ h => h) rfl ?_ (by assumption) ?_; rotate_left; (focus (intro w hSw; (try dsimp only at hSw); go_simp; (try with_reducible rfl))); (try simp only [Act.put, List.setIfInBounds_toArray, List.set_cons_zero, List.set_cons_succ])
      refine tk 4 (v := ?_) rfl (by kernel_rfl) (by kernel_rfl) (by kernel_rfl) (fun _ _ _ h => h) rfl ?_ (by assumption) ?_; rotate_left; (focus (intro w hSw; (try dsimp only at hSw); go_simp; (try with_reducible rfl))); (try simp only [Act.put, List.setIfInBounds_toArray, List.set_cons_zero, List.set_cons_succ])
      refine tk 5 (v := ?_) rfl (by kernel_rfl) (by kernel_rfl) (by kernel_rfl) (fun _ _ _ h => h) rfl ?_ (by assumption) ?_; rotate_left; (focus (intro w hSw; (try dsimp only at hSw); go_simp; (try with_reducible rfl))); (try simp only [Act.put, List.setIfInBounds_toArray, List.set_cons_zero, List.set_cons_succ])
      refine tk 6 (v := ?_) rfl (by kernel_rfl) (by kernel_rfl) (by kernel_rfl) (fun _ _ _ h => h) rfl ?_ (by assumption) ?_; rotate_left; (focus (intro w hSw; (try dsimp only at hSw); go_simp; (try with_reducible rfl))); (try simp only [Act.put, List.setIfInBounds_toArray, List.set_cons_zero, List.set_cons_succ])
      refine tk 7 (v := ?_) rfl (by kernel_rfl) (by kernel_rfl) (by kernel_rfl) (fun _ _ _ h => h) rfl ?_ (by assumption) ?_; rotate_left; (focus (intro w hSw; (try dsimp only at hSw); go_simp; (try with_reducible rfl))); (try simp only [Act.put, List.setIfInBounds_toArray, List.set_cons_zero, List.set_cons_succ])
      refine tk 8 (v := ?_) rfl (by kernel_rfl) (by kernel_rfl) (by kernel_rfl) (fun _ _ _ h => h) rfl ?_ (by assumption) ?_; rotate_left; (focus (intro w hSw; (try dsimp only at hSw); go_simp; (try with_reducible rfl))); (try simp only [Act.put, List.setIfInBounds_toArray, List.set_cons_zero, List.set_cons_succ])
      refine tk 9 (v := ?_) rfl (by kernel_rfl) (by kernel_rfl) (by kernel_rfl) (fun _ _ _ h => h) rfl ?_ (by assumption) ?_; rotate_left; (focus (intro w hSw; (try dsimp only at hSw); go_simp; (try with_reducible rfl))); (try simp only [Act.put, List.setIfInBounds_toArray, List.set_cons_zero, List.set_cons_succ])
      refine tk 10 (v := ?_) rfl (by kernel_rfl) (by kernel_rfl) (by kernel_rfl) (fun _ _ _ h => h) rfl ?_ (by assumption) ?_; rotate_left; (focus (intro w hSw; (try dsimp only at hSw); go_simp; (try with_reducible rfl))); (try simp only [Act.put, List.setIfInBounds_toArray, List.set_cons_zero, List.set_cons_succ])
      refine tk 11 (v := ?_) rfl (by kernel_rfl) (by kernel_rfl) (by kernel_rfl) (fun _ _ _ h => h) rfl ?_ (by assumption) ?_; rotate_left; (focus (intro w hSw; (try dsimp only at hSw); go_simp; (try with_reducible rfl))); (try simp only [Act.put, List.setIfInBounds_toArray, List.set_cons_zero, List.set_cons_succ])
      refine tk 12 (v := ?_) rfl (by kernel_rfl) (by kernel_rfl) (by kernel_rfl) (fun _ _ _ h => h) rfl ?_ (by assumption) ?_; rotate_left; (focus (intro w hSw; (try dsimp only at hSw); go_simp; (try with_reducible rfl))); (try simp only [Act.put, List.setIfInBounds_toArray, List.set_cons_zero, List.set_cons_succ])
      refine tk 13 (v := ?_) rfl (by kernel_rfl) (by kernel_rfl) (by kernel_rfl) (fun _ _ _ h => h) rfl ?_ (by assumption) ?_; rotate_left; (focus (intro w hSw; (try dsimp only at hSw); go_simp; (try with_reducible rfl))); (try simp only [Act.put, List.setIfInBounds_toArray, List.set_cons_zero, List.set_cons_succ])
      refine tk 14 (v := ?_) rfl (by kernel_rfl) (by kernel_rfl) (by kernel_rfl) (fun _ _ _ h => h) rfl ?_ (by assumption) ?_; rotate_left; (focus (intro w hSw; (try dsimp only at hSw); go_simp; (try with_reducible rfl))); (try simp only [Act.put, List.setIfInBounds_toArray, List.set_cons_zero, List.set_cons_succ])
      refine tk 15 (v := ?_) rfl (by kernel_rfl) (by kernel_rfl) (by kernel_rfl) (fun _ _ _ h => h) rfl ?_ (by assumption) ?_; rotate_left; (focus (intro w hSw; (try dsimp only at hSw); go_simp; (try with_reducible rfl))); (try simp only [Act.put, List.setIfInBounds_toArray, List.set_cons_zero, List.set_cons_succ])
      refine tk 16 (v := ?_) rfl (by kernel_rfl) (by kernel_rfl) (by kernel_rfl) (fun _ _ _ h => h) rfl ?_ (by assumption) ?_; rotate_left; (focus (intro w hSw; (try dsimp only at hSw); go_simp; (try with_reducible rfl))); (try simp only [Act.put, List.setIfInBounds_toArray, List.set_cons_zero, List.set_cons_succ])
      refine tk 17 (v := ?_) rfl (by kernel_rfl) (by kernel_rfl) (by kernel_rfl) (fun _ _ _ h => h) rfl ?_ (by assumption) ?_; rotate_left; (focus (intro w hSw; (try dsimp only at hSw); go_simp; (try with_reducible rfl))); (try simp only [Act.put, List.setIfInBounds_toArray, List.set_cons_zero, List.set_cons_succ])
      refine tk 18 (v := ?_) rfl (by kernel_rfl) (by kernel_rfl) (by kernel_rfl) (fun _ _ _ h => h) rfl ?_ (by assumption) ?_; rotate_left; (focus (intro w hSw; (try dsimp only at hSw); go_simp; (try with_reducible rfl))); (try simp only [Act.put, List.setIfInBounds_toArray, List.set_cons_zero, List.set_cons_succ])
      refine tk 19 (v := ?_) rfl (by kernel_rfl) (by kernel_rfl) (by kernel_rfl) (fun _ _ _ h => h) rfl ?_ (by assumption) ?_; rotate_left; (focus (intro w hSw; (try dsimp only at hSw); go_simp; (try with_reducible rfl))); (try simp only [Act.put, List.setIfInBounds_toArray, List.set_cons_zero, List.set_cons_succ])
      refine tk 20 (v := ?_) rfl (by kernel_rfl) (by kernel_rfl) (by kernel_rfl) (fun _ _ _ h => h) rfl ?_ (by assumption) ?_; rotate_left; (focus (intro w hSw; (try dsimp only at hSw); go_simp; (try with_reducible rfl))); (try simp only [Act.put, List.setIfInBounds_toArray, List.set_cons_zero, List.set_cons_succ])
      refine only 21 rfl (by kernel_rfl) rfl (fun K hK => ?_)
      go_simp
      refine (make_any a0 a1 _ U0.out U1.out).mono ?_
      rintro e w4 ⟨A4, c4, rfl, h4, hb4⟩
      try go_wp2_with fail
      refine hK.out _ _ ?_ (fun hHeld => ?_)
      · exact then_ hHeld hb4
      clear hK
      try simp only [Act.put, List.setIfInBounds_toArray, List.set_cons_zero, List.set_cons_succ]
      refine tk 22 (v := ?_) rfl (by kernel_rfl) (by kernel_rfl) (by kernel_rfl) (fun _ _ _ h => h) rfl ?_ (by assumption) ?_; rotate_left; (focus (intro w hSw; (try dsimp only at hSw); go_simp; (try with_reducible rfl))); (try simp only [Act.put, List.setIfInBounds_toArray, List.set_cons_zero, List.set_cons_succ])
      refine tk 23 (v := ?_) rfl (by kernel_rfl) (by kernel_rfl) (by kernel_rfl) (fun _ _ _ h => h) rfl ?_ (by assumption) ?_; rotate_left; (focus (intro w hSw; (try dsimp only at hSw); go_simp; (try with_reducible rfl))); (try simp only [Act.put, List.setIfInBounds_toArray, List.set_cons_zero, List.set_cons_succ])
      refine tk 24 (v := ?_) rfl (by kernel_rfl) (by kernel_rfl) (by kernel_rfl) (fun _ _ _ h => h) rfl ?_ (by assumption) ?_; rotate_left; (focus (intro w hSw; (try dsimp only at hSw); go_simp; (try with_reducible rfl))); (try simp only [Act.put, List.setIfInBounds_toArray, List.set_cons_zero, List.set_cons_succ])
      refine tk 25 (v := ?_) rfl (by kernel_rfl) (by kernel_rfl) (by kernel_rfl) (fun _ _ _ h => h) rfl ?_ (by assumption) ?_; rotate_left; (focus (intro w hSw; (try dsimp only at hSw); go_simp; (try with_reducible rfl))); (try simp only [Act.put, List.setIfInBounds_toArray, List.set_cons_zero, List.set_cons_succ])
      refine tk 26 (v := ?_) rfl (by kernel_rfl) (by kernel_rfl) (by kernel_rfl) (fun _ _ _ h => h) rfl ?_ (by assumption) ?_; rotate_left; (focus (intro w hSw; (try dsimp only at hSw); go_simp; (try with_reducible rfl))); (try simp only [Act.put, List.setIfInBounds_toArray, List.set_cons_zero, List.set_cons_succ])
      refine tk 27 (v := ?_) rfl (by kernel_rfl) (by kernel_rfl) (by kernel_rfl) (fun _ _ _ h => h) rfl ?_ (by assumption) ?_; rotate_left; (focus (intro w hSw; (try dsimp only at hSw); go_simp; (try with_reducible rfl))); (try simp only [Act.put, List.setIfInBounds_toArray, List.set_cons_zero, List.set_cons_succ])
      refine tk 30 (v := ?_) rfl (by kernel_rfl) (by kernel_rfl) (by kernel_rfl) (fun _ _ _ h => h) rfl ?_ (by assumption) ?_; rotate_left; (focus (intro w hSw; (try dsimp only at hSw); go_simp; (try with_reducible rfl))); (try simp only [Act.put, List.setIfInBounds_toArray, List.set_cons_zero, List.set_cons_succ])
      refine tk 31 (v := ?_) rfl (by kernel_rfl) (by kernel_rfl) (by kernel_rfl) (fun _ _ _ h => h) rfl ?_ (by assumption) ?_; rotate_left; (focus (intro w hSw; (try dsimp only at hSw); go_simp; (try with_reducible rfl))); (try simp only [Act.put, List.setIfInBounds_toArray, List.set_cons_zero, List.set_cons_succ])
      refine only 28 rfl (by kernel_rfl) rfl (fun K hK => ?_)
      go_simp
      refine (make_any a0 a1 _ U0.out U1.out).mono ?_
      rintro e w5 ⟨A5, c5, rfl, h5, hb5⟩
      try go_wp2_with fail
      refine hK.out _ _ ?_ (fun hHeld => ?_)
      · exact then_ (by assumption) hb5
      clear hK
      try simp only [Act.put, List.setIfInBounds_toArray, List.set_cons_zero, List.set_cons_succ]
      refine more (fun w' => Below W.heap.size W w' ∧ (convert 23 9 (.slice A5 12 c5)).run Try.prog w' = .ok (.string (bstr (mkB a0 a1) 12)) w') (fun w' h => h.1) (⟨by assumption, conv_str c5 (Ow.sl1 h5)⟩) (fun hHeld2 => ?_)
      refine tk 29 (v := ?_) rfl (by kernel_rfl) (by kernel_rfl) (by kernel_rfl) (fun _ _ _ h => h) rfl ?_ (by assumption) ?_; rotate_left; (focus (intro w hSw; (try dsimp only at hSw); go_simp; (try with_reducible rfl))); (try simp only [Act.put, List.setIfInBounds_toArray, List.set_cons_zero, List.set_cons_succ])
      refine only 32 rfl (by kernel_rfl) rfl (fun K hK => ?_)
      go_simp
      refine (rmake_any a0 a1 _ U0.out U1.out).mono ?_
      rintro e w6 ⟨A6, c6, rfl, h6, hb6⟩
      try go_wp2_with fail
      refine hK.out _ _ ?_ (fun hHeld => ?_)
      · exact ⟨then_ hHeld2.1 hb6, conv_str c5 (Sl.below (Ow.sl1 h5) hb6 (Nat.le_refl _))⟩
      clear hK
      try simp only [Act.put, List.setIfInBounds_toArray, List.set_cons_zero, List.set_cons_succ]
      refine more (fun w' => (Below W.heap.size W w' ∧ (convert 23 9 (.slice A5 12 c5)).run Try.prog w' = .ok (.string (bstr (mkB a0 a1) 12)) w') ∧ (convert 23 9 (.slice A6 12 c6)).run Try.prog w' = .ok (.string (bstr (mkB a0 a1) 12)) w') (fun w' h => h.1) (⟨by assumption, conv_str c6 (Ow.sl1 h6)⟩) (fun hHeld2 => ?_)
      refine tk 33 (v := ?_) rfl (by kernel_rfl) (by kernel_rfl) (by kernel_rfl) (fun _ _ _ h => h) rfl ?_ (by assumption) ?_; rotate_left; (focus (intro w hSw; (try dsimp only at hSw); go_simp; (try with_reducible rfl))); (try simp only [Act.put, List.setIfInBounds_toArray, List.set_cons_zero, List.set_cons_succ])
      refine tk 34 (v := ?_) rfl (by kernel_rfl) (by kernel_rfl) (by kernel_rfl) (fun _ _ _ h => h) rfl ?_ (by assumption) ?_; rotate_left; (focus (intro w hSw; (try dsimp only at hSw); go_simp; (try with_reducible rfl))); (try simp only [Act.put, List.setIfInBounds_toArray, List.set_cons_zero, List.set_cons_succ])
      refine tk 35 (v := ?_) rfl (by kernel_rfl) (by kernel_rfl) (by kernel_rfl) (fun _ _ _ h => h) rfl ?_ (by assumption) ?_; rotate_left; (focus (intro w hSw; (try dsimp only at hSw); go_simp; (try with_reducible rfl))); (try simp only [Act.put, List.setIfInBounds_toArray, List.set_cons_zero, List.set_cons_succ])
      refine tk 36 (v := ?_) rfl (by kernel_rfl) (by kernel_rfl) (by kernel_rfl) (fun _ _ _ h => h) rfl ?_ (by assumption) ?_; rotate_left; (focus (intro w hSw; (try dsimp only at hSw); go_simp; (try with_reducible rfl))); (try simp only [Act.put, List.setIfInBounds_toArray, List.set_cons_zero, List.set_cons_succ])
      refine wpAnyH_done (by kernel_rfl) ?_ _
      go_wp2_with fail
      go_ret
      exact ⟨rfl, hHeld2.1.1⟩

set_option maxRecDepth 100000 in
theorem lifted (os : Os) (started : os.Started) (H : Type) (enc : TypeId × Value → H) :
    ReturnsInHanded {} Try.checked os 5 .any (Rows.optsStampsSpec.pre6 enc Try.prog Try.f5 [] false) (Rows.optsStampsSpec.post enc Try.prog Try.f5 false true false false) :=
  law_step (s := Rows.optsStampsSpec) started (by kernel_rfl) Try.func5
    (ChangeSpec.witness6 (s := Rows.optsStampsSpec) (enc := enc) (C := Try.checked) false ⟨#[], #[.int .u32 0, .int .u32 0, .int .i64 0], []⟩ 8 (by kernel_rfl) (by kernel_rfl) (by kernel_rfl) (by kernel_rfl))
    rfl (by rw [Try.params5]; decide +kernel) rfl Try.underlying4
    (fun ds h => by
      rw [Try.params5] at h
      match ds, h with
      | [_, _, _], _ => rfl)
    (fun W base args ds ps hval hA hsz => by
      rw [Try.params5] at hA hval hsz
      obtain ⟨v0, vs0, d0, ds0, p0, q0, hargs, rfl, rfl, h0, r0⟩ := trodAll_cons hA
      obtain ⟨v1, vs1, d1, ds1, p1, q1, rfl, rfl, rfl, h1, r1⟩ := trodAll_cons r0
      obtain ⟨v2, vs2, d2, ds2, p2, q2, rfl, rfl, rfl, h2, r2⟩ := trodAll_cons r1
      obtain ⟨rfl, rfl, rfl⟩ := trodAll_nil r2
      obtain rfl : args = #[v0, v1, v2] := by cases args; simp_all
      obtain ⟨a0, rfl, rfl, rfl, w0⟩ := open_int Try.underlying35 (hval 0 35 v0 rfl rfl) h0
      obtain ⟨a1, rfl, rfl, rfl, w1⟩ := open_int Try.underlying35 (hval 1 35 v1 rfl rfl) h1
      obtain ⟨a2, rfl, rfl, rfl, w2⟩ := open_int Try.underlying3 (hval 2 3 v2 rfl rfl) h2
      exact walk W a0 (bounds_u32 w0) a1 (bounds_u32 w1) a2 (bounds_i64 w2))

theorem proved : Rows.OptsStampsSaid :=
  OpenClaim.holds_of_wide 5 Try.f5 rfl rfl rfl rfl rfl rfl rfl ⟨rfl, rfl, rfl, rfl, rfl⟩ rfl rfl rfl rfl rfl (by kernel_rfl) Try.func5 (by kernel_rfl)
    (of_decide_eq_true (by kernel_rfl)) (by unfold Func.isWrapper; first | (rw [if_pos (by decide +kernel)]; kernel_rfl) | (rw [if_neg (by decide +kernel)]; exact ⟨rfl, rfl⟩))
    (fun os started H enc _ => lifted os started H enc)
end Go.Proofs.Ytdbfpoplhmonhaa.optsStamps
