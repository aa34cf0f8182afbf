/- What stays true of pools; rows of entries. All of the package. -/
import Derived.Test.YteefhiniamajkaaGreatPolApp4
import Derived.Test.YteefhiniamajkaaGreatGf
import Derived.BigQuiet
import Derived.Deep.RegionHeld3
import Derived.Deep.Cut
namespace Go.Proofs.YteefhiniamajkaaGreat
set_option linter.unusedVariables false
set_option linter.unusedSimpArgs false
open Go.RowKit Go.ChangeShapes Go.WideShapes Go.ChangeAt

/-- Numbers stay small, states are states. -/
def Pinv (p : Pl) (K : Int) : Prop := (0 ≤ p.v ∧ p.v ≤ K) ∧ (1 ≤ p.r.e ∧ p.r.e ≤ K + 1) ∧ ∀ i, i < 64 → (0 ≤ (p.s i).si ∧ (p.s i).si ≤ K + 1) ∧ 0 ≤ (p.s i).st ∧ (p.s i).st ≤ 4
theorem Pinv.pb {p : Pl} {K : Int} (h : Pinv p K) (hK : K ≤ 1000000) : PB p := by
  obtain ⟨⟨a, b⟩, ⟨c, d⟩, e⟩ := h
  refine ⟨⟨by omega, by omega⟩, ⟨by omega, by omega⟩, fun i hi => ?_⟩
  obtain ⟨⟨f, g⟩, _⟩ := e i hi
  omega
theorem Pinv.st {p : Pl} {K : Int} (h : Pinv p K) : StI p := fun i hi => (h.2.2 i hi).2
theorem Pinv.mono {p : Pl} {K L : Int} (h : Pinv p K) (hl : K ≤ L) : Pinv p L := by
  obtain ⟨⟨a, b⟩, ⟨c, d⟩, e⟩ := h
  refine ⟨⟨a, by omega⟩, ⟨c, by omega⟩, fun i hi => ?_⟩
  obtain ⟨⟨f, g⟩, k⟩ := e i hi
  exact ⟨⟨f, by omega⟩, k⟩
theorem apR_ok {p : Pl} {e : En} (h : (apR p e).2 = 0) : chk e = 0 ∧ refE p e e.s.toNat = 0 ∧ (apR p e).1 = nxP p e := by
  unfold apR at h ⊢
  by_cases hc : chk e = 0
  · rw [if_pos hc] at h ⊢
    by_cases hr : refE p e e.s.toNat = 0
    · rw [if_pos hr]; exact ⟨hc, hr, rfl⟩
    · rw [if_neg hr] at h; exact absurd h hr
  · rw [if_neg hc] at h; exact absurd h hc
theorem apR_no {p : Pl} {e : En} (h : (apR p e).2 ≠ 0) : (apR p e).1 = zPl := by
  unfold apR at h ⊢
  by_cases hc : chk e = 0
  · rw [if_pos hc] at h ⊢
    by_cases hr : refE p e e.s.toNat = 0
    · rw [if_pos hr] at h; exact absurd rfl h
    · rw [if_neg hr]
  · rw [if_neg hc]
theorem chS_inv {p : Pl} {K : Int} (h : Pinv p K) (e : En) (i : Nat) (hi : i < 64) : (0 ≤ (chS p e i).si ∧ (chS p e i).si ≤ K + 1) ∧ 0 ≤ (chS p e i).st ∧ (chS p e i).st ≤ 4 := by
  obtain ⟨⟨a, b⟩, ⟨c, d⟩, f⟩ := h
  obtain ⟨⟨f1, f2⟩, f3, f4⟩ := f i hi
  unfold chS
  cases (e.k == 1)
  · cases (e.k == 2)
    · cases (e.k == 3)
      · cases (e.k == 4)
        · cases (e.k == 5)
          · exact ⟨⟨f1, f2⟩, f3, f4⟩
          · simp only [cond_false, cond_true, zSp]; omega
        · simp only [cond_false, cond_true]; omega
      · simp only [cond_false, cond_true]; omega
    · simp only [cond_false, cond_true]; omega
  · simp only [cond_true]; omega
theorem nxP_inv {p : Pl} {K : Int} (h : Pinv p K) (e : En) (hs : e.s.toNat < 64) : Pinv (nxP p e) (K + 1) := by
  have hC := chS_inv h e e.s.toNat hs
  obtain ⟨⟨a, b⟩, ⟨c, d⟩, f⟩ := h
  unfold nxP
  cases (e.k == 6)
  · refine ⟨⟨by simp only [cond_false]; omega, by simp only [cond_false]; omega⟩, ⟨by simp only [cond_false]; omega, by simp only [cond_false]; omega⟩, fun i hi => ?_⟩
    simp only [cond_false, setS]
    by_cases he : i = e.s.toNat
    · rw [if_pos he]; omega
    · rw [if_neg he]
      have := f i hi
      omega
  · refine ⟨⟨by simp only [cond_true]; omega, by simp only [cond_true]; omega⟩, ⟨by simp only [cond_true]; omega, by simp only [cond_true]; omega⟩, fun i hi => ?_⟩
    simp only [cond_true]
    have := f i hi
    omega
theorem apR_inv {p : Pl} {K : Int} (h : Pinv p K) {e : En} (h0 : (apR p e).2 = 0) : Pinv (apR p e).1 (K + 1) := by
  obtain ⟨hc, _, h1⟩ := apR_ok h0
  obtain ⟨_, _, s0, s1, _⟩ := chk_ok hc
  rw [h1]
  exact nxP_inv h e (by omega)
/-- So many entries are done, one behind the other: the pool behind them. -/
def runP (p : Pl) (g : Nat → En) : Nat → Option Pl
  | 0 => some p
  | k + 1 => match runP p g k with
    | none => none
    | some q => if (apR q (g k)).2 = 0 then some (apR q (g k)).1 else none
/-- What All tells. -/
def AllOut (p : Pl) (g : Nat → En) (n : Nat) (q : Pl) (k : Nat) (er : Int) : Prop := runP p g k = some q ∧ (k = n ∧ er = 0 ∨ k < n ∧ er = (apR q (g k)).2 ∧ er ≠ 0)
theorem runP_none {p : Pl} {g : Nat → En} {k : Nat} (h : runP p g k = none) : ∀ j, k ≤ j → runP p g j = none := by
  intro j hj
  induction j with
  | zero => have : k = 0 := by omega
            subst this; exact h
  | succ j ih =>
    by_cases e : k = j + 1
    · subst e; exact h
    · unfold runP; rw [ih (by omega)]
theorem AllOut.uniq {p : Pl} {g : Nat → En} {n : Nat} {q q' : Pl} {k k' : Nat} {er er' : Int} (h : AllOut p g n q k er) (h' : AllOut p g n q' k' er') : q = q' ∧ k = k' ∧ er = er' := by
  have key : ∀ {q q' : Pl} {k k' : Nat} {er er' : Int}, AllOut p g n q k er → AllOut p g n q' k' er' → ¬ k < k' := by
    intro q q' k k' er er' h h' hlt
    obtain ⟨h1, h2⟩ := h
    obtain ⟨h1', h2'⟩ := h'
    rcases h2 with ⟨e, _⟩ | ⟨hk, he, hne⟩
    · rcases h2' with ⟨e', _⟩ | ⟨hk', _⟩ <;> omega
    · have : runP p g (k + 1) = none := by
        unfold runP
        rw [h1]
        simp only
        rw [if_neg (by rw [← he]; exact hne)]
      have := runP_none this k' (by omega)
      rw [h1'] at this
      cases this
  have hk : k = k' := by
    have a := key h h'
    have b := key h' h
    omega
  subst hk
  obtain ⟨h1, h2⟩ := h
  obtain ⟨h1', h2'⟩ := h'
  rw [h1] at h1'
  injection h1' with hq
  subst hq
  refine ⟨rfl, rfl, ?_⟩
  rcases h2 with ⟨_, e⟩ | ⟨hk, e, _⟩ <;> rcases h2' with ⟨_, e'⟩ | ⟨hk', e', _⟩ <;> first | omega | (rw [e, e'])
def enc (e : En) (k : Nat) : Value := match k with | 0 => .int .i64 e.k | 1 => .int .i64 e.s | 2 => .int .i64 e.a | 3 => .int .i64 e.p | 4 => .int .i64 e.w | 5 => .int .u64 e.y.a | _ => .int .u64 e.y.b
/-- A row of entries. -/
def Se (w : World) (A : Option Addr) (n : Nat) (g : Nat → En) : Prop := Sl w A (n * 7) (fun j => enc (g (j / 7)) (j % 7))
theorem Se.below {w w' : World} {A : Option Addr} {n : Nat} {g : Nat → En} {B : Nat} (h : Se w A n g) (hb : Below B w w') (hB : w.heap.size ≤ B) : Se w' A n g := Sl.below h hb hB
theorem Se.load {w : World} {b off n : Nat} {g : Nat → En} (h : Se w (some ⟨b, off, none⟩) n g) (k : Nat) (hk : k < n) : (Instr.loadAt 44 (.pointer (some ⟨b, off + k * 7, none⟩))).run Tryz.prog w = .ok (enV (g k)) w := by
  refine run_loadAt_mid w b (off + k * 7) 44 [.int .i64 (g k).k, .int .i64 (g k).s, .int .i64 (g k).a, .int .i64 (g k).p, .int .i64 (g k).w, .int .u64 (g k).y.a, .int .u64 (g k).y.b] _ (fun j v hj => ?_) Tryz.underlying44 rfl (by kernel_rfl)
  have hl : j < 7 := (List.getElem?_eq_some_iff.1 hj).1
  have := Sl.at_ h (j := k * 7 + j) (by omega)
  rw [show (k * 7 + j) / 7 = k by omega, show (k * 7 + j) % 7 = j by omega] at this
  rw [Nat.add_assoc, this, ← hj]
  rcases j with _ | _ | _ | _ | _ | _ | _ | j
  · rfl
  · rfl
  · rfl
  · rfl
  · rfl
  · rfl
  · rfl
  · omega
end Go.Proofs.YteefhiniamajkaaGreat
namespace Go.Proofs.YteefhiniamajkaaGreat
set_option linter.unusedVariables false
set_option linter.unusedSimpArgs false
open Go.RowKit Go.ChangeShapes Go.WideShapes Go.ChangeAt

theorem ret_block {l : Nat} {Q : Exit → Act → World → Prop} {a : Act} {w : World} (h : Q .ret a w) : Exit.inBlock l Q .ret a w := h
attribute [local irreducible] PA
set_option maxRecDepth 100000 in
set_option maxHeartbeats 4000000 in
theorem all_any (p : Pl) (g : Nat → En) (A : Option Addr) (n c : Nat) (w : World) (hA : Se w A n g) (hn : n ≤ 1000) (K : Int) (hp : Pinv p K) (hK : K ≤ 100000) : Calls Tryz.prog 56 #[plV p, .slice A n c] w fun x w' => ∃ (q : Pl) (k : Nat) (er : Int), x = .returned (.tuple #[plV q, .int .i64 (k : Int), .int .i64 er]) ∧ AllOut p g n q k er ∧ Below w.heap.size w w' := by
  have hz : ∀ w : World, (zeroValue 33).run Tryz.prog w = .ok (.agg (PA zPl)) w := fun w => zero_pl w
  have hz1 := pa_size zPl
  have hz2 := pa_ne zPl
  unfold plV
  go_enter Tryz.func56, Tryz.ntmps56
  go_upto_region 1 with (fail)
  have P1 := hid ((PoolAt.made (w := w) (p := p) (T := 33) rfl).alloc (.cells (PA zPl) 33))
  have R1 := hid (PoolAt.made (w := w.alloc (.cells (PA p) 33)) (p := zPl) (T := 33) (g := w.heap.size + 1) (by simp))
  have B1 := hid (((Below.refl w.heap.size w).alloc (Nat.le_refl _) (.cells (PA p) 33)).alloc (by simp) (.cells (PA zPl) 33))
  have lR : w.heap.size ≤ w.heap.size + 1 := by omega
  have dRP : w.heap.size + 1 ≠ w.heap.size := by omega
  have dPR := Ne.symm dRP
  have hA0 := hid hA
  have hAb := hid (fun b off (e : A = some ⟨b, off, none⟩) (h0 : 0 < n) => (show b < w.heap.size from by subst e; exact Sl.lt hA (by omega)))
  generalize (w.alloc (.cells (PA p) 33)).alloc (.cells (PA zPl) 33) = w1 at *
  generalize w.heap.size + 1 = R at *
  generalize hK : w.heap.size = P at *
  have HK := hid hK
  clear hK
  have hPi := hid hp
  clear hp hA
  go_wp2_with fail
  go_loopw [13] (fun i wr => ∃ (k : Nat) (q : Pl), k ≤ n ∧ i = .int .i64 (k : Int) ∧ runP p g k = some q ∧ Pinv q (K + k) ∧ PoolAt wr P q ∧ PoolAt wr R zPl ∧ Below P w wr) (fun i _ => n - (intOf i).toNat)
  case atStart => exact ⟨0, p, by omega, rfl, rfl, hPi.out.mono (by omega), P1.out, R1.out, B1.out⟩
  case round =>
    clear P1 R1 hPi
    obtain ⟨k, q, hk, rfl, hrun, hq, hP, hR, hB⟩ := hrel
    have P2 := hid hP
    have R2 := hid hR
    have B2 := hid hB
    have HRU := hid hrun
    have HQ := hid hq
    clear hP hR hB hrun hq
    by_cases hlt : k < n
    · have hSe : Se wr A n g := Se.below hA0.out B2.out (by rw [HK.out]; exact Nat.le_refl _)
      obtain ⟨b, off, rfl⟩ := Sl.addr hSe (by omega)
      have hbP := hAb.out b off rfl (by omega)
      have i0 : (0 : Int) ≤ k := by omega
      have i1 : (k : Int) < n := by omega
      have LE := hSe.load k hlt
      obtain ⟨e, he⟩ : ∃ e, e = g k := ⟨_, rfl⟩
      rw [← he] at LE
      have HE := hid he
      clear he hSe
      obtain ⟨e1, e2, e3, e4, e5, e6, e7⟩ := e
      unfold enV at LE
      simp only at LE
      go_upto_region 4 with ((with_reducible refine wl_id ?_); refine wl_load rfl rfl rfl LE ?_)
      clear LE
      have dV : wr.heap.size ≠ P := Nat.ne_of_gt P2.out.1
      have dVR : wr.heap.size ≠ R := Nat.ne_of_gt R2.out.1
      have lV : P ≤ wr.heap.size := Nat.le_of_lt P2.out.1
      have P3 := hid (P2.out.alloc (.cells #[.int .i64 e1, .int .i64 e2, .int .i64 e3, .int .i64 e4, .int .i64 e5, .int .u64 e6, .int .u64 e7] 44))
      have R3 := hid (R2.out.alloc (.cells #[.int .i64 e1, .int .i64 e2, .int .i64 e3, .int .i64 e4, .int .i64 e5, .int .u64 e6, .int .u64 e7] 44))
      have CV := Ce.made (w := wr) (l := [.int .i64 e1, .int .i64 e2, .int .i64 e3, .int .i64 e4, .int .i64 e5, .int .u64 e6, .int .u64 e7]) (T := 44) (g := wr.heap.size) rfl
      have B3 := hid (B2.out.alloc lV (.cells #[.int .i64 e1, .int .i64 e2, .int .i64 e3, .int .i64 e4, .int .i64 e5, .int .u64 e6, .int .u64 e7] 44))
      clear P2 R2 B2
      generalize wr.alloc (.cells #[.int .i64 e1, .int .i64 e2, .int .i64 e3, .int .i64 e4, .int .i64 e5, .int .u64 e6, .int .u64 e7] 44) = w3 at *
      generalize wr.heap.size = V at *
      have v0 := CV.2.1 0 _ rfl
      have v1 := CV.2.1 1 _ rfl
      have v2 := CV.2.1 2 _ rfl
      have v3 := CV.2.1 3 _ rfl
      have v4 := CV.2.1 4 _ rfl
      have v5 := CV.2.1 5 _ rfl
      have v6 := CV.2.1 6 _ rfl
      clear CV
      have LP := P3.out.loadA
      have AP := hid (fun w => apply_any q ⟨e1, e2, e3, e4, e5, ⟨e6, e7⟩⟩ (HQ.out.pb (by omega)) w)
      obtain ⟨ar, har⟩ : ∃ ar, ar = apR q ⟨e1, e2, e3, e4, e5, ⟨e6, e7⟩⟩ := ⟨_, rfl⟩
      rw [← har] at AP
      have HAR := hid har
      clear har
      obtain ⟨q2, er⟩ := ar
      replace AP := hid (show ∀ w, Calls Tryz.prog 72 #[.agg (PA q), .agg #[.int .i64 e1, .int .i64 e2, .int .i64 e3, .int .i64 e4, .int .i64 e5, .int .u64 e6, .int .u64 e7]] w fun x w' => x = .returned (.tuple #[.agg (PA q2), .int .i64 er]) ∧ Below w.heap.size w w' from AP.out)
      go_wp2_with ((with_reducible refine wl_id ?_); refine wl_load rfl rfl rfl LP ?_)
      refine (AP.out _).mono ?_
      rintro x w4 ⟨rfl, hb⟩
      clear LP v0 v1 v2 v3 v4 v5 v6
      have P4 := hid (P3.out.below hb)
      have R4 := hid (R3.out.below hb)
      have B4 := hid (B3.out.trans (hb.mono (Nat.le_of_lt P3.out.1)))
      clear hb P3 R3 B3
      have dN : w4.heap.size ≠ P := Nat.ne_of_gt P4.out.1
      have dNR : w4.heap.size ≠ R := Nat.ne_of_gt R4.out.1
      have lN : P ≤ w4.heap.size := Nat.le_of_lt P4.out.1
      have ST := hid ((PoolAt.made (w := w4) (p := zPl) (T := 33) rfl).storeA q2)
      have P5 := hid ((P4.out.alloc (.cells (PA zPl) 33)).others (c := w4.heap.size) (o := 0) (vs := (PA q2).toList) dN)
      have R5 := hid ((R4.out.alloc (.cells (PA zPl) 33)).others (c := w4.heap.size) (o := 0) (vs := (PA q2).toList) dNR)
      have N5 := hid ((PoolAt.made (w := w4) (p := zPl) (T := 33) rfl).whole q2)
      have B5 := hid ((B4.out.alloc lN (.cells (PA zPl) 33)).trans (keeps_setCells w4.heap.size (PA q2).toList 0 _ P lN))
      go_upto_region 5 with ((with_reducible refine wl_id ?_); refine wl_store rfl rfl rfl rfl ST.out ?_)
      clear ST P4 R4 B4
      generalize (w4.alloc (.cells (PA zPl) 33)).setCells w4.heap.size 0 (PA q2).toList = w5 at *
      generalize w4.heap.size = N at *
      cases be : (er != 0)
      · have he0 : er = 0 := by simpa using be
        subst he0
        have LN := N5.out.loadA
        have SR := hid (P5.out.storeA q2)
        have P6 := hid (P5.out.whole q2)
        have R6 := hid (R5.out.others (c := P) (o := 0) (vs := (PA q2).toList) dPR)
        have B6 := hid (B5.out.trans (keeps_setCells P (PA q2).toList 0 w5 P (Nat.le_refl _)))
        have HN2 : Hid (runP p g (k + 1) = some q2) := hid (by unfold runP; rw [HRU.out]; simp only; rw [← HE.out, ← HAR.out]; rfl)
        have HQ2 : Hid (Pinv q2 (K + ((k + 1 : Nat) : Int))) := hid (by have h := apR_inv HQ.out (e := ⟨e1, e2, e3, e4, e5, ⟨e6, e7⟩⟩) (by rw [← HAR.out]); rw [← HAR.out] at h; exact h.mono (by omega))
        go_upto_region 8 with (first | ((with_reducible refine wl_id ?_); refine wl_load rfl rfl rfl LN ?_) | ((with_reducible refine wl_id ?_); refine wl_store rfl rfl rfl rfl SR.out ?_))
        clear LN SR P5 R5 B5 N5
        generalize w5.setCells P 0 (PA q2).toList = w6 at *
        go_wp2_with fail
        go_roundw
        case rel => exact ⟨k + 1, q2, by omega, by go_num, HN2.out, HQ2.out, P6.out, R6.out, B6.out⟩
        case measure => simp [intOf]; omega
      · have hne : er ≠ 0 := by simpa using be
        have HNE := hid hne
        clear hne
        have LP := P5.out.loadA
        have SR := hid (R5.out.storeA q)
        go_wp2_with (first | ((with_reducible refine wl_id ?_); refine wl_load rfl rfl rfl LP ?_) | ((with_reducible refine wl_id ?_); refine wl_store rfl rfl rfl rfl SR.out ?_; refine wl_val rfl rfl ?_; refine wl_val rfl rfl ?_; refine end_then ?_; apply_assumption; refine wp_ret ?_; (repeat first | refine ret_then ?_ | refine ret_block ?_); (show bodyPost _ _ _ _ _ _); refine bodyPost_ret (v := .tuple #[.agg (PA q), .int .i64 (k : Int), .int .i64 er]) (results_c3 Tryz.results56 _ rfl rfl rfl (R5.out.whole q)) rfl ⟨q, _, er, rfl, ⟨HRU.out, .inr ⟨hlt, by rw [← HE.out, ← HAR.out], HNE.out⟩⟩, by rw [HK.out]; exact B5.out.trans (keeps_setCells R (PA q).toList 0 w5 P lR)⟩))
    · have e : k = n := by omega
      subst e
      have LP := P2.out.loadA
      have SR := hid (R2.out.storeA q)
      go_wp2_with (first | ((with_reducible refine wl_id ?_); refine wl_load rfl rfl rfl LP ?_) | ((with_reducible refine wl_id ?_); refine wl_store rfl rfl rfl rfl SR.out ?_; refine wl_val rfl rfl ?_; refine wl_val rfl rfl ?_; refine end_then ?_; apply_assumption; refine wp_ret ?_; (repeat first | refine ret_then ?_ | refine ret_block ?_); (show bodyPost _ _ _ _ _ _); refine bodyPost_ret (v := .tuple #[.agg (PA q), .int .i64 (k : Int), .int .i64 0]) (results_c3 Tryz.results56 _ rfl rfl rfl (R2.out.whole q)) rfl ⟨q, _, 0, rfl, ⟨HRU.out, .inl ⟨rfl, rfl⟩⟩, by rw [HK.out]; exact B2.out.trans (keeps_setCells R (PA q).toList 0 wr P lR)⟩))
end Go.Proofs.YteefhiniamajkaaGreat
