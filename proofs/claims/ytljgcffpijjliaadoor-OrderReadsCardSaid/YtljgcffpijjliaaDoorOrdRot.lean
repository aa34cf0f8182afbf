/- New keys. -/
import Derived.Test.YtljgcffpijjliaaDoorOrdRem
import Derived.BigQuiet
import Derived.Deep.RegionHeld3
import Derived.Deep.Cut
namespace Go.Proofs.YtljgcffpijjliaaDoor
set_option linter.unusedVariables false
set_option linter.unusedSimpArgs false
open Go.RowKit Go.ChangeShapes Go.WideShapes Go.ChangeAt

theorem OwE.alloc_ {w : World} {B m : Nat} {v : Value} {g : Nat → En} (h : OwE w B v m g) (o : Obj) : OwE (w.alloc o) B v m g := Ow.alloc h o
attribute [local irreducible] PA
set_option maxRecDepth 100000 in
set_option maxHeartbeats 4000000 in
theorem rotate_any (p : Pl) (hp : PB p) (y : Ky) (w : World) : Calls Tryd.prog 22 #[plV p, kyV y] w (Ls1 w (rotL p y 64)) := by
  obtain ⟨ya, yb⟩ := y
  unfold plV kyV
  go_enter Tryd.func22, Tryd.ntmps22
  go_upto_region 1 with (fail)
  have P1 := hid ((PoolAt.made (w := w) (p := p) (T := 33) rfl).alloc (.cells #[.int .u64 ya, .int .u64 yb] 29))
  have K1 := hid (Ce.made (w := w.alloc (.cells (PA p) 33)) (l := [.int .u64 ya, .int .u64 yb]) (T := 29) (g := w.heap.size + 1) (by simp))
  simp only [List.toArray] at K1
  have B1 := hid (((Below.refl w.heap.size w).alloc (Nat.le_refl _) (.cells (PA p) 33)).alloc (by simp) (.cells #[.int .u64 ya, .int .u64 yb] 29))
  generalize (w.alloc (.cells (PA p) 33)).alloc (.cells #[.int .u64 ya, .int .u64 yb] 29) = w1 at *
  have lPK := K1.out.1
  have k0 := K1.out.2.1 0 _ rfl
  have k1 := K1.out.2.1 1 _ rfl
  obtain ⟨D, hD⟩ : ∃ D, D = w1.heap.size := ⟨_, rfl⟩
  have HD := hid hD
  have hDP : w.heap.size < D := by omega
  clear hD
  generalize w.heap.size + 1 = K at *
  obtain ⟨P, hP⟩ : ∃ P, P = w.heap.size := ⟨_, rfl⟩
  have HP := hid hP
  rw [← hP] at P1 B1 hDP ⊢
  clear hP
  go_upto_region 2 with (fail)
  clear k0 k1
  have O2 := hid (owe_lit (w := w1) [⟨6, 0, 0, 0, 0, ⟨ya, yb⟩⟩] (cs := #[.int .i64 6, .int .i64 0, .int .i64 0, .int .i64 0, .int .i64 0, .int .u64 ya, .int .u64 yb]) (n := 1) rfl rfl (g := w1.heap.size) (B := D) rfl (by rw [HD.out]; exact Nat.le_refl _) (by simp))
  have P2 := hid (P1.out.alloc (.cells #[.int .i64 6, .int .i64 0, .int .i64 0, .int .i64 0, .int .i64 0, .int .u64 ya, .int .u64 yb] 56))
  have B2 := hid (B1.out.alloc (by have := HD.out; omega) (.cells #[.int .i64 6, .int .i64 0, .int .i64 0, .int .i64 0, .int .i64 0, .int .u64 ya, .int .u64 yb] 56))
  have lD2 : D ≤ (w1.alloc (.cells #[.int .i64 6, .int .i64 0, .int .i64 0, .int .i64 0, .int .i64 0, .int .u64 ya, .int .u64 yb] 56)).heap.size := by rw [HD.out]; simp
  generalize w1.alloc (.cells #[.int .i64 6, .int .i64 0, .int .i64 0, .int .i64 0, .int .i64 0, .int .u64 ya, .int .u64 yb] 56) = w2 at *
  generalize w1.heap.size = R at *
  clear P1 K1 B1 HD lPK
  have LS := P2.out.loadS
  go_wp2_with (refine wl_load rfl rfl rfl LS ?_)
  go_loopw [5, 13] (fun l i wr => ∃ (k : Nat) (A : Option Addr) (d : Nat), k ≤ 64 ∧ l = .slice A (rotL p ⟨ya, yb⟩ k).length d ∧ i = .int .i64 (k : Int) ∧ OwE wr D (.slice A (rotL p ⟨ya, yb⟩ k).length d) (rotL p ⟨ya, yb⟩ k).length (gl (rotL p ⟨ya, yb⟩ k)) ∧ PoolAt wr P p ∧ D ≤ wr.heap.size ∧ Below P w wr) (fun _ i _ => 64 - (intOf i).toNat)
  case atStart => exact ⟨0, _, _, by omega, rfl, rfl, O2.out, P2.out, lD2, B2.out⟩
  case round =>
    clear O2 P2 B2 lD2 LS
    obtain ⟨k, A, d, hk, rfl, rfl, ho, hp2, lD, hb⟩ := hrel
    have O3 := hid ho
    have P3 := hid hp2
    have B3 := hid hb
    clear ho hp2 hb
    have hln := (rot_len p ⟨ya, yb⟩ k).2
    by_cases hlt : k < 64
    · have i0 : (0 : Int) ≤ k := by omega
      have i1 : (k : Int) < 64 := by omega
      have AT : Hid (goneS p k = ((p.s k).st == 4 && decide ((p.s k).si + 3 ≤ p.r.e + 1))) := hid rfl
      have RL : Hid (rotL p ⟨ya, yb⟩ (k + 1) = if goneS p k = true then rotL p ⟨ya, yb⟩ k ++ [⟨5, (k : Int), 0, 0, 0, zKy⟩] else rotL p ⟨ya, yb⟩ k) := hid rfl
      have hsi := hp.2.2 k hlt
      have hre := hp.2.1
      unfold Ep at hre
      obtain ⟨hs1, hs2⟩ := hsi
      obtain ⟨hr1, hr2⟩ := hre
      have ce : wr.cell? ⟨P, 323, none⟩ = some (.int .i64 p.r.e) := P3.out.cr 0 (by omega)
      have IX := index_sl p.s k hlt wr
      unfold spV at IX
      generalize p.s k = s at *
      obtain ⟨st, ad, po, we, si⟩ := s
      simp only at AT hs1 hs2 IX
      obtain ⟨re, hre⟩ : ∃ x, x = p.r.e := ⟨_, rfl⟩
      rw [← hre] at AT ce hr1 hr2
      have HRE := hid hre
      clear hre
      have w3_ : IntKind.i64.wrap (si + 3) = si + 3 := IntWalk.i64_in _ (by omega)
      have w1_ : IntKind.i64.wrap (re + 1) = re + 1 := IntWalk.i64_in _ (by omega)
      have h6 : (st == 4) = false ∨ (st == 4) = true ∧ decide (si + 3 ≤ re + 1) = false ∨ (st == 4) = true ∧ decide (si + 3 ≤ re + 1) = true := by cases (st == 4) <;> cases decide (si + 3 ≤ re + 1) <;> simp
      rcases h6 with h6 | ⟨h6, h7⟩ | ⟨h6, h7⟩
      · have AF : Hid (goneS p k = false) := hid (by rw [AT.out, h6]; rfl)
        have RE : Hid (rotL p ⟨ya, yb⟩ (k + 1) = rotL p ⟨ya, yb⟩ k) := hid (by rw [RL.out, AF.out]; rfl)
        clear AT RL AF
        go_upto_region 5 with (refine wl_index rfl rfl rfl rfl IX ?_)
        clear IX ce
        have P4 := hid (P3.out.alloc (.cells #[.int .i64 st, .int .i64 ad, .int .i64 po, .int .i64 we, .int .i64 si] 25))
        have O4 := hid (O3.out.alloc_ (.cells #[.int .i64 st, .int .i64 ad, .int .i64 po, .int .i64 we, .int .i64 si] 25))
        have B4 := hid (B3.out.alloc (by omega) (.cells #[.int .i64 st, .int .i64 ad, .int .i64 po, .int .i64 we, .int .i64 si] 25))
        have C4 := hid (Ce.made (w := wr) (l := [.int .i64 st, .int .i64 ad, .int .i64 po, .int .i64 we, .int .i64 si]) (T := 25) (g := wr.heap.size) rfl)
        have lD4 : D ≤ (wr.alloc (.cells #[.int .i64 st, .int .i64 ad, .int .i64 po, .int .i64 we, .int .i64 si] 25)).heap.size := by simp; omega
        simp only [List.toArray] at C4
        generalize wr.alloc (.cells #[.int .i64 st, .int .i64 ad, .int .i64 po, .int .i64 we, .int .i64 si] 25) = w4 at *
        generalize wr.heap.size = S at *
        clear P3 O3 B3
        have ce : w4.cell? ⟨P, 323, none⟩ = some (.int .i64 re) := by rw [HRE.out]; exact P4.out.cr 0 (by omega)
        have s0 := C4.out.2.1 0 _ rfl
        have s4 := C4.out.2.1 4 _ rfl
        go_wp2_with fail
        go_roundw
        case rel => exact ⟨k + 1, A, d, by omega, by rw [RE.out], by go_num, by rw [RE.out]; exact O4.out, P4.out, lD4, B4.out⟩
        case measure => simp [intOf]; omega
      · have AF : Hid (goneS p k = false) := hid (by rw [AT.out, h6, h7]; rfl)
        have RE : Hid (rotL p ⟨ya, yb⟩ (k + 1) = rotL p ⟨ya, yb⟩ k) := hid (by rw [RL.out, AF.out]; rfl)
        clear AT RL AF
        have h7n : ¬ si + 3 ≤ re + 1 := by simpa using h7
        go_upto_region 5 with (refine wl_index rfl rfl rfl rfl IX ?_)
        clear IX ce
        have P4 := hid (P3.out.alloc (.cells #[.int .i64 st, .int .i64 ad, .int .i64 po, .int .i64 we, .int .i64 si] 25))
        have O4 := hid (O3.out.alloc_ (.cells #[.int .i64 st, .int .i64 ad, .int .i64 po, .int .i64 we, .int .i64 si] 25))
        have B4 := hid (B3.out.alloc (by omega) (.cells #[.int .i64 st, .int .i64 ad, .int .i64 po, .int .i64 we, .int .i64 si] 25))
        have C4 := hid (Ce.made (w := wr) (l := [.int .i64 st, .int .i64 ad, .int .i64 po, .int .i64 we, .int .i64 si]) (T := 25) (g := wr.heap.size) rfl)
        have lD4 : D ≤ (wr.alloc (.cells #[.int .i64 st, .int .i64 ad, .int .i64 po, .int .i64 we, .int .i64 si] 25)).heap.size := by simp; omega
        simp only [List.toArray] at C4
        generalize wr.alloc (.cells #[.int .i64 st, .int .i64 ad, .int .i64 po, .int .i64 we, .int .i64 si] 25) = w4 at *
        generalize wr.heap.size = S at *
        clear P3 O3 B3
        have ce : w4.cell? ⟨P, 323, none⟩ = some (.int .i64 re) := by rw [HRE.out]; exact P4.out.cr 0 (by omega)
        have s0 := C4.out.2.1 0 _ rfl
        have s4 := C4.out.2.1 4 _ rfl
        go_wp2_with fail
        go_roundw
        case rel => exact ⟨k + 1, A, d, by omega, by rw [RE.out], by go_num, by rw [RE.out]; exact O4.out, P4.out, lD4, B4.out⟩
        case measure => simp [intOf]; omega
      · have AF : Hid (goneS p k = true) := hid (by rw [AT.out, h6, h7]; rfl)
        have RE : Hid (rotL p ⟨ya, yb⟩ (k + 1) = rotL p ⟨ya, yb⟩ k ++ [⟨5, (k : Int), 0, 0, 0, zKy⟩]) := hid (by rw [RL.out, AF.out]; rfl)
        clear AT RL AF
        have h7n : si + 3 ≤ re + 1 := by simpa using h7
        go_upto_region 5 with (refine wl_index rfl rfl rfl rfl IX ?_)
        clear IX ce
        have P4 := hid (P3.out.alloc (.cells #[.int .i64 st, .int .i64 ad, .int .i64 po, .int .i64 we, .int .i64 si] 25))
        have O4 := hid (O3.out.alloc_ (.cells #[.int .i64 st, .int .i64 ad, .int .i64 po, .int .i64 we, .int .i64 si] 25))
        have B4 := hid (B3.out.alloc (by omega) (.cells #[.int .i64 st, .int .i64 ad, .int .i64 po, .int .i64 we, .int .i64 si] 25))
        have C4 := hid (Ce.made (w := wr) (l := [.int .i64 st, .int .i64 ad, .int .i64 po, .int .i64 we, .int .i64 si]) (T := 25) (g := wr.heap.size) rfl)
        have lD4 : D ≤ (wr.alloc (.cells #[.int .i64 st, .int .i64 ad, .int .i64 po, .int .i64 we, .int .i64 si] 25)).heap.size := by simp; omega
        simp only [List.toArray] at C4
        generalize wr.alloc (.cells #[.int .i64 st, .int .i64 ad, .int .i64 po, .int .i64 we, .int .i64 si] 25) = w4 at *
        generalize wr.heap.size = S at *
        clear P3 O3 B3
        have ce : w4.cell? ⟨P, 323, none⟩ = some (.int .i64 re) := by rw [HRE.out]; exact P4.out.cr 0 (by omega)
        have s0 := C4.out.2.1 0 _ rfl
        have s4 := C4.out.2.1 4 _ rfl
        go_upto_region 6 with (fail)
        clear ce w3_ w1_ h7n h7 h6 s0 s4 C4
        have ob := hid O4.out.bd
        obtain ⟨m, hm⟩ : ∃ m, m = (rotL p ⟨ya, yb⟩ k).length := ⟨_, rfl⟩
        have HM := hid hm
        have hm2 : m ≤ 65 := by omega
        rw [← hm] at O4 ob ⊢
        clear hm hln
        go_wp2_with (at_builtin; refine wp_app_e rfl (.tmp 30) (.tmp 33) rfl D _ m (gl (rotL p ⟨ya, yb⟩ k ++ [⟨5, (k : Int), 0, 0, 0, zKy⟩])) rfl (Ow.alloc (put_G HM.out O4.out) _) w4.heap.size 1 rfl (by rw [gl_last _ _ _ HM.out]; exact Ce.made (l := enL ⟨5, (k : Int), 0, 0, 0, zKy⟩) rfl) (by omega) (by simp; omega) ?_; intro A' d' w5 hown hbel hgr; have O5 := hid hown; have P5 := hid ((P4.out.alloc (.cells #[.int .i64 5, .int .i64 (k : Int), .int .i64 0, .int .i64 0, .int .i64 0, .int .u64 0, .int .u64 0] 56)).grown hgr (fun e => by have := ob.out P e; omega)); have B5 := hid ((B4.out.alloc (by omega) (.cells #[.int .i64 5, .int .i64 (k : Int), .int .i64 0, .int .i64 0, .int .i64 0, .int .u64 0, .int .u64 0] 56)).trans (hbel.mono (by omega))); have lD5 := Nat.le_trans (Nat.le_succ_of_le lD4) (by have := hbel.size; simpa using this); clear hown hbel hgr O4 P4 B4 ob)
        go_roundw
        case rel => exact ⟨k + 1, A', d', by omega, by rw [RE.out, HM.out]; simp, by go_num, by rw [RE.out, List.length_append, ← HM.out]; exact O5.out, P5.out, lD5, B5.out⟩
        case measure => simp [intOf]; omega
    · have e : k = 64 := by omega
      subst e
      go_wp2_with fail
      go_ret
      exact ⟨A, d, rfl, OwE.base O3.out (by have := HP.out; omega), by rw [← HP.out]; exact B3.out⟩
end Go.Proofs.YtljgcffpijjliaaDoor
