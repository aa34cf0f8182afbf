/- roundhouselaw1.SumKeeps answers true for every row of bytes and every two rows of numbers; no condition. -/
import Derived.Test.YtgplnabpknminaaSumLaw
import Derived.Test.YtgplnabpknminaaBytes
import Derived.Deep.DeepCutAuto
namespace Go.Proofs.Ytgplnabpknminaa.sumKeeps
set_option linter.unusedVariables false
open Go.RowKit Go.ChangeShapes Go.WideShapes Go.ChangeAt

theorem ow_lit {w : World} {e : TypeId} (l : List Int) {B : Nat} (hB : w.heap.size = B) (hl : l.length ≤ 100) :
    Ow (w.alloc (.cells (l.map (Value.int .u8)).toArray e)) B e 1 (.slice (some ⟨B, 0, none⟩) l.length l.length) l.length (fun j => .int .u8 (l.getD j 0)) := by
  subst hB
  have h := World.ownsRow_lit (size := 1) (e := e) (base := w.heap.size) w (l.map (Value.int .u8)).toArray l.length (Nat.le_refl _) (by simp only [maxLen]; omega) (by simp)
  have e1 : (l.map (Value.int .u8)).toArray.toList = (List.range (l.length * 1)).map (fun j => Value.int .u8 (l.getD j 0)) := by
    apply List.ext_getElem
    · simp
    · intro i h1 h2
      simp at h1 h2
      simp [List.getD, h1]
  unfold Ow
  rw [← e1]
  simpa using h

theorem isB_two {f f2 : Nat → Int} {n : Nat} (h : IsB f) (h2 : IsB f2) : IsB (fun j => if j < n then f j else f2 (j - n)) := by
  intro j
  simp only
  split
  · exact h _
  · exact h2 _

/-- Two bytes laid anew. -/
def st2 (f : Nat → Int) (i : Nat) (x y : Int) : Nat → Int := fun j => if j = i + 1 then y else if j = i then x else f j
theorem st2_b {f : Nat → Int} (h : IsB f) (i : Nat) {x y : Int} (hx : 0 ≤ x ∧ x ≤ 255) (hy : 0 ≤ y ∧ y ≤ 255) : IsB (st2 f i x y) := by
  intro j
  unfold st2
  split
  · exact hy
  · split
    · exact hx
    · exact h j
theorem st2_0 {f : Nat → Int} (h : f 0 = 1) (i : Nat) (hi : 0 < i) (x y : Int) : st2 f i x y 0 = 1 := by
  unfold st2
  rw [if_neg (by omega), if_neg (by omega), h]
theorem tot_st2 (f : Nat → Int) (p : Nat) (x y : Int) (L : Nat) (h : 2 * p + 1 < L) : tot (st2 f (2 * p) x y) L = tot f L + ((x * 256 + y) - (f (2 * p) * 256 + f (2 * p + 1))) := by
  have e0 : st2 f (2 * p) x y = set1 (set1 f (2 * p) x) (2 * p + 1) y := rfl
  rw [e0, tot_set1 _ _ _ _ h, if_neg (show ¬ (2 * p + 1) % 2 = 0 by omega), tot_set1 _ _ _ _ (show 2 * p < L by omega), if_pos (show 2 * p % 2 = 0 by omega)]
  simp only [set1]
  rw [if_neg (show ¬ 2 * p + 1 = 2 * p by omega)]
  omega
theorem good (f : Nat → Int) (hf : IsB f) (h0 : f 0 = 1) (L : Nat) (hL : 0 < L) (hm : tot f L % 65535 = 0) : norm (tot f L) = 65535 := by
  have h1 : tot f L ≠ 0 := fun e => by
    have := (tot_zero f hf L).1 e 0 hL
    omega
  unfold norm
  rw [if_neg h1]
  omega
theorem good_mod (f : Nat → Int) (L : Nat) (h : norm (tot f L) = 65535) : tot f L % 65535 = 0 := by
  unfold norm at h
  split at h <;> omega
theorem good_of (f : Nat → Int) (hf : IsB f) (N L : Nat) (hL : L = 2 * N + 2) (hN : 2 ≤ N) (h0 : f 0 = 1) (z : f (2 * N) = 0) (z' : f (2 * N + 1) = 0) (s : Int) (hs : s = 65535 - norm (tot f L)) (sb : 0 ≤ s) (sb' : s ≤ 65535) :
    IsB (st2 f (2 * N) (s / 256) (s % 256)) ∧ st2 f (2 * N) (s / 256) (s % 256) 0 = 1 ∧ norm (tot (st2 f (2 * N) (s / 256) (s % 256)) L) = 65535 := by
  have h1 := st2_b hf (2 * N) (x := s / 256) (y := s % 256) (by omega) (by omega)
  have h2 := st2_0 h0 (2 * N) (by omega) (s / 256) (s % 256)
  refine ⟨h1, h2, good _ h1 h2 L (by omega) ?_⟩
  rw [tot_st2 _ _ _ _ _ (by omega), z, z']
  have h3 : tot f L % 65535 = norm (tot f L) % 65535 := by
    unfold norm
    split <;> omega
  omega
theorem good_turn (f : Nat → Int) (hf : IsB f) (N L k : Nat) (hL : L = 2 * N + 2) (hN : 2 ≤ N) (hk : 0 < k) (hkN : k < N) (h0 : f 0 = 1) (hn : norm (tot f L) = 65535) (v : Int) (hv : 0 ≤ v) (hv' : v ≤ 65535) (s : Int) (hs : s = turn (f (2 * N) * 256 + f (2 * N + 1)) (f (2 * k) * 256 + f (2 * k + 1)) v) (sb : 0 ≤ s) (sb' : s ≤ 65535) :
    IsB (st2 (st2 f (2 * k) (v / 256) (v % 256)) (2 * N) (s / 256) (s % 256)) ∧ st2 (st2 f (2 * k) (v / 256) (v % 256)) (2 * N) (s / 256) (s % 256) 0 = 1 ∧ norm (tot (st2 (st2 f (2 * k) (v / 256) (v % 256)) (2 * N) (s / 256) (s % 256)) L) = 65535 := by
  have h1 := st2_b hf (2 * k) (x := v / 256) (y := v % 256) (by omega) (by omega)
  have h2 := st2_0 h0 (2 * k) (by omega) (v / 256) (v % 256)
  have h3 := st2_b h1 (2 * N) (x := s / 256) (y := s % 256) (by omega) (by omega)
  have h4 := st2_0 h2 (2 * N) (by omega) (s / 256) (s % 256)
  refine ⟨h3, h4, good _ h3 h4 L (by omega) ?_⟩
  have e1 : st2 f (2 * k) (v / 256) (v % 256) (2 * N) = f (2 * N) := by unfold st2; rw [if_neg (by omega), if_neg (by omega)]
  have e2 : st2 f (2 * k) (v / 256) (v % 256) (2 * N + 1) = f (2 * N + 1) := by unfold st2; rw [if_neg (by omega), if_neg (by omega)]
  rw [tot_st2 _ _ _ _ _ (by omega), e1, e2, tot_st2 _ _ _ _ _ (by omega)]
  have h5 := good_mod f L hn
  have h6 := turn_mod (f (2 * N) * 256 + f (2 * N + 1)) (f (2 * k) * 256 + f (2 * k + 1)) v
  rw [← hs] at h6
  omega

set_option maxRecDepth 100000 in
set_option maxHeartbeats 4000000 in
theorem walk (W : World) (A : Option Addr) (n c : Nat) (g : Nat → Int) (hn : n ≤ c) (hc : c ≤ maxLen) (h : By W A n g) (hg : IsB g) (hl : ∀ ad, A = some ad → 0 < n → ad.block < W.heap.size) (re : c * 1 ≤ 140737488351232)
    (A2 : Option Addr) (n2 c2 : Nat) (g2 : Nat → Int) (hn2 : n2 ≤ c2) (hc2 : c2 ≤ maxLen) (h2 : Is W A2 n2 g2) (hg2 : IsI g2) (hl2 : ∀ ad, A2 = some ad → 0 < n2 → ad.block < W.heap.size) (re2 : c2 * 8 ≤ 140737488351232)
    (A3 : Option Addr) (n3 c3 : Nat) (g3 : Nat → Int) (hn3 : n3 ≤ c3) (hc3 : c3 ≤ maxLen) (h3 : Is W A3 n3 g3) (hg3 : IsI g3) (hl3 : ∀ ad, A3 = some ad → 0 < n3 → ad.block < W.heap.size) (re3 : c3 * 8 ≤ 140737488351232) :
    Calls Try.prog 3 #[.slice A n c, .slice A2 n2 c2, .slice A3 n3 c3] W fun e w' => e = .returned (.bool true) ∧ Below W.heap.size W w' := by
  by_cases hbig : n ≤ 2000
  · have t1 : decide ((n : Int) > 2000) = false := by simp; omega
    go_enter Try.func3, Try.ntmps3
    go_wp2_with fail
    refine (known_any _).mono ?_
    rintro e w ⟨rfl, hb1⟩
    have hs := h.below hb1 (Nat.le_refl _)
    obtain ⟨N, hN⟩ : ∃ N, N = (n + 4) / 2 := ⟨_, rfl⟩
    obtain ⟨L, hL⟩ : ∃ L, L = 2 * N + 2 := ⟨_, rfl⟩
    have hN2 : 2 ≤ N := by omega
    have hN9 : N ≤ 1002 := by omega
    have hN4 : 2 * N ≤ n + 4 := by omega
    have hN3 : n + 3 ≤ 2 * N := by omega
    have hLa : L ≤ 2 * N + 2 := by omega
    have hLb : 2 * N + 2 ≤ L := by omega
    clear hN hL
    by_cases hp : (3 + n) % 2 = 1
    · have e0 : ((3 + (n : Int)) % 2 == 1) = true := by simp; omega
      have e1 : (3 + (n : Int) + 1) / 2 = N := by omega
      go_wp2_with (at_builtin
                   first
                     | (refine wp_app_b rfl (.tmp 19) (.tmp 20) rfl w.heap.size (.slice (some ⟨w.heap.size, 0, none⟩) 3 3) 3 (fun j => [1, 0, 0].getD j 0) rfl (ow_lit [1, 0, 0] rfl (by decide)) A n c g rfl (hs.alloc _) (by omega) (by simp) ?_
                        intro A1 c1 w1 o1 hc1 hm1 hb2 hg1 ho1
                        have hb2' : Below w.heap.size w w1 := ((Below.refl _ _).alloc (Nat.le_refl _) _).trans hb2)
                     | (refine wp_app_b rfl (.tmp 26) (.tmp 27) rfl w.heap.size (.slice A1 (3 + n) c1) (3 + n) _ rfl (o1.alloc _) (some ⟨_, 0, none⟩) 1 1 (fun j => [7].getD j 0) rfl (row_at .u8 [7] rfl) (by omega) (by have := hb2'.size; simp; omega) ?_
                        intro A4 c4 w4 o4 hc4 hm4 hb4 hg4 ho4
                        have hb4' : Below w.heap.size w w4 := (hb2'.alloc hb2'.size _).trans hb4)
                     | (refine wp_app_b rfl (.tmp 32) (.tmp 33) rfl w.heap.size (.slice A4 (3 + n + 1) c4) (3 + n + 1) _ rfl (o4.alloc _) (some ⟨_, 0, none⟩) 2 2 (fun j => [0, 0].getD j 0) rfl (row_at .u8 [0, 0] rfl) (by omega) (by have := hb4'.size; simp; omega) ?_
                        intro A5 c5 w5 o5 hc5 hm5 hb5 hg5 ho5
                        have hb5' : Below w.heap.size w w5 := (hb4'.alloc hb4'.size _).trans hb5
                        have hL : (3 + n + 1) + 2 = L := by omega
                        rw [hL] at o5 hc5 ⊢
                        clear hL ho5 ho1 hg1 hg5))
      obtain ⟨f, O1, hfb, hf0, hfN, hfN'⟩ : ∃ f : Nat → Int, Ow w5 w.heap.size 5 1 (.slice A5 L c5) L (fun j => .int .u8 (f j)) ∧ IsB f ∧ f 0 = 1 ∧ f (2 * N) = 0 ∧ f (2 * N + 1) = 0 :=
        ⟨_, o5, isB_two (isB_two (isB_two (lit_b _ (by decide)) hg) (lit_b _ (by decide))) (lit_b _ (by decide)), by simp, by rw [if_neg (by omega), show 2 * N - (3 + n + 1) = 0 from by omega]; rfl, by rw [if_neg (by omega), show 2 * N + 1 - (3 + n + 1) = 1 from by omega]; rfl⟩
      -- rest
      have nb := norm_bd (tot f L)
      obtain ⟨s0, hs0⟩ : ∃ s0, s0 = 65535 - norm (tot f L) := ⟨_, rfl⟩
      have sb : 0 ≤ s0 := by omega
      have sb' : s0 ≤ 65535 := by omega
      have S0 := hid hs0
      have s2 := h2.below hb1 (Nat.le_refl _)
      have s3 := h3.below hb1 (Nat.le_refl _)
      have hbW : Below W.heap.size W w5 := hb1.trans (hb5'.mono hb1.size)
      refine (re_i64 (of_any _ _ _ _ _ O1.sl1 hfb (by omega)) hs0.symm).mono ?_
      rintro e w6 ⟨rfl, k6, rfl⟩
      clear hs0 nb
      obtain ⟨G, rfl, hG1, hG2, _, _⟩ := O1.block_ (by omega)
      have O2 : Ow (w5.drewN k6) w.heap.size 5 1 (.slice (some ⟨G, 0, none⟩) L c5) L (fun j => .int .u8 (f j)) := O1.drewN k6
      obtain ⟨f1, f2, f3, f4, hst⟩ := pair_store O2 (2 * N) (by omega)
      obtain ⟨O3, hb6⟩ := hst (s0 / 256) (s0 % 256)
      clear hst
      have z1 : 0 ≤ 2 * (N : Int) := by omega
      have z2 : 2 * (N : Int) < L := by omega
      have z3 : 0 ≤ 2 * (N : Int) + 1 := by omega
      have z4 : 2 * (N : Int) + 1 < L := by omega
      have z5 : IntKind.i64.wrap (2 * (N : Int)) = 2 * (N : Int) := IntWalk.i64_in _ (by omega)
      have z6 : IntKind.i64.wrap (2 * (N : Int) + 1) = 2 * (N : Int) + 1 := IntWalk.i64_in _ (by omega)
      go_upto_region 13 with fail
      go_cut [] (fun wx => wx = ((w5.drewN k6).setCell ⟨G, 2 * N, none⟩ (.int .u8 (s0 / 256))).setCell ⟨G, 2 * N + 1, none⟩ (.int .u8 (s0 % 256)))
      case first =>
        go_wp2_with fail
        go_meet
        rfl
      case rest =>
      obtain rfl := hcut
      clear f1 f2 f3 f4 z5 z6
      have hb7 : Below w.heap.size w (((w5.drewN k6).setCell ⟨G, 2 * N, none⟩ (.int .u8 (s0 / 256))).setCell ⟨G, 2 * N + 1, none⟩ (.int .u8 (s0 % 256))) := (below_drewN hb5' k6).trans hb6
      generalize ((w5.drewN k6).setCell ⟨G, 2 * N, none⟩ (.int .u8 (s0 / 256))).setCell ⟨G, 2 * N + 1, none⟩ (.int .u8 (s0 % 256)) = w7 at *
      obtain ⟨F1, hF1⟩ : ∃ F1, F1 = st2 f (2 * N) (s0 / 256) (s0 % 256) := ⟨_, rfl⟩
      have O4 : Ow w7 w.heap.size 5 1 (.slice (some ⟨G, 0, none⟩) L c5) L (fun j => .int .u8 (F1 j)) := hF1 ▸ O3
      obtain ⟨B1, B2, B3⟩ := good_of f hfb N L (by omega) hN2 hf0 hfN hfN' s0 S0.out sb sb'
      rw [← hF1] at B1 B2 B3
      have HB3 := hid B3
      clear hF1 B3 O3 O2 O1 hfb hf0 hfN hfN' S0 hb6
      go_wp2_with fail
      refine (re_bool (right_any _ _ _ _ _ O4.sl1 B1 (by omega)) (beq_iff_eq.2 HB3.out)).mono ?_
      rintro e w8 ⟨rfl, k8, rfl⟩
      obtain ⟨M, hM⟩ : ∃ M, M = min (min n2 n3) 10 := ⟨_, rfl⟩
      have hM1 : M ≤ n2 := by omega
      have hM2 : M ≤ n3 := by omega
      have hM3 : M ≤ 10 := by omega
      have hM4 : n2 ≤ M ∨ n3 ≤ M ∨ 10 ≤ M := by omega
      clear hM
      obtain ⟨wb, hwb⟩ : ∃ wb, wb = w7.drewN k8 := ⟨_, rfl⟩
      have O5 : Ow wb w.heap.size 5 1 (.slice (some ⟨G, 0, none⟩) L c5) L (fun j => .int .u8 (F1 j)) := hwb ▸ O4
      have hb8 : Below w.heap.size w wb := hwb ▸ below_drewN hb7 k8
      rw [← hwb]
      clear hwb O4 hb7 hb5' hbW
      have i4 : (1 : Int) < N := by omega
      go_wp2_with fail
      go_loopw [9, 10, 11, 12, 13] (fun s i _ _ _ wr => ∃ (k : Nat) (F : Nat → Int), k ≤ M ∧ i = .int .i64 k ∧ Below w.heap.size wb wr ∧ Ow wr w.heap.size 5 1 (.slice (some ⟨G, 0, none⟩) L c5) L (fun j => .int .u8 (F j)) ∧ IsB F ∧ F 0 = 1 ∧ Hid (norm (tot F L) = 65535))
        (fun _ i _ _ _ _ => M - (intOf i).toNat)
      case atStart => exact ⟨0, F1, by omega, rfl, Below.refl _ _, O5, B1, B2, HB3⟩
      case round =>
        obtain ⟨k, F, hk, rfl, hbr, Or, HF1, HF2, HF3⟩ := hrel
        have hb9 := hb8.trans hbr
        by_cases hlt : k < M
        · obtain ⟨b2, off2, rfl, hblt2, hcell2⟩ := s2.below hb9 (Nat.le_refl _) (by omega)
          obtain ⟨b3, off3, rfl, hblt3, hcell3⟩ := s3.below hb9 (Nat.le_refl _) (by omega)
          have j1 : (k : Int) < n2 := by omega
          have j2 : (k : Int) < n3 := by omega
          have j3 : (k : Int) < 10 := by omega
          have j0 : (0 : Int) ≤ k := by omega
          have q1 : wr.cell? ⟨b2, off2 + k, none⟩ = some (.int .i64 (g2 k)) := hcell2 k (by omega)
          have q2 : wr.cell? ⟨b3, off3 + k, none⟩ = some (.int .i64 (g3 k)) := hcell3 k (by omega)
          clear hcell2 hcell3
          have b0 := wi_bd (g2 k) ((N : Int) - 1) (by omega)
          obtain ⟨m, hm⟩ := Int.eq_ofNat_of_zero_le b0.1
          rw [hm] at b0
          have HM := hid hm
          have b1 := wi_bd (g3 k) 65536 (by omega)
          obtain ⟨v, hv⟩ : ∃ v, v = wi (g3 k) 65536 := ⟨_, rfl⟩
          rw [← hv] at b1
          obtain ⟨b1, b1'⟩ := b1
          have HV := hid hv.symm
          have hkN : m + 1 < N := by omega
          clear hm hv b0
          go_wp2_with fail
          go_quiet ((first | (go_at_call 7; exact q0p (re_i64 (within_any _ _ _ (by omega) (by omega)) HM.out)) | (go_at_call 7; exact q0p (re_i64 (within_any _ _ _ (by omega) (by omega)) HV.out))))
          clear HM HV q1 q2
          obtain ⟨wq, hwq⟩ : ∃ wq, wq = wr.drewN nq := ⟨_, rfl⟩
          have Oq : Ow wq w.heap.size 5 1 (.slice (some ⟨G, 0, none⟩) L c5) L (fun j => .int .u8 (F j)) := hwq ▸ Or.drewN nq
          have hbq : Below w.heap.size wb wq := hwq ▸ below_drewN hbr nq
          rw [← hwq]
          clear hwq
          obtain ⟨k', hk'⟩ : ∃ k', k' = m + 1 := ⟨_, rfl⟩
          have e1 : 1 + (m : Int) = k' := by omega
          have k1 : 0 < k' := by omega
          have k2 : k' < N := by omega
          obtain ⟨_, eG, _, _, hcell, _⟩ := Oq.block_ (by omega)
          injection eG with eG
          injection eG with eG
          subst eG
          obtain ⟨a1, h1⟩ : ∃ a, a = F (2 * N) := ⟨_, rfl⟩
          obtain ⟨a2, h2'⟩ : ∃ a, a = F (2 * N + 1) := ⟨_, rfl⟩
          obtain ⟨a3, h3'⟩ : ∃ a, a = F (2 * k') := ⟨_, rfl⟩
          obtain ⟨a4, h4⟩ : ∃ a, a = F (2 * k' + 1) := ⟨_, rfl⟩
          have r1 := HF1 (2 * N)
          have r2 := HF1 (2 * N + 1)
          have r3 := HF1 (2 * k')
          have r4 := HF1 (2 * k' + 1)
          rw [← h1] at r1
          rw [← h2'] at r2
          rw [← h3'] at r3
          rw [← h4] at r4
          obtain ⟨r1, r1'⟩ := r1
          obtain ⟨r2, r2'⟩ := r2
          obtain ⟨r3, r3'⟩ := r3
          obtain ⟨r4, r4'⟩ := r4
          have c1' : wq.cell? ⟨G, (2 * (N : Int)).toNat, none⟩ = some (.int .u8 a1) := by rw [h1, show (2 * (N : Int)).toNat = 2 * N from by omega]; exact hcell _ (by omega)
          have c2' : wq.cell? ⟨G, (2 * (N : Int) + 1).toNat, none⟩ = some (.int .u8 a2) := by rw [h2', show (2 * (N : Int) + 1).toNat = 2 * N + 1 from by omega]; exact hcell _ (by omega)
          have c3' : wq.cell? ⟨G, (2 * (k' : Int)).toNat, none⟩ = some (.int .u8 a3) := by rw [h3', show (2 * (k' : Int)).toNat = 2 * k' from by omega]; exact hcell _ (by omega)
          have c4' : wq.cell? ⟨G, (2 * (k' : Int) + 1).toNat, none⟩ = some (.int .u8 a4) := by rw [h4, show (2 * (k' : Int) + 1).toNat = 2 * k' + 1 from by omega]; exact hcell _ (by omega)
          have x1 := or_shift a1 a2 r1 r1' r2 r2'
          have x2 := or_shift a3 a4 r3 r3' r4 r4'
          have y1 : IntKind.i64.wrap (2 * (N : Int)) = 2 * (N : Int) := IntWalk.i64_in _ (by omega)
          have y2 : IntKind.i64.wrap (2 * (N : Int) + 1) = 2 * (N : Int) + 1 := IntWalk.i64_in _ (by omega)
          have y3 : IntKind.i64.wrap (2 * (k' : Int)) = 2 * (k' : Int) := IntWalk.i64_in _ (by omega)
          have y4 : IntKind.i64.wrap (2 * (k' : Int) + 1) = 2 * (k' : Int) + 1 := IntWalk.i64_in _ (by omega)
          have y5 : IntKind.i64.wrap (a1 * 256) = a1 * 256 := IntWalk.i64_in _ (by omega)
          have y6 : IntKind.i64.wrap (a3 * 256) = a3 * 256 := IntWalk.i64_in _ (by omega)
          have y7 : IntKind.i64.wrap a1 = a1 := IntWalk.i64_in _ (by omega)
          have y8 : IntKind.i64.wrap a2 = a2 := IntWalk.i64_in _ (by omega)
          have y9 : IntKind.i64.wrap a3 = a3 := IntWalk.i64_in _ (by omega)
          have y0 : IntKind.i64.wrap a4 = a4 := IntWalk.i64_in _ (by omega)
          have z5 : 0 ≤ 2 * (k' : Int) := by omega
          have z6 : 2 * (k' : Int) < L := by omega
          have z7 : 0 ≤ 2 * (k' : Int) + 1 := by omega
          have z8 : 2 * (k' : Int) + 1 < L := by omega
          have HK := hid hk'
          have H1 := hid h1
          have H2 := hid h2'
          have H3 := hid h3'
          have H4 := hid h4
          clear h1 h2' h3' h4 hcell hk'
          try rw [e1]
          clear e1
          go_wp2_with fail
          go_quiet (fail)
          generalize nq = nr at *
          go_wp2_with fail
          have tb := turn_bd (a1 * 256 + a2) (a3 * 256 + a4) v (by omega) (by omega) (by omega) (by omega) b1 (by omega)
          obtain ⟨s', hs'⟩ : ∃ s', s' = turn (a1 * 256 + a2) (a3 * 256 + a4) v := ⟨_, rfl⟩
          rw [← hs'] at tb
          obtain ⟨tb, tb'⟩ := tb
          have HS := hid hs'.symm
          clear hs'
          go_quiet (exact q1p (re_i64 (turn_any _ _ _ _ (by omega) (by omega) (by omega) (by omega) b1 (by omega)) HS.out))
          have hgood := good_turn F HF1 N L k' (by omega) hN2 k1 k2 HF2 HF3.out v b1 (by omega) s' (by rw [← H1.out, ← H2.out, ← H3.out, ← H4.out, HS.out]) tb tb'
          obtain ⟨g1, g2', g3'⟩ := hgood
          have HG3 := hid g3'
          clear g3' y1 y2 y3 y4 y5 y6 y7 y8 y9 y0 x1 x2 c1' c2' c3' c4' HS H1 H2 H3 H4
          obtain ⟨wt, hwt⟩ : ∃ wt, wt = (wq.drewN nr).drewN nq := ⟨_, rfl⟩
          have Ot : Ow wt w.heap.size 5 1 (.slice (some ⟨G, 0, none⟩) L c5) L (fun j => .int .u8 (F j)) := hwt ▸ (Oq.drewN nr).drewN nq
          have hbt : Below w.heap.size wb wt := hwt ▸ below_drewN (below_drewN hbq nr) nq
          rw [← hwt]
          clear hwt
          obtain ⟨f1, f2, f3, f4, hst⟩ := pair_store Ot (2 * k') (by omega)
          obtain ⟨O6, hb6⟩ := hst (v / 256) (v % 256)
          clear hst
          go_upto_region 22 with fail
          go_cut [] (fun wx => wx = (wt.setCell ⟨G, 2 * k', none⟩ (.int .u8 (v / 256))).setCell ⟨G, 2 * k' + 1, none⟩ (.int .u8 (v % 256)))
          case first =>
            go_wp2_with fail
            go_meet
            rfl
          case rest =>
          obtain rfl := hcut
          clear f1 f2 f3 f4
          generalize (wt.setCell ⟨G, 2 * k', none⟩ (.int .u8 (v / 256))).setCell ⟨G, 2 * k' + 1, none⟩ (.int .u8 (v % 256)) = w6 at *
          obtain ⟨f1, f2, f3, f4, hst⟩ := pair_store O6 (2 * N) (by omega)
          obtain ⟨O7, hb7⟩ := hst (s' / 256) (s' % 256)
          clear hst
          go_upto_region 23 with fail
          go_cut [] (fun wx => wx = (w6.setCell ⟨G, 2 * N, none⟩ (.int .u8 (s' / 256))).setCell ⟨G, 2 * N + 1, none⟩ (.int .u8 (s' % 256)))
          case first =>
            go_wp2_with fail
            go_meet
            rfl
          case rest =>
          obtain rfl := hcut
          clear f1 f2 f3 f4
          generalize (w6.setCell ⟨G, 2 * N, none⟩ (.int .u8 (s' / 256))).setCell ⟨G, 2 * N + 1, none⟩ (.int .u8 (s' % 256)) = w7 at *
          have hb9' : Below w.heap.size wb w7 := hbt.trans (hb6.trans hb7)
          obtain ⟨F', hF'⟩ : ∃ F', F' = st2 (st2 F (2 * k') (v / 256) (v % 256)) (2 * N) (s' / 256) (s' % 256) := ⟨_, rfl⟩
          have O8 : Ow w7 w.heap.size 5 1 (.slice (some ⟨G, 0, none⟩) L c5) L (fun j => .int .u8 (F' j)) := hF' ▸ O7
          rw [← hF'] at g1 g2' HG3
          clear hF' O7 O6 Ot Oq Or HF1 HF2 HF3 hb7 hb6 hbt hbq
          go_wp2_with fail
          refine (re_bool (right_any _ _ _ _ _ O8.sl1 g1 (by omega)) (beq_iff_eq.2 HG3.out)).mono ?_
          rintro e w9 ⟨rfl, k9, rfl⟩
          go_wp2_with fail
          go_roundw
          case rel => exact ⟨k + 1, F', by omega, by go_num, below_drewN hb9' _, O8.drewN _, g1, g2', HG3⟩
          case measure => simp [intOf]; omega
        · have e : k = M := by omega
          subst e
          clear hlt
          have hbf : Below W.heap.size W wr := hb1.trans (hb9.mono hb1.size)
          clear hb9 Or HF1 HF2 HF3
          by_cases h7 : n2 ≤ k
          · have j1 : ¬ (k : Int) < n2 := by omega
            go_wp2
            go_ret
            exact ⟨rfl, hbf⟩
          · have j1 : (k : Int) < n2 := by omega
            by_cases h8 : n3 ≤ k
            · have j2 : ¬ (k : Int) < n3 := by omega
              go_wp2
              go_ret
              exact ⟨rfl, hbf⟩
            · have j2 : (k : Int) < n3 := by omega
              have j3 : ¬ (k : Int) < 10 := by omega
              go_wp2
              go_ret
              exact ⟨rfl, hbf⟩
      -- end
    · have e0 : ((3 + (n : Int)) % 2 == 1) = false := by simp; omega
      have e1 : (3 + (n : Int)) / 2 = N := by omega
      go_wp2_with (at_builtin
                   first
                     | (refine wp_app_b rfl (.tmp 19) (.tmp 20) rfl w.heap.size (.slice (some ⟨w.heap.size, 0, none⟩) 3 3) 3 (fun j => [1, 0, 0].getD j 0) rfl (ow_lit [1, 0, 0] rfl (by decide)) A n c g rfl (hs.alloc _) (by omega) (by simp) ?_
                        intro A1 c1 w1 o1 hc1 hm1 hb2 hg1 ho1
                        have hb2' : Below w.heap.size w w1 := ((Below.refl _ _).alloc (Nat.le_refl _) _).trans hb2)
                     | (refine wp_app_b rfl (.tmp 32) (.tmp 33) rfl w.heap.size (.slice A1 (3 + n) c1) (3 + n) _ rfl (o1.alloc _) (some ⟨_, 0, none⟩) 2 2 (fun j => [0, 0].getD j 0) rfl (row_at .u8 [0, 0] rfl) (by omega) (by have := hb2'.size; simp; omega) ?_
                        intro A5 c5 w5 o5 hc5 hm5 hb5 hg5 ho5
                        have hb5' : Below w.heap.size w w5 := (hb2'.alloc hb2'.size _).trans hb5
                        have hL : (3 + n) + 2 = L := by omega
                        rw [hL] at o5 hc5 ⊢
                        clear hL ho5 ho1 hg1 hg5))
      obtain ⟨f, O1, hfb, hf0, hfN, hfN'⟩ : ∃ f : Nat → Int, Ow w5 w.heap.size 5 1 (.slice A5 L c5) L (fun j => .int .u8 (f j)) ∧ IsB f ∧ f 0 = 1 ∧ f (2 * N) = 0 ∧ f (2 * N + 1) = 0 :=
        ⟨_, o5, isB_two (isB_two (lit_b _ (by decide)) hg) (lit_b _ (by decide)), by simp, by rw [if_neg (by omega), show 2 * N - (3 + n) = 0 from by omega]; rfl, by rw [if_neg (by omega), show 2 * N + 1 - (3 + n) = 1 from by omega]; rfl⟩
      -- rest
      have nb := norm_bd (tot f L)
      obtain ⟨s0, hs0⟩ : ∃ s0, s0 = 65535 - norm (tot f L) := ⟨_, rfl⟩
      have sb : 0 ≤ s0 := by omega
      have sb' : s0 ≤ 65535 := by omega
      have S0 := hid hs0
      have s2 := h2.below hb1 (Nat.le_refl _)
      have s3 := h3.below hb1 (Nat.le_refl _)
      have hbW : Below W.heap.size W w5 := hb1.trans (hb5'.mono hb1.size)
      refine (re_i64 (of_any _ _ _ _ _ O1.sl1 hfb (by omega)) hs0.symm).mono ?_
      rintro e w6 ⟨rfl, k6, rfl⟩
      clear hs0 nb
      obtain ⟨G, rfl, hG1, hG2, _, _⟩ := O1.block_ (by omega)
      have O2 : Ow (w5.drewN k6) w.heap.size 5 1 (.slice (some ⟨G, 0, none⟩) L c5) L (fun j => .int .u8 (f j)) := O1.drewN k6
      obtain ⟨f1, f2, f3, f4, hst⟩ := pair_store O2 (2 * N) (by omega)
      obtain ⟨O3, hb6⟩ := hst (s0 / 256) (s0 % 256)
      clear hst
      have z1 : 0 ≤ 2 * (N : Int) := by omega
      have z2 : 2 * (N : Int) < L := by omega
      have z3 : 0 ≤ 2 * (N : Int) + 1 := by omega
      have z4 : 2 * (N : Int) + 1 < L := by omega
      have z5 : IntKind.i64.wrap (2 * (N : Int)) = 2 * (N : Int) := IntWalk.i64_in _ (by omega)
      have z6 : IntKind.i64.wrap (2 * (N : Int) + 1) = 2 * (N : Int) + 1 := IntWalk.i64_in _ (by omega)
      go_upto_region 13 with fail
      go_cut [] (fun wx => wx = ((w5.drewN k6).setCell ⟨G, 2 * N, none⟩ (.int .u8 (s0 / 256))).setCell ⟨G, 2 * N + 1, none⟩ (.int .u8 (s0 % 256)))
      case first =>
        go_wp2_with fail
        go_meet
        rfl
      case rest =>
      obtain rfl := hcut
      clear f1 f2 f3 f4 z5 z6
      have hb7 : Below w.heap.size w (((w5.drewN k6).setCell ⟨G, 2 * N, none⟩ (.int .u8 (s0 / 256))).setCell ⟨G, 2 * N + 1, none⟩ (.int .u8 (s0 % 256))) := (below_drewN hb5' k6).trans hb6
      generalize ((w5.drewN k6).setCell ⟨G, 2 * N, none⟩ (.int .u8 (s0 / 256))).setCell ⟨G, 2 * N + 1, none⟩ (.int .u8 (s0 % 256)) = w7 at *
      obtain ⟨F1, hF1⟩ : ∃ F1, F1 = st2 f (2 * N) (s0 / 256) (s0 % 256) := ⟨_, rfl⟩
      have O4 : Ow w7 w.heap.size 5 1 (.slice (some ⟨G, 0, none⟩) L c5) L (fun j => .int .u8 (F1 j)) := hF1 ▸ O3
      obtain ⟨B1, B2, B3⟩ := good_of f hfb N L (by omega) hN2 hf0 hfN hfN' s0 S0.out sb sb'
      rw [← hF1] at B1 B2 B3
      have HB3 := hid B3
      clear hF1 B3 O3 O2 O1 hfb hf0 hfN hfN' S0 hb6
      go_wp2_with fail
      refine (re_bool (right_any _ _ _ _ _ O4.sl1 B1 (by omega)) (beq_iff_eq.2 HB3.out)).mono ?_
      rintro e w8 ⟨rfl, k8, rfl⟩
      obtain ⟨M, hM⟩ : ∃ M, M = min (min n2 n3) 10 := ⟨_, rfl⟩
      have hM1 : M ≤ n2 := by omega
      have hM2 : M ≤ n3 := by omega
      have hM3 : M ≤ 10 := by omega
      have hM4 : n2 ≤ M ∨ n3 ≤ M ∨ 10 ≤ M := by omega
      clear hM
      obtain ⟨wb, hwb⟩ : ∃ wb, wb = w7.drewN k8 := ⟨_, rfl⟩
      have O5 : Ow wb w.heap.size 5 1 (.slice (some ⟨G, 0, none⟩) L c5) L (fun j => .int .u8 (F1 j)) := hwb ▸ O4
      have hb8 : Below w.heap.size w wb := hwb ▸ below_drewN hb7 k8
      rw [← hwb]
      clear hwb O4 hb7 hb5' hbW
      have i4 : (1 : Int) < N := by omega
      go_wp2_with fail
      go_loopw [9, 10, 11, 12, 13] (fun s i _ _ _ wr => ∃ (k : Nat) (F : Nat → Int), k ≤ M ∧ i = .int .i64 k ∧ Below w.heap.size wb wr ∧ Ow wr w.heap.size 5 1 (.slice (some ⟨G, 0, none⟩) L c5) L (fun j => .int .u8 (F j)) ∧ IsB F ∧ F 0 = 1 ∧ Hid (norm (tot F L) = 65535))
        (fun _ i _ _ _ _ => M - (intOf i).toNat)
      case atStart => exact ⟨0, F1, by omega, rfl, Below.refl _ _, O5, B1, B2, HB3⟩
      case round =>
        obtain ⟨k, F, hk, rfl, hbr, Or, HF1, HF2, HF3⟩ := hrel
        have hb9 := hb8.trans hbr
        by_cases hlt : k < M
        · obtain ⟨b2, off2, rfl, hblt2, hcell2⟩ := s2.below hb9 (Nat.le_refl _) (by omega)
          obtain ⟨b3, off3, rfl, hblt3, hcell3⟩ := s3.below hb9 (Nat.le_refl _) (by omega)
          have j1 : (k : Int) < n2 := by omega
          have j2 : (k : Int) < n3 := by omega
          have j3 : (k : Int) < 10 := by omega
          have j0 : (0 : Int) ≤ k := by omega
          have q1 : wr.cell? ⟨b2, off2 + k, none⟩ = some (.int .i64 (g2 k)) := hcell2 k (by omega)
          have q2 : wr.cell? ⟨b3, off3 + k, none⟩ = some (.int .i64 (g3 k)) := hcell3 k (by omega)
          clear hcell2 hcell3
          have b0 := wi_bd (g2 k) ((N : Int) - 1) (by omega)
          obtain ⟨m, hm⟩ := Int.eq_ofNat_of_zero_le b0.1
          rw [hm] at b0
          have HM := hid hm
          have b1 := wi_bd (g3 k) 65536 (by omega)
          obtain ⟨v, hv⟩ : ∃ v, v = wi (g3 k) 65536 := ⟨_, rfl⟩
          rw [← hv] at b1
          obtain ⟨b1, b1'⟩ := b1
          have HV := hid hv.symm
          have hkN : m + 1 < N := by omega
          clear hm hv b0
          go_wp2_with fail
          go_quiet ((first | (go_at_call 7; exact q0p (re_i64 (within_any _ _ _ (by omega) (by omega)) HM.out)) | (go_at_call 7; exact q0p (re_i64 (within_any _ _ _ (by omega) (by omega)) HV.out))))
          clear HM HV q1 q2
          obtain ⟨wq, hwq⟩ : ∃ wq, wq = wr.drewN nq := ⟨_, rfl⟩
          have Oq : Ow wq w.heap.size 5 1 (.slice (some ⟨G, 0, none⟩) L c5) L (fun j => .int .u8 (F j)) := hwq ▸ Or.drewN nq
          have hbq : Below w.heap.size wb wq := hwq ▸ below_drewN hbr nq
          rw [← hwq]
          clear hwq
          obtain ⟨k', hk'⟩ : ∃ k', k' = m + 1 := ⟨_, rfl⟩
          have e1 : 1 + (m : Int) = k' := by omega
          have k1 : 0 < k' := by omega
          have k2 : k' < N := by omega
          obtain ⟨_, eG, _, _, hcell, _⟩ := Oq.block_ (by omega)
          injection eG with eG
          injection eG with eG
          subst eG
          obtain ⟨a1, h1⟩ : ∃ a, a = F (2 * N) := ⟨_, rfl⟩
          obtain ⟨a2, h2'⟩ : ∃ a, a = F (2 * N + 1) := ⟨_, rfl⟩
          obtain ⟨a3, h3'⟩ : ∃ a, a = F (2 * k') := ⟨_, rfl⟩
          obtain ⟨a4, h4⟩ : ∃ a, a = F (2 * k' + 1) := ⟨_, rfl⟩
          have r1 := HF1 (2 * N)
          have r2 := HF1 (2 * N + 1)
          have r3 := HF1 (2 * k')
          have r4 := HF1 (2 * k' + 1)
          rw [← h1] at r1
          rw [← h2'] at r2
          rw [← h3'] at r3
          rw [← h4] at r4
          obtain ⟨r1, r1'⟩ := r1
          obtain ⟨r2, r2'⟩ := r2
          obtain ⟨r3, r3'⟩ := r3
          obtain ⟨r4, r4'⟩ := r4
          have c1' : wq.cell? ⟨G, (2 * (N : Int)).toNat, none⟩ = some (.int .u8 a1) := by rw [h1, show (2 * (N : Int)).toNat = 2 * N from by omega]; exact hcell _ (by omega)
          have c2' : wq.cell? ⟨G, (2 * (N : Int) + 1).toNat, none⟩ = some (.int .u8 a2) := by rw [h2', show (2 * (N : Int) + 1).toNat = 2 * N + 1 from by omega]; exact hcell _ (by omega)
          have c3' : wq.cell? ⟨G, (2 * (k' : Int)).toNat, none⟩ = some (.int .u8 a3) := by rw [h3', show (2 * (k' : Int)).toNat = 2 * k' from by omega]; exact hcell _ (by omega)
          have c4' : wq.cell? ⟨G, (2 * (k' : Int) + 1).toNat, none⟩ = some (.int .u8 a4) := by rw [h4, show (2 * (k' : Int) + 1).toNat = 2 * k' + 1 from by omega]; exact hcell _ (by omega)
          have x1 := or_shift a1 a2 r1 r1' r2 r2'
          have x2 := or_shift a3 a4 r3 r3' r4 r4'
          have y1 : IntKind.i64.wrap (2 * (N : Int)) = 2 * (N : Int) := IntWalk.i64_in _ (by omega)
          have y2 : IntKind.i64.wrap (2 * (N : Int) + 1) = 2 * (N : Int) + 1 := IntWalk.i64_in _ (by omega)
          have y3 : IntKind.i64.wrap (2 * (k' : Int)) = 2 * (k' : Int) := IntWalk.i64_in _ (by omega)
          have y4 : IntKind.i64.wrap (2 * (k' : Int) + 1) = 2 * (k' : Int) + 1 := IntWalk.i64_in _ (by omega)
          have y5 : IntKind.i64.wrap (a1 * 256) = a1 * 256 := IntWalk.i64_in _ (by omega)
          have y6 : IntKind.i64.wrap (a3 * 256) = a3 * 256 := IntWalk.i64_in _ (by omega)
          have y7 : IntKind.i64.wrap a1 = a1 := IntWalk.i64_in _ (by omega)
          have y8 : IntKind.i64.wrap a2 = a2 := IntWalk.i64_in _ (by omega)
          have y9 : IntKind.i64.wrap a3 = a3 := IntWalk.i64_in _ (by omega)
          have y0 : IntKind.i64.wrap a4 = a4 := IntWalk.i64_in _ (by omega)
          have z5 : 0 ≤ 2 * (k' : Int) := by omega
          have z6 : 2 * (k' : Int) < L := by omega
          have z7 : 0 ≤ 2 * (k' : Int) + 1 := by omega
          have z8 : 2 * (k' : Int) + 1 < L := by omega
          have HK := hid hk'
          have H1 := hid h1
          have H2 := hid h2'
          have H3 := hid h3'
          have H4 := hid h4
          clear h1 h2' h3' h4 hcell hk'
          try rw [e1]
          clear e1
          go_wp2_with fail
          go_quiet (fail)
          generalize nq = nr at *
          go_wp2_with fail
          have tb := turn_bd (a1 * 256 + a2) (a3 * 256 + a4) v (by omega) (by omega) (by omega) (by omega) b1 (by omega)
          obtain ⟨s', hs'⟩ : ∃ s', s' = turn (a1 * 256 + a2) (a3 * 256 + a4) v := ⟨_, rfl⟩
          rw [← hs'] at tb
          obtain ⟨tb, tb'⟩ := tb
          have HS := hid hs'.symm
          clear hs'
          go_quiet (exact q1p (re_i64 (turn_any _ _ _ _ (by omega) (by omega) (by omega) (by omega) b1 (by omega)) HS.out))
          have hgood := good_turn F HF1 N L k' (by omega) hN2 k1 k2 HF2 HF3.out v b1 (by omega) s' (by rw [← H1.out, ← H2.out, ← H3.out, ← H4.out, HS.out]) tb tb'
          obtain ⟨g1, g2', g3'⟩ := hgood
          have HG3 := hid g3'
          clear g3' y1 y2 y3 y4 y5 y6 y7 y8 y9 y0 x1 x2 c1' c2' c3' c4' HS H1 H2 H3 H4
          obtain ⟨wt, hwt⟩ : ∃ wt, wt = (wq.drewN nr).drewN nq := ⟨_, rfl⟩
          have Ot : Ow wt w.heap.size 5 1 (.slice (some ⟨G, 0, none⟩) L c5) L (fun j => .int .u8 (F j)) := hwt ▸ (Oq.drewN nr).drewN nq
          have hbt : Below w.heap.size wb wt := hwt ▸ below_drewN (below_drewN hbq nr) nq
          rw [← hwt]
          clear hwt
          obtain ⟨f1, f2, f3, f4, hst⟩ := pair_store Ot (2 * k') (by omega)
          obtain ⟨O6, hb6⟩ := hst (v / 256) (v % 256)
          clear hst
          go_upto_region 22 with fail
          go_cut [] (fun wx => wx = (wt.setCell ⟨G, 2 * k', none⟩ (.int .u8 (v / 256))).setCell ⟨G, 2 * k' + 1, none⟩ (.int .u8 (v % 256)))
          case first =>
            go_wp2_with fail
            go_meet
            rfl
          case rest =>
          obtain rfl := hcut
          clear f1 f2 f3 f4
          generalize (wt.setCell ⟨G, 2 * k', none⟩ (.int .u8 (v / 256))).setCell ⟨G, 2 * k' + 1, none⟩ (.int .u8 (v % 256)) = w6 at *
          obtain ⟨f1, f2, f3, f4, hst⟩ := pair_store O6 (2 * N) (by omega)
          obtain ⟨O7, hb7⟩ := hst (s' / 256) (s' % 256)
          clear hst
          go_upto_region 23 with fail
          go_cut [] (fun wx => wx = (w6.setCell ⟨G, 2 * N, none⟩ (.int .u8 (s' / 256))).setCell ⟨G, 2 * N + 1, none⟩ (.int .u8 (s' % 256)))
          case first =>
            go_wp2_with fail
            go_meet
            rfl
          case rest =>
          obtain rfl := hcut
          clear f1 f2 f3 f4
          generalize (w6.setCell ⟨G, 2 * N, none⟩ (.int .u8 (s' / 256))).setCell ⟨G, 2 * N + 1, none⟩ (.int .u8 (s' % 256)) = w7 at *
          have hb9' : Below w.heap.size wb w7 := hbt.trans (hb6.trans hb7)
          obtain ⟨F', hF'⟩ : ∃ F', F' = st2 (st2 F (2 * k') (v / 256) (v % 256)) (2 * N) (s' / 256) (s' % 256) := ⟨_, rfl⟩
          have O8 : Ow w7 w.heap.size 5 1 (.slice (some ⟨G, 0, none⟩) L c5) L (fun j => .int .u8 (F' j)) := hF' ▸ O7
          rw [← hF'] at g1 g2' HG3
          clear hF' O7 O6 Ot Oq Or HF1 HF2 HF3 hb7 hb6 hbt hbq
          go_wp2_with fail
          refine (re_bool (right_any _ _ _ _ _ O8.sl1 g1 (by omega)) (beq_iff_eq.2 HG3.out)).mono ?_
          rintro e w9 ⟨rfl, k9, rfl⟩
          go_wp2_with fail
          go_roundw
          case rel => exact ⟨k + 1, F', by omega, by go_num, below_drewN hb9' _, O8.drewN _, g1, g2', HG3⟩
          case measure => simp [intOf]; omega
        · have e : k = M := by omega
          subst e
          clear hlt
          have hbf : Below W.heap.size W wr := hb1.trans (hb9.mono hb1.size)
          clear hb9 Or HF1 HF2 HF3
          by_cases h7 : n2 ≤ k
          · have j1 : ¬ (k : Int) < n2 := by omega
            go_wp2
            go_ret
            exact ⟨rfl, hbf⟩
          · have j1 : (k : Int) < n2 := by omega
            by_cases h8 : n3 ≤ k
            · have j2 : ¬ (k : Int) < n3 := by omega
              go_wp2
              go_ret
              exact ⟨rfl, hbf⟩
            · have j2 : (k : Int) < n3 := by omega
              have j3 : ¬ (k : Int) < 10 := by omega
              go_wp2
              go_ret
              exact ⟨rfl, hbf⟩
      -- end
  · have t1 : decide ((n : Int) > 2000) = true := by simp; omega
    go_enter Try.func3, Try.ntmps3
    go_wp2_with fail
    refine (known_any _).mono ?_
    rintro e w ⟨rfl, hb1⟩
    go_wp2
    go_ret
    exact ⟨rfl, hb1⟩

set_option maxRecDepth 100000 in
theorem lifted (os : Os) (started : os.Started) (H : Type) (enc : TypeId × Value → H) :
    ReturnsInHanded {} Try.checked os 3 .any (Rows.sumKeepsSpec.pre6 enc Try.prog Try.f3 [] false) (Rows.sumKeepsSpec.post enc Try.prog Try.f3 false true false false) :=
  law_step (s := Rows.sumKeepsSpec) started (by kernel_rfl) Try.func3
    (ChangeSpec.witness6 (s := Rows.sumKeepsSpec) (enc := enc) (C := Try.checked) false ⟨#[], #[.slice none 0 0, .slice none 0 0, .slice none 0 0], []⟩ 8 (by kernel_rfl) (by kernel_rfl) (by kernel_rfl) (by kernel_rfl))
    rfl (by rw [Try.params3]; decide +kernel) rfl Try.underlying4
    (fun ds h => by
      rw [Try.params3] at h
      match ds, h with
      | [_, _, _], _ => rfl)
    (fun W base args ds ps hval hA hsz => by
      rw [Try.params3] at hA hval hsz
      obtain ⟨v0, vs0, d0, ds0, p0, q0, hargs, rfl, rfl, h0, r0⟩ := trodAll_cons hA
      obtain ⟨v1, vs1, d1, ds1, p1, q1, rfl, rfl, rfl, h1, r1⟩ := trodAll_cons r0
      obtain ⟨v2, vs2, d2, ds2, p2, q2, rfl, rfl, rfl, h2, r2⟩ := trodAll_cons r1
      obtain ⟨rfl, rfl, rfl⟩ := trodAll_nil r2
      obtain rfl : args = #[v0, v1, v2] := by cases args; simp_all
      obtain ⟨A0, n0, c0, g0, rfl, hn0, hc0, hs0, hw0, hl0, hd0⟩ := open_row Try.underlying22 Try.underlying5 (by kernel_rfl) (hval 0 22 v0 rfl rfl) h0
      have re0 : c0 * 1 ≤ 140737488351232 := by
        rcases hd0 with ⟨_, h0⟩ | ⟨xs, ys, h1, h2⟩
        · omega
        · have := sized_slice hsz (j := 0) (t := 22) (e := 5) rfl (by rw [h1]; rfl) Try.underlying22
          rw [h2, show Try.prog.bytesOf 5 = 1 from by kernel_rfl] at this
          simpa [reachBytes] using this
      obtain ⟨A1, n1, c1, g1, rfl, hn1, hc1, hs1, hw1, hl1, hd1⟩ := open_row Try.underlying23 Try.underlying3 (by kernel_rfl) (hval 1 23 v1 rfl rfl) h1
      have re1 : c1 * 8 ≤ 140737488351232 := by
        rcases hd1 with ⟨_, h0⟩ | ⟨xs, ys, h1, h2⟩
        · omega
        · have := sized_slice hsz (j := 1) (t := 23) (e := 3) rfl (by rw [h1]; rfl) Try.underlying23
          rw [h2, show Try.prog.bytesOf 3 = 8 from by kernel_rfl] at this
          simpa [reachBytes] using this
      obtain ⟨A2, n2, c2, g2, rfl, hn2, hc2, hs2, hw2, hl2, hd2⟩ := open_row Try.underlying23 Try.underlying3 (by kernel_rfl) (hval 2 23 v2 rfl rfl) h2
      have re2 : c2 * 8 ≤ 140737488351232 := by
        rcases hd2 with ⟨_, h0⟩ | ⟨xs, ys, h1, h2⟩
        · omega
        · have := sized_slice hsz (j := 2) (t := 23) (e := 3) rfl (by rw [h1]; rfl) Try.underlying23
          rw [h2, show Try.prog.bytesOf 3 = 8 from by kernel_rfl] at this
          simpa [reachBytes] using this
      exact walk W A0 n0 c0 g0 hn0 hc0 hs0 (fun j => bounds_u8 (hw0 j)) hl0 re0 A1 n1 c1 g1 hn1 hc1 hs1 (fun j => bounds_i64 (hw1 j)) hl1 re1 A2 n2 c2 g2 hn2 hc2 hs2 (fun j => bounds_i64 (hw2 j)) hl2 re2)

theorem proved : Rows.SumKeepsSaid :=
  OpenClaim.holds_of_wide 3 Try.f3 rfl rfl rfl rfl rfl rfl rfl ⟨rfl, rfl, rfl, rfl, rfl⟩ rfl rfl rfl rfl rfl (by kernel_rfl) Try.func3 (by kernel_rfl)
    (of_decide_eq_true (by kernel_rfl)) (by unfold Func.isWrapper; first | (rw [if_pos (by decide +kernel)]; kernel_rfl) | (rw [if_neg (by decide +kernel)]; exact ⟨rfl, rfl⟩))
    (fun os started H enc _ => lifted os started H enc)
end Go.Proofs.Ytgplnabpknminaa.sumKeeps
