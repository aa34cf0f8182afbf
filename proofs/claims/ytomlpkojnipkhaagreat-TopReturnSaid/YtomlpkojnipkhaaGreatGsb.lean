/- Package sip's sums of numbers. the document's round. The document's keyed sums, said a second time. The document's sum of numbers: of their bytes. Package sip's sums of bytes. -/
import Derived.Test.YtomlpkojnipkhaaGreatGa
import Derived.Test.YtomlpkojnipkhaaGreatGs
namespace Go.Proofs.YtomlpkojnipkhaaGreat
set_option linter.unusedVariables false
open Go.RowKit Go.ChangeShapes Go.WideShapes Go.ChangeAt

theorem ret_u64 {a b : Int} (h : a = b) : Ending.returned (.int .u64 a) = .returned (.int .u64 b) := by rw [h]

theorem start_any (a b : Int) (w : World) : Calls Tryz.prog 121 #[.agg #[.int .u64 a, .int .u64 b]] w fun e w' => e = .returned (.agg #[.int .u64 (strt a b).a, .int .u64 (strt a b).b, .int .u64 (strt a b).c, .int .u64 (strt a b).d]) ∧ Below w.heap.size w w' := by
  go_enter Tryz.func121, Tryz.ntmps121
  go_wp2_with fail
  refine bodyPost_ret (v := .agg #[.int .u64 (strt a b).a, .int .u64 (strt a b).b, .int .u64 (strt a b).c, .int .u64 (strt a b).d]) (by simp [results, Tryz.results121, go_sem]; exact ⟨rfl, rfl, rfl, rfl⟩) rfl ⟨rfl, ?_⟩
  repeat' (first | with_reducible exact Below.refl _ _ | with_reducible refine Below.alloc ?_ ?_ _ | with_reducible refine Below.setCell ?_ ?_ _ | (simp; done) | (simp; omega))

def rndk : Nat → V4 → V4
  | 0, v => v
  | k + 1, v => rnd (rndk k v)
theorem rndk_U {v : V4} (h : v.U) : ∀ k, (rndk k v).U
  | 0 => h
  | k + 1 => rnd_U (rndk_U h k)

set_option maxRecDepth 100000 in
theorem end_any (g : Nat) (v : V4) (l : Int) (n : Int) (w : World) (hS : St w g v) (hU : v.U) (hn : 0 ≤ n) (hn' : n ≤ 1125899906842624) :
    Calls Tryz.prog 123 #[.pointer (some ⟨g, 0, none⟩), .int .u64 l, .int .i64 n] w fun e w' => e = .returned (.int .u64 (fin4 (eat v (bits .or .u64 l (IntKind.u64.wrap (n * 72057594037927936)))))) ∧ Onl g w w' := by
  have hg := hS.lt
  obtain ⟨m, hm⟩ : ∃ m, m = bits .or .u64 l (IntKind.u64.wrap (n * 72057594037927936)) := ⟨_, rfl⟩
  have hmU : U m := by rw [hm]; exact U_bits _ _ _
  go_enter Tryz.func123, Tryz.ntmps123
  go_wp2_with fail
  rw [← hm]
  have HM := hid hm
  clear hm
  have hw1 : Onl g w (w.alloc (.cells #[.int .u64 m] 27)) := Onl.of_below ((Below.refl _ _).alloc (Nat.le_refl _) _)
  refine (take_u64 g v _ 1 1 (fun j => [m].getD j 0) _ (hS.below ((Below.refl w.heap.size w).alloc (Nat.le_refl _) _) hg) hU (by exact row_at .u64 [m] rfl) (fun j => ?_) (fun ad e _ => ?_) (by omega)).mono ?_
  · rcases j with _ | j
    · exact hmU
    · exact ⟨by simp, by simp⟩
  · injection e with e
    subst e
    simp only
    omega
  rintro e w1 ⟨rfl, hO1, hS1⟩
  have hS2 : St w1 g (eat v m) := hS1
  have hU2 := eat_U hU m
  have hO2 := hw1.trans hO1
  clear hO1 hw1 hS hS1
  obtain ⟨ca, cb, cc, cd, fa, fb, fc, fd⟩ := hS2
  have hS2 : St w1 g (eat v m) := ⟨ca, cb, cc, cd, fa, fb, fc, fd⟩
  clear ca cb cd fa fb fd
  go_wp2_with fail
  go_loopw [22] (fun i wr => ∃ k : Nat, k ≤ 4 ∧ i = .int .i64 k ∧ Onl g w wr ∧ St wr g (rndk k { eat v m with c := xo (eat v m).c 255 })) (fun i _ => 4 - (intOf i).toNat)
  case atStart => exact ⟨0, by omega, rfl, hO2.setCell 2 _, hS2.setc _⟩
  case round =>
    obtain ⟨k, hk, rfl, hO3, hS3⟩ := hrel
    have hU3 : (rndk k { eat v m with c := xo (eat v m).c 255 }).U := rndk_U (v := { eat v m with c := xo (eat v m).c 255 }) ⟨hU2.1, hU2.2.1, U_xo _ _, hU2.2.2.2⟩ k
    clear hO2 hS2 cc fc
    by_cases hlt : k < 4
    · have i1 : (k : Int) < 4 := by omega
      go_wp2_with fail
      refine (round_any g _ _ hS3 hU3).mono ?_
      rintro e w3 ⟨rfl, hO4, hS4⟩
      go_wp2_with fail
      go_roundw
      case rel => exact ⟨k + 1, by omega, by go_num, hO3.trans hO4, hS4⟩
      case measure => simp [intOf]; omega
    · have e : k = 4 := by omega
      subst e
      have hS5 : St wr g (last4 (eat v m)) := hS3
      clear hS3 hU3
      obtain ⟨ca, cb, cc, cd, fa, fb, fc, fd⟩ := hS5
      clear fa fb fc fd
      have i1 : ¬ ((4 : Nat) : Int) < 4 := by omega
      go_wp2_with fail
      go_quiet (fail)
      go_wp2
      go_ret
      exact ⟨ret_u64 (show xo (xo (xo (last4 (eat v m)).a (last4 (eat v m)).b) (last4 (eat v m)).c) (last4 (eat v m)).d = _ by rw [← HM.out]; rfl), hO3.drewN _⟩

/-- The sum of n bytes, by the key a, b. -/
def sumB (a b : Int) (f : Nat → Int) (n : Nat) : Int :=
  fin4 (eat (eats (fun i => numK (fun j => f (8 * i + j)) 8) (n / 8) (strt a b)) (bits .or .u64 (numK (fun j => f (8 * (n / 8) + j)) (n % 8)) (IntKind.u64.wrap ((n : Int) * 72057594037927936))))
/-- The sum of n numbers. -/
def sumW (a b : Int) (f : Nat → Int) (n : Nat) : Int :=
  fin4 (eat (eats (fun j => IntKind.u64.wrap (f j)) n (strt a b)) (bits .or .u64 0 (IntKind.u64.wrap (8 * (n : Int) * 72057594037927936))))

theorem St.made {w : World} {T : TypeId} {v : V4} {g : Nat} (hg : w.heap.size = g) : St (w.alloc (.cells #[.int .u64 v.a, .int .u64 v.b, .int .u64 v.c, .int .u64 v.d] T)) g v := by
  subst hg
  have h := heap_alloc_new w (.cells #[.int .u64 v.a, .int .u64 v.b, .int .u64 v.c, .int .u64 v.d] T)
  exact ⟨by rw [cell_of_row _ _ _ _ _ _ h]; rfl, by rw [cell_of_row _ _ _ _ _ _ h]; rfl, by rw [cell_of_row _ _ _ _ _ _ h]; rfl, by rw [cell_of_row _ _ _ _ _ _ h]; rfl,
    frozen_of_row _ _ _ _ _ h, frozen_of_row _ _ _ _ _ h, frozen_of_row _ _ _ _ _ h, frozen_of_row _ _ _ _ _ h⟩

theorem words_any (a b : Int) (A : Option Addr) (n c : Nat) (f : Nat → Int) (w : World) (h : Is w A n f) (hf : IsI f) (hn : n ≤ 140737488355328) :
    Calls Tryz.prog 49 #[.agg #[.int .u64 a, .int .u64 b], .slice A n c] w fun e w' => e = .returned (.int .u64 (sumW a b f n)) ∧ Below w.heap.size w w' := by
  go_enter Tryz.func49, Tryz.ntmps49
  go_wp2_with fail
  refine (start_any a b _).mono ?_
  rintro e w1 ⟨rfl, hb1⟩
  go_wp2_with fail
  have hb1 := ((Below.refl w.heap.size w).alloc (Nat.le_refl _) (.cells #[.int .u64 a, .int .u64 b] 29)).trans (hb1.mono (by simp))
  have hS := St.made (w := w1) (T := 202) (v := strt a b) (g := w1.heap.size) rfl
  have hb2 : Below w.heap.size w (w1.alloc (.cells #[.int .u64 (strt a b).a, .int .u64 (strt a b).b, .int .u64 (strt a b).c, .int .u64 (strt a b).d] 202)) := hb1.alloc hb1.size _
  have hs := h.below hb2 (Nat.le_refl _)
  have hz := hb1.size
  refine (take_int w1.heap.size (strt a b) A n c f _ hS (strt_U a b) hs hf (fun ad e h0 => ?_) hn).mono ?_
  · obtain ⟨b', off, e', hlt, _⟩ := h h0
    rw [e] at e'
    injection e' with e'
    subst e'
    simp only
    omega
  rintro e w2 ⟨rfl, hO2, hS2⟩
  have hU2 := eats_U (f := fun j => IntKind.u64.wrap (f j)) (strt_U a b) n
  have hb3 := hb2.trans (hO2.below hz (by simp; omega))
  clear hS hs h
  go_wp2_with fail
  refine (end_any w1.heap.size _ 0 (8 * (n : Int)) _ hS2 hU2 (by omega) (by omega)).mono ?_
  rintro e w3 ⟨rfl, hO3⟩
  have hb4 := hb3.trans (hO3.below hz hb3.size)
  go_wp2
  go_ret
  exact ⟨rfl, hb4⟩

theorem sumB_at (a b : Int) (f : Nat → Int) (n p L : Nat) (h : 8 * p + L = n) (hL : L < 8) :
    fin4 (eat (eats (fun i => numK (fun j => f (8 * i + j)) 8) p (strt a b)) (bits .or .u64 (numK (fun j => f (8 * p + j)) L) (IntKind.u64.wrap ((n : Int) * 72057594037927936)))) = sumB a b f n := by
  have h1 : n / 8 = p := by omega
  have h2 : n % 8 = L := by omega
  unfold sumB
  rw [h1, h2]

end Go.Proofs.YtomlpkojnipkhaaGreat
namespace Go.Proofs.YtomlpkojnipkhaaGreat
set_option linter.unusedVariables false
open Go.RowKit Go.ChangeShapes Go.WideShapes Go.ChangeAt

end Go.Proofs.YtomlpkojnipkhaaGreat
namespace Go.Proofs.YtomlpkojnipkhaaGreat
set_option linter.unusedVariables false
open Go.RowKit Go.ChangeShapes Go.WideShapes Go.ChangeAt

end Go.Proofs.YtomlpkojnipkhaaGreat
namespace Go.Proofs.YtomlpkojnipkhaaGreat
set_option linter.unusedVariables false
open Go.RowKit Go.ChangeShapes Go.WideShapes Go.ChangeAt

/-- Byte q of numbers laid one behind the other, the lowest byte first. -/
def byteOf (f : Nat → Int) (q : Nat) : Int := IntKind.u64.wrap (f (q / 8)) / 2 ^ (8 * (q % 8)) % 256
theorem byteOf_b (f : Nat → Int) : IsB (byteOf f) := fun q => by unfold byteOf; omega
theorem byteOf_at (f : Nat → Int) (i j : Nat) (hj : j < 8) : byteOf f (8 * i + j) = IntKind.u64.wrap (f i) / 256 ^ j % 256 := by
  have h1 : (8 * i + j) / 8 = i := by omega
  have h2 : (8 * i + j) % 8 = j := by omega
  have h3 : (2 : Int) ^ (8 * j) = 256 ^ j := by rw [Int.pow_mul]; rfl
  unfold byteOf
  rw [h1, h2, h3]
theorem num_byteOf (f : Nat → Int) (i : Nat) : numK (fun j => byteOf f (8 * i + j)) 8 = IntKind.u64.wrap (f i) := by
  have hU := U_wrap (f i)
  generalize hx : IntKind.u64.wrap (f i) = x at *
  unfold U at hU
  simp only [numK, byteOf_at f i _ (show 0 < 8 by omega), byteOf_at f i _ (show 1 < 8 by omega), byteOf_at f i _ (show 2 < 8 by omega), byteOf_at f i _ (show 3 < 8 by omega), byteOf_at f i _ (show 4 < 8 by omega), byteOf_at f i _ (show 5 < 8 by omega), byteOf_at f i _ (show 6 < 8 by omega), byteOf_at f i _ (show 7 < 8 by omega), hx]
  simp only [Int.pow_succ, Int.pow_zero, Int.one_mul, Int.ediv_one, Int.mul_one, Int.zero_add]
  omega
theorem sumB_words (a b : Int) (f : Nat → Int) (n : Nat) : sumB a b (byteOf f) (8 * n) = sumW a b f n := by
  have h1 : 8 * n / 8 = n := by omega
  have h2 : 8 * n % 8 = 0 := by omega
  unfold sumB sumW
  rw [h1, h2, eats_ext _ n (fun i _ => num_byteOf f i)]
  rfl

end Go.Proofs.YtomlpkojnipkhaaGreat
namespace Go.Proofs.YtomlpkojnipkhaaGreat
set_option linter.unusedVariables false
open Go.RowKit Go.ChangeShapes Go.WideShapes Go.ChangeAt

theorem number_anyK (A : Option Addr) (n c : Nat) (f : Nat → Int) (w : World) (h : By w A n f) (hf : IsB f) (hn : n ≤ 8) :
    Calls Tryz.prog 125 #[.slice A n c] w fun e w' => e = .returned (.int .u64 (numK f n)) ∧ w = w' := by
  go_enter Tryz.func125, Tryz.ntmps125
  go_wp2_with fail
  go_loop [3, 4, 5, 8] (fun t _ _ i => ∃ k : Nat, k ≤ n ∧ i = .int .i64 k ∧ t = .int .u64 (numK f k)) (fun _ _ _ i => n - (intOf i).toNat)
  case atStart => exact ⟨0, by omega, rfl, rfl⟩
  case round =>
    obtain ⟨k, hk, rfl, rfl⟩ := hrel
    by_cases hlt : k < n
    · obtain ⟨b, off, rfl, _, hc⟩ := h (by omega)
      have c0 : w.cell? ⟨b, off + k, none⟩ = some (.int .u8 (f k)) := hc _ hlt
      have i1 : (k : Int) < n := by omega
      have b0 := hf k
      clear hc h
      have hor := hid (or_num f hf k (by omega))
      go_wp2_with fail
      go_round
      case rel => exact ⟨k + 1, by omega, by go_num, by rw [hor.out]⟩
      case measure => simp [intOf]; omega
    · have e : k = n := by omega
      subst e
      have i1 : ¬ (k : Int) < k := by omega
      go_wp2
      go_ret
      exact ⟨rfl, rfl⟩
set_option maxRecDepth 100000 in
theorem of_anyK (a b : Int) (A : Option Addr) (n c : Nat) (f : Nat → Int) (w : World) (h : By w A n f) (hf : IsB f) (hnc : n ≤ c) (hn : n ≤ 140737488355328) :
    Calls Tryz.prog 50 #[.agg #[.int .u64 a, .int .u64 b], .slice A n c] w fun e w' => e = .returned (.int .u64 (sumB a b f n)) ∧ Below w.heap.size w w' := by
  go_enter Tryz.func50, Tryz.ntmps50
  go_wp2_with fail
  refine (start_any a b _).mono ?_
  rintro e w1 ⟨rfl, hb1⟩
  go_wp2_with fail
  have hb1 := ((Below.refl w.heap.size w).alloc (Nat.le_refl _) (.cells #[.int .u64 a, .int .u64 b] 29)).trans (hb1.mono (by simp))
  have hS := St.made (w := w1) (T := 202) (v := strt a b) (g := w1.heap.size) rfl
  have hb2 : Below w.heap.size w (w1.alloc (.cells #[.int .u64 (strt a b).a, .int .u64 (strt a b).b, .int .u64 (strt a b).c, .int .u64 (strt a b).d] 202)) := hb1.alloc hb1.size _
  have hs := h.below hb2 (Nat.le_refl _)
  have hz := hb1.size
  have hA : ∀ ad, A = some ad → 0 < n → ad.block ≠ w1.heap.size := fun ad e h0 => by
    obtain ⟨b', off, e', hlt, _⟩ := h h0
    rw [e] at e'
    injection e' with e'
    subst e'
    simp only
    omega
  clear h hb1
  generalize w1.heap.size = g at *
  generalize w1.alloc _ = w2 at *
  have hO := Onl.refl_ g w2
  go_loopw [6] (fun r wr => ∃ (p L C : Nat) (A' : Option Addr), 8 * p + L = n ∧ L ≤ C ∧ r = .slice A' L C ∧ (∀ V : World, By V A n f → By V A' L (fun j => f (8 * p + j))) ∧ Onl g w2 wr ∧ St wr g (eats (fun i => numK (fun j => f (8 * i + j)) 8) p (strt a b)))
    (fun r _ => match r with | .slice _ l _ => l | _ => 0)
  case atStart => exact ⟨0, n, c, A, by omega, hnc, rfl, fun V hV => by simpa using hV, hO, hS⟩
  case round =>
    obtain ⟨p, L, C, A', hpL, hLC, rfl, hcut, hO1, hS1⟩ := hrel
    have hB := hcut _ (hO1.sl hs hA)
    have hU1 := eats_U (f := fun i => numK (fun j => f (8 * i + j)) 8) (strt_U a b) p
    have hE : Hid (eats (fun i => numK (fun j => f (8 * i + j)) 8) (p + 1) (strt a b) = eat (eats (fun i => numK (fun j => f (8 * i + j)) 8) p (strt a b)) (numK (fun j => f (8 * p + j)) 8)) := rfl
    have hfp : IsB (fun j => f (8 * p + j)) := fun j => hf _
    have hpL' := hid hpL
    have hpn : p ≤ 17592186044416 := by omega
    have hLn : L ≤ 140737488355328 := by omega
    clear hO hS hpL
    by_cases hlt : 8 ≤ L
    · generalize eats (fun i => numK (fun j => f (8 * i + j)) 8) p (strt a b) = v1 at *
      obtain ⟨A2, k2, S2⟩ := cut_from_b A' L C 8 hlt hLC 8 rfl
      have i1 : (8 : Int) ≤ L := by omega
      have i2 : (8 : Int) ≤ C := by omega
      have HC := hid hcut
      have HS := hid S2
      clear S2 hcut
      go_wp2_with fail
      refine (number_anyK A' 8 C (fun j => f (8 * p + j)) _ (hB.less hlt) hfp (by omega)).mono ?_
      rintro e w3 ⟨rfl, rfl⟩
      have hmU : U (numK (fun j => f (8 * p + j)) 8) := by
        have := num_bdK _ hfp 8
        unfold U
        omega
      generalize numK (fun j => f (8 * p + j)) 8 = m at *
      have hgl := hS1.lt
      go_wp2_with fail
      have hw1 : Onl g w2 (wr.alloc (.cells #[.int .u64 m] 27)) := hO1.trans (Onl.of_below ((Below.refl _ _).alloc (Nat.le_refl _) _))
      refine (take_u64 g v1 _ 1 1 (fun j => [m].getD j 0) _ (hS1.below ((Below.refl wr.heap.size wr).alloc (Nat.le_refl _) _) hgl) hU1 (by exact row_at .u64 [m] rfl) (fun j => ?_) (fun ad e _ => ?_) (by omega)).mono ?_
      · rcases j with _ | j
        · exact hmU
        · exact ⟨by simp, by simp⟩
      · injection e with e
        subst e
        simp only
        omega
      rintro e w4 ⟨rfl, hO2, hS2⟩
      have hS3 : St w4 g (eat v1 m) := hS2
      have hO3 := hid (hw1.trans hO2)
      have HS3 := hid hS3
      clear hS2 hO2 hw1 hS1 hO1 hB hS3
      go_wp2_with fail
      go_roundw
      case rel => exact ⟨p + 1, L - 8, C - 8, A2, by have := hpL'.out; omega, by omega, rfl, fun V hV => (HS.out V _ (HC.out V hV)).as (fun j _ => by simp only [Value.int.injEq, true_and]; congr 1; omega), hO3.out, by rw [hE.out]; exact HS3.out⟩
      case measure => simp; omega
    · have hfin := hid (sumB_at a b f n p L hpL'.out (by omega))
      have i1 : ¬ (8 : Int) ≤ L := by omega
      generalize eats (fun i => numK (fun j => f (8 * i + j)) 8) p (strt a b) = v1 at *
      clear hE hcut
      go_wp2_with fail
      refine (number_anyK A' L C (fun j => f (8 * p + j)) _ hB hfp (by omega)).mono ?_
      rintro e w3 ⟨rfl, rfl⟩
      go_wp2_with fail
      refine (end_any g v1 (numK (fun j => f (8 * p + j)) L) (n : Int) _ hS1 hU1 (by omega) (by omega)).mono ?_
      rintro e w3 ⟨rfl, hO3⟩
      have hb4 := hb2.trans ((hO1.trans hO3).below hz hb2.size)
      go_wp2
      go_ret
      exact ⟨ret_u64 hfin.out, hb4⟩
end Go.Proofs.YtomlpkojnipkhaaGreat

