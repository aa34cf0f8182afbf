/- roundhouselaw2.SipKeys answers true for every two rows of bytes; no condition. -/
import Derived.Test.YtmkkglhbfgeecaaSipLaw
import Derived.Test.YtmkkglhbfgeecaaZeros
import Derived.BigQuiet
namespace Go.Proofs.Ytmkkglhbfgeecaa.sipKeys
set_option linter.unusedVariables false
open Go.RowKit Go.ChangeShapes Go.WideShapes Go.ChangeAt

/-- Bytes from place i to 7, the lowest first. -/
theorem num_cons (f : Nat → Int) : ∀ n, num f (n + 1) = f 0 + 256 * num (fun j => f (1 + j)) n
  | 0 => by simp [num]
  | n + 1 => by
    rw [num, num_cons f n]
    simp only [num]
    rw [Int.pow_succ, Int.mul_add, Int.add_assoc, show n + 1 = 1 + n from by omega]
    congr 2
    rw [Int.mul_comm (256 ^ n) 256, ← Int.mul_assoc, Int.mul_comm (f (1 + n)) 256, Int.mul_assoc]
def hi (f : Nat → Int) (k : Nat) : Int := num (fun j => f (8 - k + j)) k
theorem hi_step (f : Nat → Int) (hf : IsB f) (k : Nat) (hk : k < 8) : bits .or .u64 (IntKind.u64.wrap (hi f k * 256)) (f (7 - k)) = hi f (k + 1) := by
  have h1 := num_bd (fun j => f (8 - k + j)) (fun j => hf _) k
  have h2 : hi f (k + 1) = f (7 - k) + 256 * hi f k := by
    unfold hi
    rw [num_cons]
    congr 1
    · congr 1; omega
    · congr 1
      exact num_ext k fun j _ => by congr 1; omega
  have h3 : (256 : Int) ^ k ≤ 256 ^ 7 := by
    have : (256 : Nat) ^ k ≤ 256 ^ 7 := Nat.pow_le_pow_right (by omega) (by omega)
    have e : ∀ n : Nat, (256 : Int) ^ n = ((256 ^ n : Nat) : Int) := fun n => by simp
    rw [e, e]
    omega
  rw [h2]
  change 0 ≤ hi f k ∧ hi f k < 256 ^ k at h1
  obtain ⟨y, hy⟩ := Int.eq_ofNat_of_zero_le h1.1
  obtain ⟨x, hx⟩ := Int.eq_ofNat_of_zero_le (hf (7 - k)).1
  have hxb := (hf (7 - k)).2
  rw [hx] at hxb ⊢
  rw [hy] at h1 ⊢
  have hyb : (y : Int) < 72057594037927936 := Int.lt_of_lt_of_le h1.2 h3
  have e3 : IntKind.u64.wrap ((y : Int) * 256) = ((y * 2 ^ 8 : Nat) : Int) := by rw [IntKind.wrap_u64]; omega
  rw [e3]
  have hor : y * 2 ^ 8 ||| x = y * 2 ^ 8 + x := by rw [Nat.mul_comm y, ← Nat.two_pow_add_eq_or_of_lt (by omega)]
  show IntKind.u64.wrap ((BitVec.ofInt 64 ((y * 2 ^ 8 : Nat) : Int) ||| BitVec.ofInt 64 (x : Int)).toNat : Int) = _
  rw [BitVec.toNat_or, BitVec.ofInt_natCast, BitVec.ofInt_natCast, BitVec.toNat_ofNat, BitVec.toNat_ofNat, Nat.mod_eq_of_lt (by omega), Nat.mod_eq_of_lt (by omega), hor, IntKind.wrap_u64]
  omega
theorem hi_all (f : Nat → Int) : hi f 8 = num f 8 := num_ext 8 fun j _ => by congr 1; omega

/-- Both packages make the same of a row. -/
theorem make_any (A : Option Addr) (n c : Nat) (g : Nat → Int) (hg : IsB g) (hn : n ≤ c) (hc : n ≤ 140737488355328) : ∃ (ja jb : Int) (q : Bool), q = decide (n = 16) ∧
    (∀ w, By w A n g → Calls Try.prog 6 #[.slice A n c] w fun e w' => e = .returned (.tuple #[keyV ja jb, .bool q]) ∧ Below w.heap.size w w') ∧
    (∀ w, By w A n g → Calls Try.prog 7 #[.slice A n c] w fun e w' => e = .returned (.tuple #[keyV ja jb, .bool q]) ∧ Below w.heap.size w w') := by
  by_cases h : n = 16
  · subst h
    exact ⟨_, _, true, rfl, fun w hw => make_is A c g w hw hg hn, fun w hw => rmake_is A c g w hw hg hn⟩
  · exact ⟨0, 0, false, by simp [h], fun w _ => make_not A n c w h hc, fun w _ => rmake_not A n c w h hc⟩

set_option maxRecDepth 100000 in
set_option maxHeartbeats 4000000 in
theorem walk (W : World) (A : Option Addr) (n c : Nat) (g : Nat → Int) (hn : n ≤ c) (hc : c ≤ maxLen) (h : By W A n g) (hg : IsB g) (hl : ∀ ad, A = some ad → 0 < n → ad.block < W.heap.size) (re : c * 1 ≤ 140737488351232)
    (A2 : Option Addr) (n2 c2 : Nat) (g2 : Nat → Int) (hn2 : n2 ≤ c2) (hc2 : c2 ≤ maxLen) (h2 : By W A2 n2 g2) (hg2 : IsB g2) (hl2 : ∀ ad, A2 = some ad → 0 < n2 → ad.block < W.heap.size) (re2 : c2 * 1 ≤ 140737488351232) :
    Calls Try.prog 3 #[.slice A n c, .slice A2 n2 c2] W fun e w' => e = .returned (.bool true) ∧ Below W.heap.size W w' := by
  by_cases hb : n ≤ 40
  · by_cases hb2 : n2 ≤ 40
    · have t1 : decide ((n : Int) > 40) = false := by simp; omega
      have t2 : decide ((n2 : Int) > 40) = false := by simp; omega
      go_enter Try.func3, Try.ntmps3
      go_wp2_with fail
      refine (known_any _).mono ?_
      rintro e w ⟨rfl, hb1⟩
      have hs := h.below hb1 (Nat.le_refl _)
      go_wp2_with (first
        | (at_builtin
           refine wp_app_b0 rfl (.tmp 24) (.tmp 25) rfl w.heap.size (.slice (some ⟨w.heap.size, 0, none⟩) 0 0) rfl (fun _ => Ow.new' rfl) A n c g rfl (hs.alloc _) (by omega) (by simp) ?_
           intro A1 c1 w1 o1 hc1 hm1 hb2 hg1 ho1
           have hb2' : Below w.heap.size w w1 := ((Below.refl _ _).alloc (Nat.le_refl _) _).trans hb2)
        | (at_builtin
           refine wp_zeros rfl (.tmp 26) (.const (.int .i64 16)) rfl w.heap.size (.slice A1 n c1) n g rfl o1 16 rfl (by omega) hb2'.size ?_
           intro A4 c4 w4 o4 hc4 hm4 hb4 hg4 ho4
           have hb4' : Below w.heap.size w w4 := hb2'.trans hb4
           have i16 : (16 : Int) ≤ c4 := by omega))
      obtain ⟨f, X4, hf⟩ : ∃ f : Nat → Int, By w4 A4 16 f ∧ IsB f := ⟨_, o4.sl1.less (by omega), fun j => by
        split
        · exact hg j
        · exact ⟨Int.le_refl 0, by simp⟩⟩
      have hs4 := hs.below hb4' (Nat.le_refl _)
      have B4 : Below W.heap.size W w4 := hb1.trans (hb4'.mono hb1.size)
      clear h hs hb1 hb2' hb4' o1 o4 hb2 hb4 hg1 hg4 ho1 ho4 h2 hl hl2
      generalize w.heap.size = K0 at *
      refine (make_is A4 c4 f _ X4 hf (by omega)).mono ?_
      rintro e w5 ⟨rfl, hb5⟩
      have X5 := X4.below hb5 (Nat.le_refl _)
      have hs5 := hs4.below hb5 (Nat.le_refl _)
      have B5 : Below W.heap.size W w5 := B4.trans (hb5.mono B4.size)
      obtain ⟨ka, hka⟩ : ∃ ka, ka = num f 8 := ⟨_, rfl⟩
      obtain ⟨kb, hkb⟩ : ∃ kb, kb = num (fun j => f (8 + j)) 8 := ⟨_, rfl⟩
      rw [← hka, ← hkb]
      have HKA := hid hka
      clear hka hkb X4 hs4 hb5 B4
      obtain ⟨ja, jb, q, hq, J1, J2⟩ := make_any A n c g hg hn (by omega)
      have HJ1 := hid J1
      have HJ2 := hid J2
      have hqq : (q == ((n : Int) == 16)) = true := by
        rw [hq]
        by_cases h16 : n = 16
        · subst h16; rfl
        · have h17 : ¬ (n : Int) = 16 := by omega
          simp [h16, h17]
      clear J1 J2 hq
      unfold keyV
      go_wp2_with fail
      have K5 := KeyIn.made (w := w5) (a := ka) (b := kb) (T := 26)
      have X5a := X5.alloc (.cells #[.int .u64 ka, .int .u64 kb] 26)
      have hs5a := hs5.alloc (.cells #[.int .u64 ka, .int .u64 kb] 26)
      have B5a := B5.alloc B5.size (.cells #[.int .u64 ka, .int .u64 kb] 26)
      clear X5 hs5 B5
      generalize w5.alloc (.cells #[.int .u64 ka, .int .u64 kb] 26) = w5a at *
      generalize w5.heap.size = P at *
      refine (HJ1.out _ hs5a).mono ?_
      rintro e w6 ⟨rfl, hb6⟩
      have K6 := K5.below hb6
      have X6 := X5a.below hb6 (Nat.le_refl _)
      have hs6 := hs5a.below hb6 (Nat.le_refl _)
      have B6 : Below W.heap.size W w6 := B5a.trans (hb6.mono B5a.size)
      clear K5 X5a hs5a hb6 B5a HJ1
      unfold keyV
      go_wp2_with fail
      have K6a := K6.below ((Below.refl w6.heap.size w6).alloc (Nat.le_refl _) (.cells #[.int .u64 ja, .int .u64 jb] 26))
      have K6b := KeyIn.made (w := w6) (a := ja) (b := jb) (T := 26)
      have X6a := X6.alloc (.cells #[.int .u64 ja, .int .u64 jb] 26)
      have hs6a := hs6.alloc (.cells #[.int .u64 ja, .int .u64 jb] 26)
      have B6a := B6.alloc B6.size (.cells #[.int .u64 ja, .int .u64 jb] 26)
      clear X6 hs6 B6 K6
      generalize w6.alloc (.cells #[.int .u64 ja, .int .u64 jb] 26) = w6a at *
      generalize w6.heap.size = Q at *
      refine (HJ2.out _ hs6a).mono ?_
      rintro e w7 ⟨rfl, hb7⟩
      have K7 := (K6a.below hb7).below ((Below.refl w7.heap.size w7).alloc (Nat.le_refl _) (.cells #[.int .u64 ja, .int .u64 jb] 26))
      have K8 := (K6b.below hb7).below ((Below.refl w7.heap.size w7).alloc (Nat.le_refl _) (.cells #[.int .u64 ja, .int .u64 jb] 26))
      have K9 := KeyIn.made (w := w7) (a := ja) (b := jb) (T := 26)
      have X7 := (X6a.below hb7 (Nat.le_refl _)).alloc (.cells #[.int .u64 ja, .int .u64 jb] 26)
      have B7 : Below W.heap.size W (w7.alloc (.cells #[.int .u64 ja, .int .u64 jb] 26)) := (B6a.trans (hb7.mono B6a.size)).alloc (Nat.le_trans B6a.size hb7.size) _
      clear K6a K6b X6a hs6a hb7 B6a HJ2
      unfold keyV
      go_wp2_with fail
      generalize w7.alloc (.cells #[.int .u64 ja, .int .u64 jb] 26) = w8 at *
      generalize w7.heap.size = R at *
      obtain ⟨k0, k1, k2⟩ := K7
      obtain ⟨l0, l1, l2⟩ := K8
      obtain ⟨m0, m1, m2⟩ := K9
      go_loopw [12, 13] (fun y i wr => ∃ j : Nat, j ≤ 8 ∧ wr = w8 ∧ i = .int .i64 ((j : Int) - 1) ∧ y = .int .u64 (hi f (8 - j))) (fun _ i _ => (intOf i + 1).toNat)
      case atStart => exact ⟨8, by omega, rfl, rfl, rfl⟩
      case round =>
        obtain ⟨j, hj, rfl, rfl, rfl⟩ := hrel
        by_cases hlt : 0 < j
        · obtain ⟨r, rfl⟩ : ∃ r, j = r + 1 := ⟨j - 1, by omega⟩
          have e0 : (((r + 1 : Nat) : Int) - 1) = (r : Int) := by omega
          rw [e0]
          clear e0
          have i1 : (0 : Int) ≤ r := by omega
          have i2 : (r : Int) < 16 := by omega
          obtain ⟨bb, off, rfl, _, hcell⟩ := X7 (by omega)
          have c0 : wr.cell? ⟨bb, off + r, none⟩ = some (.int .u8 (f r)) := hcell _ (by omega)
          have hst := hi_step f hf (8 - (r + 1)) (by omega)
          rw [show 7 - (8 - (r + 1)) = r from by omega, show 8 - (r + 1) + 1 = 8 - r from by omega] at hst
          have hst := hid hst
          have ub := hf r
          obtain ⟨ub, ub'⟩ := ub
          generalize f r = fk at *
          generalize hi f (8 - (r + 1)) = hk' at *
          clear hcell X7 HKA
          go_wp2_with fail
          go_roundw
          case rel => exact ⟨r, by omega, trivial, rfl, rfl⟩
          case measure => simp [intOf]
        · have e : j = 0 := by omega
          subst e
          have hfin : (ka == hi f 8) = true := by rw [hi_all, HKA.out]; simp
          rw [show 8 - 0 = 8 from rfl]
          generalize hi f 8 = y at *
          clear HKA X7
          go_wp2_with fail
          go_ret
          exact ⟨rfl, B7⟩
    · have t1 : decide ((n : Int) > 40) = false := by simp; omega
      have t2 : decide ((n2 : Int) > 40) = true := by simp; omega
      go_enter Try.func3, Try.ntmps3
      go_wp2_with fail
      refine (known_any _).mono ?_
      rintro e w ⟨rfl, hb1⟩
      go_wp2
      go_ret
      exact ⟨rfl, hb1⟩
  · have t1 : decide ((n : Int) > 40) = true := by simp; omega
    go_enter Try.func3, Try.ntmps3
    go_wp2_with fail
    refine (known_any _).mono ?_
    rintro e w ⟨rfl, hb1⟩
    go_wp2
    go_ret
    exact ⟨rfl, hb1⟩

set_option maxRecDepth 100000 in
theorem lifted (os : Os) (started : os.Started) (H : Type) (enc : TypeId × Value → H) :
    ReturnsInHanded {} Try.checked os 3 .any (Rows.sipKeysSpec.pre6 enc Try.prog Try.f3 [] false) (Rows.sipKeysSpec.post enc Try.prog Try.f3 false true false false) :=
  law_step (s := Rows.sipKeysSpec) started (by kernel_rfl) Try.func3
    (ChangeSpec.witness6 (s := Rows.sipKeysSpec) (enc := enc) (C := Try.checked) false ⟨#[], #[.slice none 0 0, .slice none 0 0], []⟩ 8 (by kernel_rfl) (by kernel_rfl) (by kernel_rfl) (by kernel_rfl))
    rfl (by rw [Try.params3]; decide +kernel) rfl Try.underlying4
    (fun ds h => by
      rw [Try.params3] at h
      match ds, h with
      | [_, _], _ => rfl)
    (fun W base args ds ps hval hA hsz => by
      rw [Try.params3] at hA hval hsz
      obtain ⟨v0, vs0, d0, ds0, p0, q0, hargs, rfl, rfl, h0, r0⟩ := trodAll_cons hA
      obtain ⟨v1, vs1, d1, ds1, p1, q1, rfl, rfl, rfl, h1, r1⟩ := trodAll_cons r0
      obtain ⟨rfl, rfl, rfl⟩ := trodAll_nil r1
      obtain rfl : args = #[v0, v1] := by cases args; simp_all
      obtain ⟨A0, n0, c0, g0, rfl, hn0, hc0, hs0, hw0, hl0, hd0⟩ := open_row Try.underlying22 Try.underlying5 (by kernel_rfl) (hval 0 22 v0 rfl rfl) h0
      have re0 : c0 * 1 ≤ 140737488351232 := by
        rcases hd0 with ⟨_, h0⟩ | ⟨xs, ys, h1, h2⟩
        · omega
        · have := sized_slice hsz (j := 0) (t := 22) (e := 5) rfl (by rw [h1]; rfl) Try.underlying22
          rw [h2, show Try.prog.bytesOf 5 = 1 from by kernel_rfl] at this
          simpa [reachBytes] using this
      obtain ⟨A1, n1, c1, g1, rfl, hn1, hc1, hs1, hw1, hl1, hd1⟩ := open_row Try.underlying22 Try.underlying5 (by kernel_rfl) (hval 1 22 v1 rfl rfl) h1
      have re1 : c1 * 1 ≤ 140737488351232 := by
        rcases hd1 with ⟨_, h0⟩ | ⟨xs, ys, h1, h2⟩
        · omega
        · have := sized_slice hsz (j := 1) (t := 22) (e := 5) rfl (by rw [h1]; rfl) Try.underlying22
          rw [h2, show Try.prog.bytesOf 5 = 1 from by kernel_rfl] at this
          simpa [reachBytes] using this
      exact walk W A0 n0 c0 g0 hn0 hc0 hs0 (fun j => bounds_u8 (hw0 j)) hl0 re0 A1 n1 c1 g1 hn1 hc1 hs1 (fun j => bounds_u8 (hw1 j)) hl1 re1)

theorem proved : Rows.SipKeysSaid :=
  OpenClaim.holds_of_wide 3 Try.f3 rfl rfl rfl rfl rfl rfl rfl ⟨rfl, rfl, rfl, rfl, rfl⟩ rfl rfl rfl rfl rfl (by kernel_rfl) Try.func3 (by kernel_rfl)
    (of_decide_eq_true (by kernel_rfl)) (by unfold Func.isWrapper; first | (rw [if_pos (by decide +kernel)]; kernel_rfl) | (rw [if_neg (by decide +kernel)]; exact ⟨rfl, rfl⟩))
    (fun os started H enc _ => lifted os started H enc)
end Go.Proofs.Ytmkkglhbfgeecaa.sipKeys
