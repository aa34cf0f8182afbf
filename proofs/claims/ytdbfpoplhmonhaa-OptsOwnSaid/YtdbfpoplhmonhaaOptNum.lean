/- Numbers of four bytes, stamps, how far one is ahead. -/
import Derived.Test.YtdbfpoplhmonhaaOptWalk
namespace Go.Proofs.Ytdbfpoplhmonhaa
set_option linter.unusedVariables false
set_option linter.unusedSimpArgs false
open Go.RowKit Go.ChangeShapes Go.WideShapes Go.ChangeAt

def U32 (x : Int) : Prop := 0 ≤ x ∧ x < 4294967296
theorem or_32 (i : Nat) (y x : Int) (hi : i ≤ 32) (hy : 0 ≤ y) (hy2 : y * 2 ^ i < 4294967296) (hx : 0 ≤ x) (hx2 : x < 2 ^ i) : bits .or .u32 (y * 2 ^ i) x = y * 2 ^ i + x := by
  obtain ⟨a, rfl⟩ := Int.eq_ofNat_of_zero_le hy
  obtain ⟨b, rfl⟩ := Int.eq_ofNat_of_zero_le hx
  have hp : (2 : Nat) ^ i ≤ 2 ^ 32 := Nat.pow_le_pow_right (by omega) hi
  have hq : (((2 ^ i : Nat)) : Int) = 2 ^ i := by simp
  rw [← hq] at hy2 hx2 ⊢
  have e : ((a : Int) * ((2 ^ i : Nat) : Int)) = ((a * 2 ^ i : Nat) : Int) := by simp
  rw [e] at hy2 ⊢
  have hor : a * 2 ^ i ||| b = a * 2 ^ i + b := by rw [Nat.mul_comm a, ← Nat.two_pow_add_eq_or_of_lt (by omega)]
  have hs : a * 2 ^ i + b < 2 ^ 32 := by rw [← hor]; exact Nat.or_lt_two_pow (by omega) (by omega)
  show IntKind.u32.wrap ((BitVec.ofInt 32 ((a * 2 ^ i : Nat) : Int) ||| BitVec.ofInt 32 (b : Int)).toNat : Int) = _
  rw [BitVec.toNat_or, BitVec.ofInt_natCast, BitVec.ofInt_natCast, BitVec.toNat_ofNat, BitVec.toNat_ofNat, Nat.mod_eq_of_lt (by omega), Nat.mod_eq_of_lt (by omega), hor, IntKind.wrap_u32]
  omega
theorem or_a (a b : Int) (ha : 0 ≤ a ∧ a ≤ 255) (hb : 0 ≤ b ∧ b ≤ 255) : bits .or .u32 (a * 16777216) (b * 65536) = a * 16777216 + b * 65536 :=
  or_32 24 a (b * 65536) (by omega) (by omega) (by omega) (by omega) (by omega)
theorem or_b (a b c : Int) (ha : 0 ≤ a ∧ a ≤ 255) (hb : 0 ≤ b ∧ b ≤ 255) (hc : 0 ≤ c ∧ c ≤ 255) : bits .or .u32 (a * 16777216 + b * 65536) (c * 256) = a * 16777216 + b * 65536 + c * 256 := by
  have := or_32 16 (a * 256 + b) (c * 256) (by omega) (by omega) (by omega) (by omega) (by omega)
  have e : (a * 256 + b) * 2 ^ 16 = a * 16777216 + b * 65536 := by omega
  rwa [e] at this
theorem or_c (a b c d : Int) (ha : 0 ≤ a ∧ a ≤ 255) (hb : 0 ≤ b ∧ b ≤ 255) (hc : 0 ≤ c ∧ c ≤ 255) (hd : 0 ≤ d ∧ d ≤ 255) : bits .or .u32 (a * 16777216 + b * 65536 + c * 256) d = a * 16777216 + b * 65536 + c * 256 + d := by
  have := or_32 8 (a * 65536 + b * 256 + c) d (by omega) (by omega) (by omega) (by omega) (by omega)
  have e : (a * 65536 + b * 256 + c) * 2 ^ 8 = a * 16777216 + b * 65536 + c * 256 := by omega
  rwa [e] at this

theorem number_at (x0 x1 x2 x3 : Int) (b off n c : Nat) (w : World) (h0 : 0 ≤ x0 ∧ x0 ≤ 255) (h1 : 0 ≤ x1 ∧ x1 ≤ 255) (h2 : 0 ≤ x2 ∧ x2 ≤ 255) (h3 : 0 ≤ x3 ∧ x3 ≤ 255) (hn : 4 ≤ n)
    (c0 : w.cell? ⟨b, off, none⟩ = some (.int .u8 x0)) (c1 : w.cell? ⟨b, off + 1, none⟩ = some (.int .u8 x1)) (c2 : w.cell? ⟨b, off + 2, none⟩ = some (.int .u8 x2)) (c3 : w.cell? ⟨b, off + 3, none⟩ = some (.int .u8 x3)) :
    Calls Try.prog 31 #[.slice (some ⟨b, off, none⟩) n c] w fun e w' => e = .returned (.int .u32 (x0 * 16777216 + x1 * 65536 + x2 * 256 + x3)) ∧ ∃ k, w' = w.drewN k := by
  have q1 := or_a x0 x1 h0 h1
  have q2 := or_b x0 x1 x2 h0 h1 h2
  have q3 := or_c x0 x1 x2 x3 h0 h1 h2 h3
  obtain ⟨h0a, h0b⟩ := h0
  obtain ⟨h1a, h1b⟩ := h1
  obtain ⟨h2a, h2b⟩ := h2
  obtain ⟨h3a, h3b⟩ := h3
  have i0 : (0 : Int) < n := by omega
  have i1 : (1 : Int) < n := by omega
  have i2 : (2 : Int) < n := by omega
  have i3 : (3 : Int) < n := by omega
  go_enter Try.func31, Try.ntmps31
  go_wp2
  go_quiet (fail)
  go_wp2
  go_ret
  exact ⟨rfl, _, rfl⟩

theorem rnum_at (x0 x1 x2 x3 : Int) (b off n c : Nat) (w : World) (h0 : 0 ≤ x0 ∧ x0 ≤ 255) (h1 : 0 ≤ x1 ∧ x1 ≤ 255) (h2 : 0 ≤ x2 ∧ x2 ≤ 255) (h3 : 0 ≤ x3 ∧ x3 ≤ 255) (hn : 4 ≤ n)
    (c0 : w.cell? ⟨b, off, none⟩ = some (.int .u8 x0)) (c1 : w.cell? ⟨b, off + 1, none⟩ = some (.int .u8 x1)) (c2 : w.cell? ⟨b, off + 2, none⟩ = some (.int .u8 x2)) (c3 : w.cell? ⟨b, off + 3, none⟩ = some (.int .u8 x3)) :
    Calls Try.prog 32 #[.slice (some ⟨b, off, none⟩) n c] w fun e w' => e = .returned (.int .u32 (x0 * 16777216 + x1 * 65536 + x2 * 256 + x3)) ∧ ∃ k, w' = w.drewN k := by
  have q1 := or_a x0 x1 h0 h1
  have q2 := or_b x0 x1 x2 h0 h1 h2
  have q3 := or_c x0 x1 x2 x3 h0 h1 h2 h3
  obtain ⟨h0a, h0b⟩ := h0
  obtain ⟨h1a, h1b⟩ := h1
  obtain ⟨h2a, h2b⟩ := h2
  obtain ⟨h3a, h3b⟩ := h3
  have i0 : (0 : Int) < n := by omega
  have i1 : (1 : Int) < n := by omega
  have i2 : (2 : Int) < n := by omega
  have i3 : (3 : Int) < n := by omega
  go_enter Try.func32, Try.ntmps32
  go_wp2
  go_quiet (fail)
  go_wp2
  go_ret
  exact ⟨rfl, _, rfl⟩

theorem number_any (A : Option Addr) (n c : Nat) (g : Nat → Int) (w : World) (h : By w A n g) (hg : IsB g) (hn : 4 ≤ n) :
    Calls Try.prog 31 #[.slice A n c] w fun e w' => e = .returned (.int .u32 (num g 0)) ∧ ∃ k, w' = w.drewN k := by
  obtain ⟨b, off, rfl, _, hc⟩ := h (by omega)
  exact number_at _ _ _ _ b off n c w (hg 0) (hg 1) (hg 2) (hg 3) hn (hc 0 (by omega)) (hc 1 (by omega)) (hc 2 (by omega)) (hc 3 (by omega))
theorem rnum_any (A : Option Addr) (n c : Nat) (g : Nat → Int) (w : World) (h : By w A n g) (hg : IsB g) (hn : 4 ≤ n) :
    Calls Try.prog 32 #[.slice A n c] w fun e w' => e = .returned (.int .u32 (num g 0)) ∧ ∃ k, w' = w.drewN k := by
  obtain ⟨b, off, rfl, _, hc⟩ := h (by omega)
  exact rnum_at _ _ _ _ b off n c w (hg 0) (hg 1) (hg 2) (hg 3) hn (hc 0 (by omega)) (hc 1 (by omega)) (hc 2 (by omega)) (hc 3 (by omega))

/-- How far b is ahead of a. -/
def farV (a b : Int) : Int := (b - a + 2147483648) % 4294967296 - 2147483648
def lessV (a b : Int) : Bool := decide (farV a b > 0)
theorem far_any (a b : Int) (ha : U32 a) (hb : U32 b) (w : World) : Calls Try.prog 24 #[.int .u32 a, .int .u32 b] w fun e w' => e = .returned (.int .i64 (farV a b)) ∧ w = w' := by
  obtain ⟨ha1, ha2⟩ := ha
  obtain ⟨hb1, hb2⟩ := hb
  go_enter Try.func24, Try.ntmps24
  go_wp2
  go_ret
  refine ⟨ret_i64 ?_, rfl⟩
  unfold farV
  unfold wrap64 wrap32
  omega
theorem less_any (a b : Int) (ha : U32 a) (hb : U32 b) (w : World) : Calls Try.prog 26 #[.int .u32 a, .int .u32 b] w fun e w' => e = .returned (.bool (lessV a b)) ∧ w = w' := by
  go_enter Try.func26, Try.ntmps26
  go_wp2_with fail
  refine (far_any a b ha hb _).mono ?_
  rintro e w' ⟨rfl, rfl⟩
  go_wp2
  all_goals go_ret
  all_goals exact ⟨ret_bool (by unfold lessV; simp; try omega), rfl⟩
theorem rfar_any (a b : Int) (ha : U32 a) (hb : U32 b) (w : World) : Calls Try.prog 25 #[.int .u32 a, .int .u32 b] w fun e w' => e = .returned (.int .i64 (farV a b)) ∧ w = w' := by
  obtain ⟨ha1, ha2⟩ := ha
  obtain ⟨hb1, hb2⟩ := hb
  go_enter Try.func25, Try.ntmps25
  go_wp2
  go_ret
  refine ⟨ret_i64 ?_, rfl⟩
  unfold farV
  unfold wrap64 wrap32
  omega
theorem rless_any (a b : Int) (ha : U32 a) (hb : U32 b) (w : World) : Calls Try.prog 27 #[.int .u32 a, .int .u32 b] w fun e w' => e = .returned (.bool (lessV a b)) ∧ w = w' := by
  go_enter Try.func27, Try.ntmps27
  go_wp2_with fail
  refine (rfar_any a b ha hb _).mono ?_
  rintro e w' ⟨rfl, rfl⟩
  go_wp2
  all_goals go_ret
  all_goals exact ⟨ret_bool (by unfold lessV; simp; try omega), rfl⟩

/-- The four bytes of a number, the highest first. -/
def b4L (z : Int) : List Int := [z / 16777216, z / 65536 % 256, z / 256 % 256, z % 256]
def b4 (z : Int) (j : Nat) : Int := (b4L z).getD j 0
def mkL (v e : Int) : List Int := [1, 1, 8, 10] ++ b4L v ++ b4L e
def mkB (v e : Int) (j : Nat) : Int := (mkL v e).getD j 0
theorem Ow.lit {w : World} {B g : Nat} {e : TypeId} {k : IntKind} (l : List Int) (hg : w.heap.size = g) (hB : B ≤ g) (hm : l.length ≤ maxLen) :
    Ow (w.alloc (.cells (l.map (Value.int k)).toArray e)) B e 1 (.slice (some ⟨g, 0, none⟩) l.length l.length) l.length (fun j => .int k (l.getD j 0)) := by
  subst hg
  have := World.ownsRow_lit (size := 1) (e := e) (base := B) w (l.map (Value.int k)).toArray l.length hB hm (by simp)
  unfold Ow
  rw [show (List.range (l.length * 1)).map (fun j => Value.int k (l.getD j 0)) = l.map (Value.int k) from by
    apply List.ext_getElem
    · simp
    · intro i h1 h2; simp at h1 h2; simp [h1, List.getD, h2]]
  exact this
theorem b4_bd {z : Int} (hz : U32 z) (j : Nat) : 0 ≤ b4 z j ∧ b4 z j ≤ 255 := by
  unfold U32 at hz
  refine lit_b (b4L z) ?_ j
  intro x hx
  simp only [b4L, List.mem_cons, List.not_mem_nil, or_false] at hx
  omega
theorem mkB_bd {v e : Int} (hv : U32 v) (he : U32 e) (j : Nat) : 0 ≤ mkB v e j ∧ mkB v e j ≤ 255 := by
  unfold U32 at hv he
  refine lit_b (mkL v e) ?_ j
  intro x hx
  simp only [mkL, b4L, List.cons_append, List.nil_append, List.mem_cons, List.not_mem_nil, or_false] at hx
  omega
end Go.Proofs.Ytdbfpoplhmonhaa
