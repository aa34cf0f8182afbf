/- The keyed sum's round, of both packages, as plain numbers. Numbers out of bytes, the lowest first. Rows of bytes of the call's own. package sip's round. Numbers taken into a keyed sum. Package sip's sums of numbers. the document's round. The document's keyed sums, said a second time. The document's sum of numbers: of their bytes. -/
import Derived.Test.YteefhiniamajkaaGreatGa
import Derived.BigRegion
import Derived.RegionTactic
import Derived.Deep.RegionWith
import Derived.Deep.DeepCutAuto
import Derived.Deep.RegionLaw
namespace Go.Proofs.YteefhiniamajkaaGreat
set_option linter.unusedVariables false
open Go.RowKit Go.ChangeShapes Go.WideShapes Go.ChangeAt

/-- A number of 64 bits. -/
def U (x : Int) : Prop := 0 ≤ x ∧ x ≤ 18446744073709551615
theorem U_wrap (e : Int) : U (IntKind.u64.wrap e) := bounds_u64 (wf_wrap .u64 e)
theorem U_bits (op : BinOp) (x y : Int) : U (bits op .u64 x y) := bounds_u64 (wf_bits op .u64 x y)
def ad (x y : Int) : Int := IntKind.u64.wrap (x + y)
def xo (x y : Int) : Int := bits .xor .u64 x y
def rot (x p q : Int) : Int := bits .or .u64 (IntKind.u64.wrap (x * p)) (x / q)
theorem U_ad (x y : Int) : U (ad x y) := U_wrap _
theorem U_xo (x y : Int) : U (xo x y) := U_bits _ _ _
theorem U_rot (x p q : Int) : U (rot x p q) := U_bits _ _ _

/-- The four numbers. -/
structure V4 where
  a : Int
  b : Int
  c : Int
  d : Int
def V4.U (v : V4) : Prop := YteefhiniamajkaaGreat.U v.a ∧ YteefhiniamajkaaGreat.U v.b ∧ YteefhiniamajkaaGreat.U v.c ∧ YteefhiniamajkaaGreat.U v.d

def V4.s0 (v : V4) : V4 := { v with a := ad v.a v.b }
theorem V4.U0 {v : V4} (h : v.U) : v.s0.U := ⟨U_ad _ _, h.2.1, h.2.2.1, h.2.2.2⟩
def V4.s1 (v : V4) : V4 := { v with b := xo (rot v.b 8192 2251799813685248) v.a }
theorem V4.U1 {v : V4} (h : v.U) : v.s1.U := ⟨h.1, U_xo _ _, h.2.2.1, h.2.2.2⟩
def V4.s2 (v : V4) : V4 := { v with a := rot v.a 4294967296 4294967296 }
theorem V4.U2 {v : V4} (h : v.U) : v.s2.U := ⟨U_rot _ _ _, h.2.1, h.2.2.1, h.2.2.2⟩
def V4.s3 (v : V4) : V4 := { v with c := ad v.c v.d }
theorem V4.U3 {v : V4} (h : v.U) : v.s3.U := ⟨h.1, h.2.1, U_ad _ _, h.2.2.2⟩
def V4.s4 (v : V4) : V4 := { v with d := xo (rot v.d 65536 281474976710656) v.c }
theorem V4.U4 {v : V4} (h : v.U) : v.s4.U := ⟨h.1, h.2.1, h.2.2.1, U_xo _ _⟩
def V4.s5 (v : V4) : V4 := { v with a := ad v.a v.d }
theorem V4.U5 {v : V4} (h : v.U) : v.s5.U := ⟨U_ad _ _, h.2.1, h.2.2.1, h.2.2.2⟩
def V4.s6 (v : V4) : V4 := { v with d := xo (rot v.d 2097152 8796093022208) v.a }
theorem V4.U6 {v : V4} (h : v.U) : v.s6.U := ⟨h.1, h.2.1, h.2.2.1, U_xo _ _⟩
def V4.s7 (v : V4) : V4 := { v with c := ad v.c v.b }
theorem V4.U7 {v : V4} (h : v.U) : v.s7.U := ⟨h.1, h.2.1, U_ad _ _, h.2.2.2⟩
def V4.s8 (v : V4) : V4 := { v with b := xo (rot v.b 131072 140737488355328) v.c }
theorem V4.U8 {v : V4} (h : v.U) : v.s8.U := ⟨h.1, U_xo _ _, h.2.2.1, h.2.2.2⟩
def V4.s9 (v : V4) : V4 := { v with c := rot v.c 4294967296 4294967296 }
theorem V4.U9 {v : V4} (h : v.U) : v.s9.U := ⟨h.1, h.2.1, U_rot _ _ _, h.2.2.2⟩
/-- A round. -/
def rnd (v : V4) : V4 := v.s0.s1.s2.s3.s4.s5.s6.s7.s8.s9
theorem rnd_U {v : V4} (h : v.U) : (rnd v).U := V4.U9 (V4.U8 (V4.U7 (V4.U6 (V4.U5 (V4.U4 (V4.U3 (V4.U2 (V4.U1 (V4.U0 (h))))))))))

/-- A number goes in; many do. -/
def eat (v : V4) (m : Int) : V4 := { rnd (rnd { v with d := xo v.d m }) with a := xo (rnd (rnd { v with d := xo v.d m })).a m }
theorem eat_U {v : V4} (h : v.U) (m : Int) : (eat v m).U :=
  have h2 := rnd_U (rnd_U (v := { v with d := xo v.d m }) ⟨h.1, h.2.1, h.2.2.1, U_xo _ _⟩)
  ⟨U_xo _ _, h2.2.1, h2.2.2.1, h2.2.2.2⟩
def eats (f : Nat → Int) : Nat → V4 → V4
  | 0, v => v
  | k + 1, v => eat (eats f k v) (f k)
theorem eats_U {f : Nat → Int} {v : V4} (h : v.U) : ∀ k, (eats f k v).U
  | 0 => h
  | k + 1 => eat_U (eats_U h k) _
theorem eats_ext {f f' : Nat → Int} (v : V4) : ∀ n, (∀ j, j < n → f j = f' j) → eats f n v = eats f' n v
  | 0, _ => rfl
  | n + 1, h => by rw [eats, eats, eats_ext v n (fun j hj => h j (by omega)), h n (by omega)]
/-- The end: the last number, 255, four rounds. -/
def last4 (v : V4) : V4 := rnd (rnd (rnd (rnd { v with c := xo v.c 255 })))
def fin4 (v : V4) : Int := xo (xo (xo (last4 v).a (last4 v).b) (last4 v).c) (last4 v).d
/-- How a sum begins. -/
def strt (a b : Int) : V4 := ⟨xo a 8317987319222330741, xo b 7237128888997146477, xo a 7816392313619706465, xo b 8387220255154660723⟩
theorem strt_U (a b : Int) : (strt a b).U := ⟨U_xo _ _, U_xo _ _, U_xo _ _, U_xo _ _⟩

/-- The state lies in block g. -/
structure St (w : World) (g : Nat) (v : V4) : Prop where
  ca : w.cell? ⟨g, 0, none⟩ = some (.int .u64 v.a)
  cb : w.cell? ⟨g, 1, none⟩ = some (.int .u64 v.b)
  cc : w.cell? ⟨g, 2, none⟩ = some (.int .u64 v.c)
  cd : w.cell? ⟨g, 3, none⟩ = some (.int .u64 v.d)
  fa : w.frozen? ⟨g, 0, none⟩ = false
  fb : w.frozen? ⟨g, 1, none⟩ = false
  fc : w.frozen? ⟨g, 2, none⟩ = false
  fd : w.frozen? ⟨g, 3, none⟩ = false
/-- Just block g has turned, and new ones have come. -/
def Onl (g : Nat) (w w' : World) : Prop := w.grownBy w' (some g)
section
variable {g : Nat} {a w w' : World} {v : V4}
theorem Onl.refl_ (g : Nat) (w : World) : Onl g w w := ⟨rfl, rfl, rfl, Nat.le_refl _, fun _ _ _ => rfl⟩
theorem Onl.drew (h : Onl g a w) : Onl g a w.drew := ⟨h.os, h.tape, h.output, h.size, h.block⟩
theorem Onl.drewN (h : Onl g a w) (n : Nat) : Onl g a (w.drewN n) := ⟨h.os, h.tape, h.output, h.size, h.block⟩
theorem Onl.setCell (h : Onl g a w) (i : Nat) (u : Value) : Onl g a (w.setCell ⟨g, i, none⟩ u) :=
  ⟨h.os, h.tape, h.output, by simpa [World.setCell] using h.size, fun k hk hne => (Below.heap_setCell w ⟨g, i, none⟩ u k (fun e => hne (by rw [e]))).trans (h.block k hk hne)⟩
theorem Onl.trans (h : Onl g a w) (k : Onl g w w') : Onl g a w' :=
  ⟨k.os.trans h.os, k.tape.trans h.tape, k.output.trans h.output, Nat.le_trans h.size k.size, fun i hi hne => (k.block i (Nat.lt_of_lt_of_le hi h.size) hne).trans (h.block i hi hne)⟩
theorem Onl.of_below (hb : Below a.heap.size a w) : Onl g a w := ⟨hb.os, hb.tape, hb.output, hb.size, fun i hi _ => hb.block i hi⟩
theorem Onl.below (h : Onl g a w) {B : Nat} (hB : B ≤ g) (hs : B ≤ a.heap.size) : Below B a w := ⟨h.os, h.tape, h.output, h.size, fun k hk => h.block k (by omega) (fun e => by injection e; omega)⟩
theorem Onl.sl (h : Onl g a w) {A : Option Addr} {m : Nat} {f : Nat → Value} (hs : Sl a A m f) (hA : ∀ ad, A = some ad → 0 < m → ad.block ≠ g) : Sl w A m f := by
  intro hm
  obtain ⟨b, off, rfl, hlt, hc⟩ := hs hm
  exact ⟨b, off, rfl, Nat.lt_of_lt_of_le hlt h.size, fun j hj => (World.cell?_of_block (a := ⟨b, off + j, none⟩) (h.block b hlt (fun e => hA _ rfl hm (by injection e)))).trans (hc j hj)⟩
theorem St.drew (h : St w g v) : St w.drew g v := ⟨h.ca, h.cb, h.cc, h.cd, h.fa, h.fb, h.fc, h.fd⟩
theorem St.drewN (h : St w g v) (n : Nat) : St (w.drewN n) g v := ⟨h.ca, h.cb, h.cc, h.cd, h.fa, h.fb, h.fc, h.fd⟩
theorem St.keep (h : St w g v) (hb : w'.heap[g]? = w.heap[g]?) : St w' g v :=
  ⟨(World.cell?_of_block (a := ⟨g, 0, none⟩) hb).trans h.ca, (World.cell?_of_block (a := ⟨g, 1, none⟩) hb).trans h.cb, (World.cell?_of_block (a := ⟨g, 2, none⟩) hb).trans h.cc, (World.cell?_of_block (a := ⟨g, 3, none⟩) hb).trans h.cd,
    (World.frozen?_of_block (a := ⟨g, 0, none⟩) hb).trans h.fa, (World.frozen?_of_block (a := ⟨g, 1, none⟩) hb).trans h.fb, (World.frozen?_of_block (a := ⟨g, 2, none⟩) hb).trans h.fc, (World.frozen?_of_block (a := ⟨g, 3, none⟩) hb).trans h.fd⟩
theorem St.lt (h : St w g v) : g < w.heap.size := by
  rcases Nat.lt_or_ge g w.heap.size with hlt | hge
  · exact hlt
  · have := h.ca
    simp [World.cell?, Array.getElem?_eq_none hge] at this
theorem St.below {B : Nat} (h : St w g v) (hb : Below B w w') (hB : g < B) : St w' g v := h.keep (hb.block g hB)
theorem St.seta (h : St w g v) (x : Int) : St (w.setCell ⟨g, 0, none⟩ (.int .u64 x)) g { v with a := x } :=
  ⟨World.cell?_setCell_same _ _ _ h.ca, (World.cell?_setCell_other _ _ _ _ (by simp)).trans h.cb, (World.cell?_setCell_other _ _ _ _ (by simp)).trans h.cc, (World.cell?_setCell_other _ _ _ _ (by simp)).trans h.cd, by simp [h.fa], by simp [h.fb], by simp [h.fc], by simp [h.fd]⟩
theorem St.setb (h : St w g v) (x : Int) : St (w.setCell ⟨g, 1, none⟩ (.int .u64 x)) g { v with b := x } :=
  ⟨(World.cell?_setCell_other _ _ _ _ (by simp)).trans h.ca, World.cell?_setCell_same _ _ _ h.cb, (World.cell?_setCell_other _ _ _ _ (by simp)).trans h.cc, (World.cell?_setCell_other _ _ _ _ (by simp)).trans h.cd, by simp [h.fa], by simp [h.fb], by simp [h.fc], by simp [h.fd]⟩
theorem St.setc (h : St w g v) (x : Int) : St (w.setCell ⟨g, 2, none⟩ (.int .u64 x)) g { v with c := x } :=
  ⟨(World.cell?_setCell_other _ _ _ _ (by simp)).trans h.ca, (World.cell?_setCell_other _ _ _ _ (by simp)).trans h.cb, World.cell?_setCell_same _ _ _ h.cc, (World.cell?_setCell_other _ _ _ _ (by simp)).trans h.cd, by simp [h.fa], by simp [h.fb], by simp [h.fc], by simp [h.fd]⟩
theorem St.setd (h : St w g v) (x : Int) : St (w.setCell ⟨g, 3, none⟩ (.int .u64 x)) g { v with d := x } :=
  ⟨(World.cell?_setCell_other _ _ _ _ (by simp)).trans h.ca, (World.cell?_setCell_other _ _ _ _ (by simp)).trans h.cb, (World.cell?_setCell_other _ _ _ _ (by simp)).trans h.cc, World.cell?_setCell_same _ _ _ h.cd, by simp [h.fa], by simp [h.fb], by simp [h.fc], by simp [h.fd]⟩
end
end Go.Proofs.YteefhiniamajkaaGreat
namespace Go.Proofs.YteefhiniamajkaaGreat
set_option linter.unusedVariables false
open Go.RowKit Go.ChangeShapes Go.WideShapes Go.ChangeAt

/-- The first n bytes as a number, the lowest first. -/
def num (f : Nat → Int) : Nat → Int
  | 0 => 0
  | k + 1 => num f k + f k * 256 ^ k

theorem num_bd (f : Nat → Int) (hf : IsB f) (k : Nat) : 0 ≤ num f k ∧ num f k < 256 ^ k := by
  induction k with
  | zero => simp [num]
  | succ k ih =>
    have h := hf k
    have hp : (0 : Int) < 256 ^ k := Int.pow_pos (by omega)
    have h1 : f k * 256 ^ k ≤ 255 * 256 ^ k := Int.mul_le_mul_of_nonneg_right h.2 (by omega)
    have h2 : 0 ≤ f k * 256 ^ k := Int.mul_nonneg h.1 (by omega)
    rw [num, Int.pow_succ]
    omega
theorem num_ext {f f' : Nat → Int} : ∀ n, (∀ j, j < n → f j = f' j) → num f n = num f' n
  | 0, _ => rfl
  | n + 1, h => by rw [num, num, num_ext n (fun j hj => h j (by omega)), h n (by omega)]
/-- Bits that do not meet are added. -/
theorem or_apart (x y i : Nat) (hx : x < 2 ^ i) (hx2 : x < 2 ^ 64) (hy : y * 2 ^ i < 2 ^ 64) : bits .or .u64 (x : Int) ((y * 2 ^ i : Nat) : Int) = ((x + y * 2 ^ i : Nat) : Int) := by
  have hor : x ||| y * 2 ^ i = x + y * 2 ^ i := by
    rw [Nat.or_comm, Nat.mul_comm y, ← Nat.two_pow_add_eq_or_of_lt hx, Nat.add_comm]
  have hs : x + y * 2 ^ i < 2 ^ 64 := by rw [← hor]; exact Nat.or_lt_two_pow hx2 hy
  show IntKind.u64.wrap ((BitVec.ofInt 64 (x : Int) ||| BitVec.ofInt 64 ((y * 2 ^ i : Nat) : Int)).toNat : Int) = _
  rw [BitVec.toNat_or, BitVec.ofInt_natCast, BitVec.ofInt_natCast, BitVec.toNat_ofNat, BitVec.toNat_ofNat, Nat.mod_eq_of_lt hx2, Nat.mod_eq_of_lt hy, hor, IntKind.wrap_u64]
  omega
theorem or_num (f : Nat → Int) (hf : IsB f) (k : Nat) (hk : k < 8) : bits .or .u64 (num f k) (IntKind.u64.wrap (f k * 2 ^ (8 * k))) = num f (k + 1) := by
  have h1 := num_bd f hf k
  obtain ⟨x, hx⟩ := Int.eq_ofNat_of_zero_le h1.1
  obtain ⟨y, hy⟩ := Int.eq_ofNat_of_zero_le (hf k).1
  have hy2 := (hf k).2
  have e0 : (256 : Int) ^ k = ((2 ^ (8 * k) : Nat) : Int) := by rw [Nat.pow_mul]; simp
  have e1 : (2 : Int) ^ (8 * k) = ((2 ^ (8 * k) : Nat) : Int) := by simp
  rw [num, e0, e1, hx, hy]
  rw [hx, e0] at h1
  rw [hy] at hy2
  have hpos : 0 < 2 ^ (8 * k) := Nat.two_pow_pos (8 * k)
  have hle : y * 2 ^ (8 * k) ≤ 255 * 2 ^ 56 := Nat.mul_le_mul (by omega) (Nat.pow_le_pow_right (by omega) (by omega))
  have hlt : y * 2 ^ (8 * k) < 2 ^ 64 := by omega
  have e2 : (y : Int) * ((2 ^ (8 * k) : Nat) : Int) = ((y * 2 ^ (8 * k) : Nat) : Int) := by rw [Int.natCast_mul]
  rw [e2]
  have e3 : IntKind.u64.wrap ((y * 2 ^ (8 * k) : Nat) : Int) = ((y * 2 ^ (8 * k) : Nat) : Int) := by rw [IntKind.wrap_u64]; omega
  have h56 : 2 ^ (8 * k) ≤ 2 ^ 56 := Nat.pow_le_pow_right (by omega) (by omega)
  rw [e3, or_apart x y (8 * k) (by omega) (by omega) hlt]
  omega

theorem low_any (A : Option Addr) (n c : Nat) (f : Nat → Int) (w : World) (h : By w A n f) (hf : IsB f) (hn : n ≤ 8) :
    Calls Tryz.prog 94 #[.slice A n c] w fun e w' => e = .returned (.int .u64 (num f n)) ∧ w = w' := by
  go_enter Tryz.func94, Tryz.ntmps94
  go_wp2_with fail
  go_loop [3, 4] (fun t i => ∃ k : Nat, k ≤ n ∧ i = .int .i64 k ∧ t = .int .u64 (num f k)) (fun _ i => n - (intOf i).toNat)
  case atStart => exact ⟨0, by omega, rfl, rfl⟩
  case round =>
    obtain ⟨k, hk, rfl, rfl⟩ := hrel
    by_cases hlt : k < n
    · obtain ⟨b, off, rfl, _, hc⟩ := h (by omega)
      have c0 : w.cell? ⟨b, off + k, none⟩ = some (.int .u8 (f k)) := hc _ hlt
      have i1 : (k : Int) < n := by omega
      have b0 := hf k
      clear hc h
      have hor := hid (or_num f hf k (by omega))
      go_wp2_with fail
      go_round
      case rel => exact ⟨k + 1, by omega, by go_num, by rw [hor.out]⟩
      case measure => simp [intOf]; omega
    · have e : k = n := by omega
      subst e
      have i1 : ¬ (k : Int) < k := by omega
      go_wp2
      go_ret
      exact ⟨rfl, rfl⟩
end Go.Proofs.YteefhiniamajkaaGreat
namespace Go.Proofs.YteefhiniamajkaaGreat
set_option linter.unusedVariables false
open Go.RowKit Go.ChangeShapes Go.WideShapes Go.ChangeAt

theorem info_u8 : (Tryz.prog.info? 5).map (fun i => (i.zero, i.size, i.bytes)) = some (some (.int .u8 0), 1, 1) := by kernel_rfl

theorem elem_b : Tryz.prog.underlying 164 = some (.slice (Tryz.prog.elem 164)) := by kernel_rfl
theorem size_b (W : World) : (sizeOf (Tryz.prog.elem 164)).run Tryz.prog W = .ok 1 W := by kernel_rfl
theorem cut_from_b (A : Option Addr) (n c i : Nat) (hi : i ≤ n) (hn : n ≤ c) (z : Int) (hz : z = i) :
    ∃ A' : Option Addr, (∀ W : World, (Instr.slice 164 (.slice A n c) (some (.int .i64 z)) none none).run Tryz.prog W = .ok (.slice A' (n - i) (c - i)) W) ∧
      ∀ (w : World) (f : Nat → Int), By w A n f → By w A' (n - i) (fun j => f (i + j)) := by
  obtain ⟨A', h1, h2⟩ := cut_from elem_b size_b A n c i hi hn z hz
  exact ⟨A', h1, fun w f h => by simpa using h2 w (fun j => .int .u8 (f j)) (by rw [Nat.mul_one]; exact h)⟩
theorem cut_mid_b (A : Option Addr) (n c i k : Nat) (hi : i ≤ k) (hk : k ≤ n) (hn : n ≤ c) (z y : Int) (hz : z = i) (hy : y = k) :
    ∃ A' : Option Addr, (∀ W : World, (Instr.slice 164 (.slice A n c) (some (.int .i64 z)) (some (.int .i64 y)) none).run Tryz.prog W = .ok (.slice A' (k - i) (c - i)) W) ∧
      ∀ (w : World) (f : Nat → Int), By w A n f → By w A' (k - i) (fun j => f (i + j)) := by
  obtain ⟨A', h1, h2⟩ := cut_mid elem_b size_b A n c i k hi hk hn z y hz hy
  exact ⟨A', h1, fun w f h => by simpa using h2 w (fun j => .int .u8 (f j)) (by rw [Nat.mul_one]; exact h)⟩

section
variable {w : World} {ops : Array Oper} {rest : List Oper} {o : Oper} {a : Act} {Q : Exit → Act → World → Prop}
/-- append of bytes onto a row of the call's own. -/
theorem wp_app_b (hgd : o.guard = none) (s x : Operand) (ho : o.op = .call { callee := .builtin .append, args := #[s, x], argTypes := #[164, 164] })
    (base : Nat) (v : Value) (n : Nat) (f : Nat → Int) (hs : a.eval s = v) (hown : Ow w base 5 1 v n (fun j => .int .u8 (f j)))
    (A : Option Addr) (m c : Nat) (f2 : Nat → Int) (hx : a.eval x = .slice A m c) (hr : By w A m f2) (hsz : n + m ≤ 140737488355328) (hbase : base ≤ w.heap.size)
    (h : ∀ A' c' w', Ow w' base 5 1 (.slice A' (n + m) c') (n + m) (fun j => .int .u8 (if j < n then f j else f2 (j - n))) → n + m ≤ c' → c' ≤ maxLen → Below base w w' → w.grownBy w' v.ownBlock →
      (∀ g, (Value.slice A' (n + m) c').ownBlock = some g → v.ownBlock = some g ∨ g = w.heap.size) → wpList Tryz.prog ops Q rest (a.put o.dst (.slice A' (n + m) c')) w') : wpList Tryz.prog ops Q (o :: rest) a w := by
  obtain ⟨i0, hi, hz0, hz1, hz2⟩ := info_parts info_u8
  refine wp_app w hgd s x 164 ho base 5 i0 (.int .u8 0) 1 1 Tryz.underlying164 hi hz0 hz1 hz2 rfl (by decide) v n _ hs hown A m c (fun j => .int .u8 (f2 j)) hx (by rw [Nat.mul_one]; exact hr) (fun _ _ => rfl) (by simp only [maxLen]; omega) (by omega) hbase ?_
  intro A' c' w' h1 h2 h3 h4 h5 h6
  refine h A' c' w' (h1.as_ fun j _ => ?_) h2 h3 h4 h5 h6
  simp only [two, Nat.mul_one]
  split <;> rfl
/-- The first append, onto an empty row. -/
theorem wp_app_b0 (hgd : o.guard = none) (s x : Operand) (ho : o.op = .call { callee := .builtin .append, args := #[s, x], argTypes := #[164, 164] })
    (base : Nat) (v : Value) (hs : a.eval s = v) (hown : ∀ f, Ow w base 5 1 v 0 f)
    (A : Option Addr) (m c : Nat) (f2 : Nat → Int) (hx : a.eval x = .slice A m c) (hr : By w A m f2) (hsz : m ≤ 140737488355328) (hbase : base ≤ w.heap.size)
    (h : ∀ A' c' w', Ow w' base 5 1 (.slice A' m c') m (fun j => .int .u8 (f2 j)) → m ≤ c' → c' ≤ maxLen → Below base w w' → w.grownBy w' v.ownBlock →
      (∀ g, (Value.slice A' m c').ownBlock = some g → v.ownBlock = some g ∨ g = w.heap.size) → wpList Tryz.prog ops Q rest (a.put o.dst (.slice A' m c')) w') : wpList Tryz.prog ops Q (o :: rest) a w := by
  refine wp_app_b hgd s x ho base v 0 (fun _ => 0) hs (hown _) A m c f2 hx hr (by omega) hbase ?_
  intro A' c' w' h1 h2 h3 h4 h5 h6
  rw [Nat.zero_add] at h1 h2 h6 ⊢
  exact h A' c' w' (h1.as_ fun j _ => by simp) h2 h3 h4 h5 h6

variable {K : Act → World → Prop} {E : Prop}
/-- append of bytes inside a region whose order is open. -/
theorem step_app_b (hgd : o.guard = none) (s x : Operand) (ho : o.op = .call { callee := .builtin .append, args := #[s, x], argTypes := #[164, 164] })
    (base : Nat) (v : Value) (n : Nat) (f : Nat → Int) (hs : a.eval s = v) (hown : Ow w base 5 1 v n (fun j => .int .u8 (f j)))
    (A : Option Addr) (m c : Nat) (f2 : Nat → Int) (hx : a.eval x = .slice A m c) (hr : By w A m f2) (hsz : n + m ≤ 140737488355328) (hbase : base ≤ w.heap.size)
    (h : ∀ A' c' w', Ow w' base 5 1 (.slice A' (n + m) c') (n + m) (fun j => .int .u8 (if j < n then f j else f2 (j - n))) → n + m ≤ c' → c' ≤ maxLen → Below base w w' → w.grownBy w' v.ownBlock →
      (∀ g, (Value.slice A' (n + m) c').ownBlock = some g → v.ownBlock = some g ∨ g = w.heap.size) → K (a.put o.dst (.slice A' (n + m) c')) w') :
    if Region.wanted o (yielded ops a.tmps) = true then Oper.wp Tryz.prog o a w K Q else E := by
  have hw : Region.wanted o (yielded ops a.tmps) = true := by simp [Region.wanted, hgd]
  rw [if_pos hw]
  obtain ⟨i0, hi, hz0, hz1, hz2⟩ := info_parts info_u8
  refine wpo_app w s x 164 ho base 5 i0 (.int .u8 0) 1 1 Tryz.underlying164 hi hz0 hz1 hz2 rfl (by decide) v n _ hs hown A m c (fun j => .int .u8 (f2 j)) hx (by rw [Nat.mul_one]; exact hr) (fun _ _ => rfl) (by simp only [maxLen]; omega) (by omega) hbase ?_
  intro A' c' w' h1 h2 h3 h4 h5 h6
  refine h A' c' w' (h1.as_ fun j _ => ?_) h2 h3 h4 h5 h6
  simp only [two, Nat.mul_one]
  split <;> rfl
theorem step_app_b0 (hgd : o.guard = none) (s x : Operand) (ho : o.op = .call { callee := .builtin .append, args := #[s, x], argTypes := #[164, 164] })
    (base : Nat) (v : Value) (hs : a.eval s = v) (hown : ∀ f, Ow w base 5 1 v 0 f)
    (A : Option Addr) (m c : Nat) (f2 : Nat → Int) (hx : a.eval x = .slice A m c) (hr : By w A m f2) (hsz : m ≤ 140737488355328) (hbase : base ≤ w.heap.size)
    (h : ∀ A' c' w', Ow w' base 5 1 (.slice A' m c') m (fun j => .int .u8 (f2 j)) → m ≤ c' → c' ≤ maxLen → Below base w w' → w.grownBy w' v.ownBlock →
      (∀ g, (Value.slice A' m c').ownBlock = some g → v.ownBlock = some g ∨ g = w.heap.size) → K (a.put o.dst (.slice A' m c')) w') :
    if Region.wanted o (yielded ops a.tmps) = true then Oper.wp Tryz.prog o a w K Q else E := by
  refine step_app_b hgd s x ho base v 0 (fun _ => 0) hs (hown _) A m c f2 hx hr (by omega) hbase ?_
  intro A' c' w' h1 h2 h3 h4 h5 h6
  rw [Nat.zero_add] at h1 h2 h6 ⊢
  exact h A' c' w' (h1.as_ fun j _ => by simp) h2 h3 h4 h5 h6
end

/-- Two bytes stored one behind the other into a row of the call's own. -/
theorem pair_store {w : World} {B G c L : Nat} {f : Nat → Int} (O : Ow w B 5 1 (.slice (some ⟨G, 0, none⟩) L c) L (fun j => .int .u8 (f j))) (i : Nat) (hi : i + 1 < L) :
    w.cell? ⟨G, i, none⟩ = some (.int .u8 (f i)) ∧ w.frozen? ⟨G, i, none⟩ = false ∧ (∀ v, (w.setCell ⟨G, i, none⟩ v).cell? ⟨G, i + 1, none⟩ = some (.int .u8 (f (i + 1)))) ∧ (∀ v, (w.setCell ⟨G, i, none⟩ v).frozen? ⟨G, i + 1, none⟩ = false) ∧
      ∀ x y : Int, Ow ((w.setCell ⟨G, i, none⟩ (.int .u8 x)).setCell ⟨G, i + 1, none⟩ (.int .u8 y)) B 5 1 (.slice (some ⟨G, 0, none⟩) L c) L (fun j => .int .u8 (if j = i + 1 then y else if j = i then x else f j)) ∧
        Below B w ((w.setCell ⟨G, i, none⟩ (.int .u8 x)).setCell ⟨G, i + 1, none⟩ (.int .u8 y)) := by
  obtain ⟨_, e5, hB, _, cell5, fro5⟩ := O.block_ (by omega)
  injection e5 with e5
  injection e5 with e5
  subst e5
  refine ⟨cell5 _ (by omega), fro5 _, fun v => ?_, fun v => ?_, fun x y => ⟨?_, ?_⟩⟩
  · rw [World.cell?_setCell_other _ _ _ _ (by intro e; injection e; omega)]
    exact cell5 _ (by omega)
  · obtain ⟨_, e6, _, _, _, fro6⟩ := (O.store_ i v).block_ (by omega)
    injection e6 with e6
    injection e6 with e6
    subst e6
    exact fro6 _
  · refine ((O.store_ i (.int .u8 x)).store_ (i + 1) (.int .u8 y)).as_ fun j _ => ?_
    simp only [put1]
    split
    · rfl
    · split <;> rfl
  · exact ((Below.refl B w).setCell hB _).setCell hB _

/-- The text of the first n bytes. -/
def bstr (g : Nat → Int) (n : Nat) : ByteArray := ((List.range n).map g).foldl (fun r z => r.push (UInt8.ofNat z.toNat)) ByteArray.empty
theorem bstr_ext {g g' : Nat → Int} {n : Nat} (h : ∀ j, j < n → g j = g' j) : bstr g n = bstr g' n := by
  unfold bstr
  rw [List.map_congr_left (fun j hj => h j (by simpa using hj))]
theorem conv_str {w : World} {A : Option Addr} {n : Nat} (c : Nat) {g : Nat → Int} (h : By w A n g) : (convert 164 9 (.slice A n c)).run Tryz.prog w = .ok (.string (bstr g n)) w := by
  rw [run_convert_bytes_string w 164 9 5 A n c Tryz.underlying164 Tryz.underlying5 Tryz.underlying9]
  rcases Nat.eq_zero_or_pos n with h0 | h0
  · subst h0
    rcases A with _ | ad
    · rfl
    · exact run_bytesToString w ad 0 c [] (run_loadCells w ad 0 (fun _ => undef) (fun j hj => absurd hj (by omega)))
  · obtain ⟨b, off, rfl, hb, hc⟩ := h h0
    refine run_bytesToString w _ n c _ ?_
    rw [run_loadCells w _ n (fun j => .int .u8 (g j)) (fun j hj => by rw [add_plain]; exact hc j hj), List.map_map]
    rfl
end Go.Proofs.YteefhiniamajkaaGreat
namespace Go.Proofs.YteefhiniamajkaaGreat
set_option linter.unusedVariables false
open Go.RowKit Go.ChangeShapes Go.WideShapes Go.ChangeAt

theorem rot13 (x : Int) (hx : U x) (w : World) : Calls Tryz.prog 108 #[.int .u64 x, .int .i64 13] w fun e w' => e = .returned (.int .u64 (rot x 8192 2251799813685248)) ∧ w = w' := by
  unfold U at hx
  have hk : bits .and .u64 13 63 = 13 := by decide
  go_enter Tryz.func108, Tryz.ntmps108
  go_wp2
  go_ret
  exact ⟨rfl, rfl⟩
theorem rot16 (x : Int) (hx : U x) (w : World) : Calls Tryz.prog 108 #[.int .u64 x, .int .i64 16] w fun e w' => e = .returned (.int .u64 (rot x 65536 281474976710656)) ∧ w = w' := by
  unfold U at hx
  have hk : bits .and .u64 16 63 = 16 := by decide
  go_enter Tryz.func108, Tryz.ntmps108
  go_wp2
  go_ret
  exact ⟨rfl, rfl⟩
theorem rot17 (x : Int) (hx : U x) (w : World) : Calls Tryz.prog 108 #[.int .u64 x, .int .i64 17] w fun e w' => e = .returned (.int .u64 (rot x 131072 140737488355328)) ∧ w = w' := by
  unfold U at hx
  have hk : bits .and .u64 17 63 = 17 := by decide
  go_enter Tryz.func108, Tryz.ntmps108
  go_wp2
  go_ret
  exact ⟨rfl, rfl⟩
theorem rot21 (x : Int) (hx : U x) (w : World) : Calls Tryz.prog 108 #[.int .u64 x, .int .i64 21] w fun e w' => e = .returned (.int .u64 (rot x 2097152 8796093022208)) ∧ w = w' := by
  unfold U at hx
  have hk : bits .and .u64 21 63 = 21 := by decide
  go_enter Tryz.func108, Tryz.ntmps108
  go_wp2
  go_ret
  exact ⟨rfl, rfl⟩
theorem rot32 (x : Int) (hx : U x) (w : World) : Calls Tryz.prog 108 #[.int .u64 x, .int .i64 32] w fun e w' => e = .returned (.int .u64 (rot x 4294967296 4294967296)) ∧ w = w' := by
  unfold U at hx
  have hk : bits .and .u64 32 63 = 32 := by decide
  go_enter Tryz.func108, Tryz.ntmps108
  go_wp2
  go_ret
  exact ⟨rfl, rfl⟩
set_option maxRecDepth 100000 in
set_option maxHeartbeats 4000000 in
theorem round_any (g : Nat) (v : V4) (w : World) (hS : St w g v) (hU : v.U) : Calls Tryz.prog 106 #[.pointer (some ⟨g, 0, none⟩)] w fun e w' => e = .returned (.tuple #[]) ∧ Onl g w w' ∧ St w' g (rnd v) := by
  have hO0 := Onl.refl_ g w
  obtain ⟨ca, cb, cc, cd, fa, fb, fc, fd⟩ := hS
  have hS0 : St w g v := ⟨ca, cb, cc, cd, fa, fb, fc, fd⟩
  go_enter Tryz.func106, Tryz.ntmps106
  go_upto_region 0 with fail
  go_cut [] (fun wx => Onl g w wx ∧ St wx g (v.s0))
  case first =>
    go_region
    all_goals
      go_wp2_with fail
      go_meet
      exact ⟨by repeat (first | with_reducible exact hO0 | with_reducible refine Onl.setCell ?_ _ _ | with_reducible refine Onl.drew ?_), by first | exact hS0.seta _ | exact hS0.drew.seta _ | exact hS0.drew.drew.seta _ | exact hS0.drew.drew.drew.seta _⟩
  case rest =>
  clear ca cb cc cd fa fb fc fd
  obtain ⟨hO1, hS1⟩ := hcut
  generalize wc = w1 at *
  obtain ⟨ca, cb, cc, cd, fa, fb, fc, fd⟩ := hS1
  have hS1 : St w1 g (v.s0) := ⟨ca, cb, cc, cd, fa, fb, fc, fd⟩
  clear hO0 hS0
  go_upto_region 1 with fail
  go_cut [] (fun wx => Onl g w wx ∧ St wx g (v.s0.s1))
  case first =>
    go_region_with (go_at_call 108; refine (rot13 _ ((V4.U0 (hU)).2.1) _).mono ?_; rintro e w' ⟨rfl, rfl⟩)
    all_goals
      go_wp2_with fail
      go_meet
      exact ⟨by repeat (first | with_reducible exact hO1 | with_reducible refine Onl.setCell ?_ _ _ | with_reducible refine Onl.drew ?_), by first | exact hS1.setb _ | exact hS1.drew.setb _ | exact hS1.drew.drew.setb _ | exact hS1.drew.drew.drew.setb _⟩
  case rest =>
  clear ca cb cc cd fa fb fc fd
  obtain ⟨hO2, hS2⟩ := hcut
  generalize wc = w2 at *
  obtain ⟨ca, cb, cc, cd, fa, fb, fc, fd⟩ := hS2
  have hS2 : St w2 g (v.s0.s1) := ⟨ca, cb, cc, cd, fa, fb, fc, fd⟩
  clear hO1 hS1
  go_upto_region 2 with fail
  go_cut [] (fun wx => Onl g w wx ∧ St wx g (v.s0.s1.s2))
  case first =>
    go_wp2_with (go_at_call 108; refine (rot32 _ ((V4.U1 (V4.U0 (hU))).1) _).mono ?_; rintro e w' ⟨rfl, rfl⟩)
    all_goals
      go_wp2_with fail
      go_meet
      exact ⟨by repeat (first | with_reducible exact hO2 | with_reducible refine Onl.setCell ?_ _ _ | with_reducible refine Onl.drew ?_), by first | exact hS2.seta _ | exact hS2.drew.seta _ | exact hS2.drew.drew.seta _ | exact hS2.drew.drew.drew.seta _⟩
  case rest =>
  clear ca cb cc cd fa fb fc fd
  obtain ⟨hO3, hS3⟩ := hcut
  generalize wc = w3 at *
  obtain ⟨ca, cb, cc, cd, fa, fb, fc, fd⟩ := hS3
  have hS3 : St w3 g (v.s0.s1.s2) := ⟨ca, cb, cc, cd, fa, fb, fc, fd⟩
  clear hO2 hS2
  go_upto_region 3 with fail
  go_cut [] (fun wx => Onl g w wx ∧ St wx g (v.s0.s1.s2.s3))
  case first =>
    go_region
    all_goals
      go_wp2_with fail
      go_meet
      exact ⟨by repeat (first | with_reducible exact hO3 | with_reducible refine Onl.setCell ?_ _ _ | with_reducible refine Onl.drew ?_), by first | exact hS3.setc _ | exact hS3.drew.setc _ | exact hS3.drew.drew.setc _ | exact hS3.drew.drew.drew.setc _⟩
  case rest =>
  clear ca cb cc cd fa fb fc fd
  obtain ⟨hO4, hS4⟩ := hcut
  generalize wc = w4 at *
  obtain ⟨ca, cb, cc, cd, fa, fb, fc, fd⟩ := hS4
  have hS4 : St w4 g (v.s0.s1.s2.s3) := ⟨ca, cb, cc, cd, fa, fb, fc, fd⟩
  clear hO3 hS3
  go_upto_region 4 with fail
  go_cut [] (fun wx => Onl g w wx ∧ St wx g (v.s0.s1.s2.s3.s4))
  case first =>
    go_region_with (go_at_call 108; refine (rot16 _ ((V4.U3 (V4.U2 (V4.U1 (V4.U0 (hU))))).2.2.2) _).mono ?_; rintro e w' ⟨rfl, rfl⟩)
    all_goals
      go_wp2_with fail
      go_meet
      exact ⟨by repeat (first | with_reducible exact hO4 | with_reducible refine Onl.setCell ?_ _ _ | with_reducible refine Onl.drew ?_), by first | exact hS4.setd _ | exact hS4.drew.setd _ | exact hS4.drew.drew.setd _ | exact hS4.drew.drew.drew.setd _⟩
  case rest =>
  clear ca cb cc cd fa fb fc fd
  obtain ⟨hO5, hS5⟩ := hcut
  generalize wc = w5 at *
  obtain ⟨ca, cb, cc, cd, fa, fb, fc, fd⟩ := hS5
  have hS5 : St w5 g (v.s0.s1.s2.s3.s4) := ⟨ca, cb, cc, cd, fa, fb, fc, fd⟩
  clear hO4 hS4
  go_upto_region 5 with fail
  go_cut [] (fun wx => Onl g w wx ∧ St wx g (v.s0.s1.s2.s3.s4.s5))
  case first =>
    go_region
    all_goals
      go_wp2_with fail
      go_meet
      exact ⟨by repeat (first | with_reducible exact hO5 | with_reducible refine Onl.setCell ?_ _ _ | with_reducible refine Onl.drew ?_), by first | exact hS5.seta _ | exact hS5.drew.seta _ | exact hS5.drew.drew.seta _ | exact hS5.drew.drew.drew.seta _⟩
  case rest =>
  clear ca cb cc cd fa fb fc fd
  obtain ⟨hO6, hS6⟩ := hcut
  generalize wc = w6 at *
  obtain ⟨ca, cb, cc, cd, fa, fb, fc, fd⟩ := hS6
  have hS6 : St w6 g (v.s0.s1.s2.s3.s4.s5) := ⟨ca, cb, cc, cd, fa, fb, fc, fd⟩
  clear hO5 hS5
  go_upto_region 6 with fail
  go_cut [] (fun wx => Onl g w wx ∧ St wx g (v.s0.s1.s2.s3.s4.s5.s6))
  case first =>
    go_region_with (go_at_call 108; refine (rot21 _ ((V4.U5 (V4.U4 (V4.U3 (V4.U2 (V4.U1 (V4.U0 (hU))))))).2.2.2) _).mono ?_; rintro e w' ⟨rfl, rfl⟩)
    all_goals
      go_wp2_with fail
      go_meet
      exact ⟨by repeat (first | with_reducible exact hO6 | with_reducible refine Onl.setCell ?_ _ _ | with_reducible refine Onl.drew ?_), by first | exact hS6.setd _ | exact hS6.drew.setd _ | exact hS6.drew.drew.setd _ | exact hS6.drew.drew.drew.setd _⟩
  case rest =>
  clear ca cb cc cd fa fb fc fd
  obtain ⟨hO7, hS7⟩ := hcut
  generalize wc = w7 at *
  obtain ⟨ca, cb, cc, cd, fa, fb, fc, fd⟩ := hS7
  have hS7 : St w7 g (v.s0.s1.s2.s3.s4.s5.s6) := ⟨ca, cb, cc, cd, fa, fb, fc, fd⟩
  clear hO6 hS6
  go_upto_region 7 with fail
  go_cut [] (fun wx => Onl g w wx ∧ St wx g (v.s0.s1.s2.s3.s4.s5.s6.s7))
  case first =>
    go_region
    all_goals
      go_wp2_with fail
      go_meet
      exact ⟨by repeat (first | with_reducible exact hO7 | with_reducible refine Onl.setCell ?_ _ _ | with_reducible refine Onl.drew ?_), by first | exact hS7.setc _ | exact hS7.drew.setc _ | exact hS7.drew.drew.setc _ | exact hS7.drew.drew.drew.setc _⟩
  case rest =>
  clear ca cb cc cd fa fb fc fd
  obtain ⟨hO8, hS8⟩ := hcut
  generalize wc = w8 at *
  obtain ⟨ca, cb, cc, cd, fa, fb, fc, fd⟩ := hS8
  have hS8 : St w8 g (v.s0.s1.s2.s3.s4.s5.s6.s7) := ⟨ca, cb, cc, cd, fa, fb, fc, fd⟩
  clear hO7 hS7
  go_upto_region 8 with fail
  go_cut [] (fun wx => Onl g w wx ∧ St wx g (v.s0.s1.s2.s3.s4.s5.s6.s7.s8))
  case first =>
    go_region_with (go_at_call 108; refine (rot17 _ ((V4.U7 (V4.U6 (V4.U5 (V4.U4 (V4.U3 (V4.U2 (V4.U1 (V4.U0 (hU))))))))).2.1) _).mono ?_; rintro e w' ⟨rfl, rfl⟩)
    all_goals
      go_wp2_with fail
      go_meet
      exact ⟨by repeat (first | with_reducible exact hO8 | with_reducible refine Onl.setCell ?_ _ _ | with_reducible refine Onl.drew ?_), by first | exact hS8.setb _ | exact hS8.drew.setb _ | exact hS8.drew.drew.setb _ | exact hS8.drew.drew.drew.setb _⟩
  case rest =>
  clear ca cb cc cd fa fb fc fd
  obtain ⟨hO9, hS9⟩ := hcut
  generalize wc = w9 at *
  obtain ⟨ca, cb, cc, cd, fa, fb, fc, fd⟩ := hS9
  have hS9 : St w9 g (v.s0.s1.s2.s3.s4.s5.s6.s7.s8) := ⟨ca, cb, cc, cd, fa, fb, fc, fd⟩
  clear hO8 hS8
  go_wp2_with (go_at_call 108; refine (rot32 _ ((V4.U8 (V4.U7 (V4.U6 (V4.U5 (V4.U4 (V4.U3 (V4.U2 (V4.U1 (V4.U0 (hU)))))))))).2.2.1) _).mono ?_; rintro e w' ⟨rfl, rfl⟩)
  go_end0
  refine ⟨rfl, ?_, ?_⟩
  · repeat (first | with_reducible exact hO9 | with_reducible refine Onl.setCell ?_ _ _ | with_reducible refine Onl.drew ?_)
  · first | exact hS9.setc _ | exact hS9.drew.setc _
end Go.Proofs.YteefhiniamajkaaGreat
namespace Go.Proofs.YteefhiniamajkaaGreat
set_option linter.unusedVariables false
open Go.RowKit Go.ChangeShapes Go.WideShapes Go.ChangeAt

set_option maxRecDepth 100000 in
theorem take_u64 (g : Nat) (v : V4) (A : Option Addr) (n c : Nat) (f : Nat → Int) (w : World) (hS : St w g v) (hU : v.U) (h : Sl w A n (fun j => .int .u64 (f j))) (hf : ∀ j, U (f j)) (hA : ∀ ad, A = some ad → 0 < n → ad.block ≠ g) (hn : n ≤ 140737488355328) :
    Calls Tryz.prog 107 #[.pointer (some ⟨g, 0, none⟩), .slice A n c] w fun e w' => e = .returned (.tuple #[]) ∧ Onl g w w' ∧ St w' g (eats f n v) := by
  have hO := Onl.refl_ g w
  go_enter Tryz.func107, Tryz.ntmps107
  go_wp2_with fail
  go_loopw [5, 8] (fun _ i wr => ∃ k : Nat, k ≤ n ∧ i = .int .i64 k ∧ Onl g w wr ∧ St wr g (eats f k v)) (fun _ i _ => n - (intOf i).toNat)
  case atStart => exact ⟨0, by omega, rfl, hO, hS⟩
  case round =>
    obtain ⟨k, hk, rfl, hO1, hS1⟩ := hrel
    have hU1 := eats_U (f := f) hU k
    have hE : Hid (eats f (k + 1) v = eat (eats f k v) (f k)) := rfl
    clear hO hS
    by_cases hlt : k < n
    · generalize eats f k v = v1 at *
      obtain ⟨b, off, rfl, _, hc⟩ := hO1.sl h hA (by omega)
      have c0 : wr.cell? ⟨b, off + k, none⟩ = some (.int .u64 (f k)) := hc _ hlt
      have i1 : (k : Int) < n := by omega
      have hfk := hf k
      have hS2 := hS1
      obtain ⟨ca, cb, cc, cd, fa, fb, fc, fd⟩ := hS1
      clear hc h ca cb cc fa fb fc
      go_wp2_with fail
      refine (round_any g { v1 with d := xo v1.d (f k) } _ (hS2.setd _) ⟨hU1.1, hU1.2.1, hU1.2.2.1, U_xo _ _⟩).mono ?_
      rintro e w1 ⟨rfl, hO3, hS3⟩
      have hU3 := rnd_U (v := { v1 with d := xo v1.d (f k) }) ⟨hU1.1, hU1.2.1, hU1.2.2.1, U_xo _ _⟩
      go_wp2_with fail
      refine (round_any g _ _ hS3 hU3).mono ?_
      rintro e w2 ⟨rfl, hO4, hS4⟩
      have hO5 := ((hO1.setCell 3 _).trans hO3).trans hO4
      have hS5 := hS4
      obtain ⟨ca, cb, cc, cd', fa, fb, fc, fd'⟩ := hS4
      clear cb cc cd' fb fc fd' cd fd hO3 hO4 hS3 hS2
      go_wp2_with fail
      go_roundw
      case rel => exact ⟨k + 1, by omega, by go_num, hO5.setCell 0 _, by rw [hE.out]; exact hS5.seta _⟩
      case measure => simp [intOf]; omega
    · have e : k = n := by omega
      subst e
      have i1 : ¬ (k : Int) < k := by omega
      have hS2 := hid hS1
      have hO2 := hid hO1
      clear hS1 hO1 hE
      go_wp2_with fail
      go_end0
      exact ⟨rfl, hO2.out, hS2.out⟩

set_option maxRecDepth 100000 in
theorem take_int (g : Nat) (v : V4) (A : Option Addr) (n c : Nat) (f : Nat → Int) (w : World) (hS : St w g v) (hU : v.U) (h : Sl w A n (fun j => .int .i64 (f j))) (hf : ∀ j, (-9223372036854775808 ≤ f j ∧ f j ≤ 9223372036854775807)) (hA : ∀ ad, A = some ad → 0 < n → ad.block ≠ g) (hn : n ≤ 140737488355328) :
    Calls Tryz.prog 104 #[.pointer (some ⟨g, 0, none⟩), .slice A n c] w fun e w' => e = .returned (.tuple #[]) ∧ Onl g w w' ∧ St w' g (eats (fun j => IntKind.u64.wrap (f j)) n v) := by
  have hO := Onl.refl_ g w
  go_enter Tryz.func104, Tryz.ntmps104
  go_wp2_with fail
  go_loopw [5, 8] (fun _ i wr => ∃ k : Nat, k ≤ n ∧ i = .int .i64 k ∧ Onl g w wr ∧ St wr g (eats (fun j => IntKind.u64.wrap (f j)) k v)) (fun _ i _ => n - (intOf i).toNat)
  case atStart => exact ⟨0, by omega, rfl, hO, hS⟩
  case round =>
    obtain ⟨k, hk, rfl, hO1, hS1⟩ := hrel
    have hU1 := eats_U (f := (fun j => IntKind.u64.wrap (f j))) hU k
    have hE : Hid (eats (fun j => IntKind.u64.wrap (f j)) (k + 1) v = eat (eats (fun j => IntKind.u64.wrap (f j)) k v) (IntKind.u64.wrap (f k))) := rfl
    clear hO hS
    by_cases hlt : k < n
    · generalize eats (fun j => IntKind.u64.wrap (f j)) k v = v1 at *
      obtain ⟨b, off, rfl, _, hc⟩ := hO1.sl h hA (by omega)
      have c0 : wr.cell? ⟨b, off + k, none⟩ = some (.int .i64 (f k)) := hc _ hlt
      have i1 : (k : Int) < n := by omega
      have hfk := hf k
      have hS2 := hS1
      obtain ⟨ca, cb, cc, cd, fa, fb, fc, fd⟩ := hS1
      clear hc h ca cb cc fa fb fc
      go_wp2_with fail
      refine (round_any g { v1 with d := xo v1.d (IntKind.u64.wrap (f k)) } _ (hS2.setd _) ⟨hU1.1, hU1.2.1, hU1.2.2.1, U_xo _ _⟩).mono ?_
      rintro e w1 ⟨rfl, hO3, hS3⟩
      have hU3 := rnd_U (v := { v1 with d := xo v1.d (IntKind.u64.wrap (f k)) }) ⟨hU1.1, hU1.2.1, hU1.2.2.1, U_xo _ _⟩
      go_wp2_with fail
      refine (round_any g _ _ hS3 hU3).mono ?_
      rintro e w2 ⟨rfl, hO4, hS4⟩
      have hO5 := ((hO1.setCell 3 _).trans hO3).trans hO4
      have hS5 := hS4
      obtain ⟨ca, cb, cc, cd', fa, fb, fc, fd'⟩ := hS4
      clear cb cc cd' fb fc fd' cd fd hO3 hO4 hS3 hS2
      go_wp2_with fail
      go_roundw
      case rel => exact ⟨k + 1, by omega, by go_num, hO5.setCell 0 _, by rw [hE.out]; exact hS5.seta _⟩
      case measure => simp [intOf]; omega
    · have e : k = n := by omega
      subst e
      have i1 : ¬ (k : Int) < k := by omega
      have hS2 := hid hS1
      have hO2 := hid hO1
      clear hS1 hO1 hE
      go_wp2_with fail
      go_end0
      exact ⟨rfl, hO2.out, hS2.out⟩

end Go.Proofs.YteefhiniamajkaaGreat
namespace Go.Proofs.YteefhiniamajkaaGreat
set_option linter.unusedVariables false
open Go.RowKit Go.ChangeShapes Go.WideShapes Go.ChangeAt

theorem ret_u64 {a b : Int} (h : a = b) : Ending.returned (.int .u64 a) = .returned (.int .u64 b) := by rw [h]

theorem start_any (a b : Int) (w : World) : Calls Tryz.prog 103 #[.agg #[.int .u64 a, .int .u64 b]] w fun e w' => e = .returned (.agg #[.int .u64 (strt a b).a, .int .u64 (strt a b).b, .int .u64 (strt a b).c, .int .u64 (strt a b).d]) ∧ Below w.heap.size w w' := by
  go_enter Tryz.func103, Tryz.ntmps103
  go_wp2_with fail
  refine bodyPost_ret (v := .agg #[.int .u64 (strt a b).a, .int .u64 (strt a b).b, .int .u64 (strt a b).c, .int .u64 (strt a b).d]) (by simp [results, Tryz.results103, go_sem]; exact ⟨rfl, rfl, rfl, rfl⟩) rfl ⟨rfl, ?_⟩
  repeat' (first | with_reducible exact Below.refl _ _ | with_reducible refine Below.alloc ?_ ?_ _ | with_reducible refine Below.setCell ?_ ?_ _ | (simp; done) | (simp; omega))

def rndk : Nat → V4 → V4
  | 0, v => v
  | k + 1, v => rnd (rndk k v)
theorem rndk_U {v : V4} (h : v.U) : ∀ k, (rndk k v).U
  | 0 => h
  | k + 1 => rnd_U (rndk_U h k)

set_option maxRecDepth 100000 in
theorem end_any (g : Nat) (v : V4) (l : Int) (n : Int) (w : World) (hS : St w g v) (hU : v.U) (hn : 0 ≤ n) (hn' : n ≤ 1125899906842624) :
    Calls Tryz.prog 105 #[.pointer (some ⟨g, 0, none⟩), .int .u64 l, .int .i64 n] w fun e w' => e = .returned (.int .u64 (fin4 (eat v (bits .or .u64 l (IntKind.u64.wrap (n * 72057594037927936)))))) ∧ Onl g w w' := by
  have hg := hS.lt
  obtain ⟨m, hm⟩ : ∃ m, m = bits .or .u64 l (IntKind.u64.wrap (n * 72057594037927936)) := ⟨_, rfl⟩
  have hmU : U m := by rw [hm]; exact U_bits _ _ _
  go_enter Tryz.func105, Tryz.ntmps105
  go_wp2_with fail
  rw [← hm]
  have HM := hid hm
  clear hm
  have hw1 : Onl g w (w.alloc (.cells #[.int .u64 m] 27)) := Onl.of_below ((Below.refl _ _).alloc (Nat.le_refl _) _)
  refine (take_u64 g v _ 1 1 (fun j => [m].getD j 0) _ (hS.below ((Below.refl w.heap.size w).alloc (Nat.le_refl _) _) hg) hU (by exact row_at .u64 [m] rfl) (fun j => ?_) (fun ad e _ => ?_) (by omega)).mono ?_
  · rcases j with _ | j
    · exact hmU
    · exact ⟨by simp, by simp⟩
  · injection e with e
    subst e
    simp only
    omega
  rintro e w1 ⟨rfl, hO1, hS1⟩
  have hS2 : St w1 g (eat v m) := hS1
  have hU2 := eat_U hU m
  have hO2 := hw1.trans hO1
  clear hO1 hw1 hS hS1
  obtain ⟨ca, cb, cc, cd, fa, fb, fc, fd⟩ := hS2
  have hS2 : St w1 g (eat v m) := ⟨ca, cb, cc, cd, fa, fb, fc, fd⟩
  clear ca cb cd fa fb fd
  go_wp2_with fail
  go_loopw [22] (fun i wr => ∃ k : Nat, k ≤ 4 ∧ i = .int .i64 k ∧ Onl g w wr ∧ St wr g (rndk k { eat v m with c := xo (eat v m).c 255 })) (fun i _ => 4 - (intOf i).toNat)
  case atStart => exact ⟨0, by omega, rfl, hO2.setCell 2 _, hS2.setc _⟩
  case round =>
    obtain ⟨k, hk, rfl, hO3, hS3⟩ := hrel
    have hU3 : (rndk k { eat v m with c := xo (eat v m).c 255 }).U := rndk_U (v := { eat v m with c := xo (eat v m).c 255 }) ⟨hU2.1, hU2.2.1, U_xo _ _, hU2.2.2.2⟩ k
    clear hO2 hS2 cc fc
    by_cases hlt : k < 4
    · have i1 : (k : Int) < 4 := by omega
      go_wp2_with fail
      refine (round_any g _ _ hS3 hU3).mono ?_
      rintro e w3 ⟨rfl, hO4, hS4⟩
      go_wp2_with fail
      go_roundw
      case rel => exact ⟨k + 1, by omega, by go_num, hO3.trans hO4, hS4⟩
      case measure => simp [intOf]; omega
    · have e : k = 4 := by omega
      subst e
      have hS5 : St wr g (last4 (eat v m)) := hS3
      clear hS3 hU3
      obtain ⟨ca, cb, cc, cd, fa, fb, fc, fd⟩ := hS5
      clear fa fb fc fd
      have i1 : ¬ ((4 : Nat) : Int) < 4 := by omega
      go_wp2_with fail
      go_quiet (fail)
      go_wp2
      go_ret
      exact ⟨ret_u64 (show xo (xo (xo (last4 (eat v m)).a (last4 (eat v m)).b) (last4 (eat v m)).c) (last4 (eat v m)).d = _ by rw [← HM.out]; rfl), hO3.drewN _⟩

/-- The sum of n bytes, by the key a, b. -/
def sumB (a b : Int) (f : Nat → Int) (n : Nat) : Int :=
  fin4 (eat (eats (fun i => num (fun j => f (8 * i + j)) 8) (n / 8) (strt a b)) (bits .or .u64 (num (fun j => f (8 * (n / 8) + j)) (n % 8)) (IntKind.u64.wrap ((n : Int) * 72057594037927936))))
/-- The sum of n numbers. -/
def sumW (a b : Int) (f : Nat → Int) (n : Nat) : Int :=
  fin4 (eat (eats (fun j => IntKind.u64.wrap (f j)) n (strt a b)) (bits .or .u64 0 (IntKind.u64.wrap (8 * (n : Int) * 72057594037927936))))

theorem St.made {w : World} {T : TypeId} {v : V4} {g : Nat} (hg : w.heap.size = g) : St (w.alloc (.cells #[.int .u64 v.a, .int .u64 v.b, .int .u64 v.c, .int .u64 v.d] T)) g v := by
  subst hg
  have h := heap_alloc_new w (.cells #[.int .u64 v.a, .int .u64 v.b, .int .u64 v.c, .int .u64 v.d] T)
  exact ⟨by rw [cell_of_row _ _ _ _ _ _ h]; rfl, by rw [cell_of_row _ _ _ _ _ _ h]; rfl, by rw [cell_of_row _ _ _ _ _ _ h]; rfl, by rw [cell_of_row _ _ _ _ _ _ h]; rfl,
    frozen_of_row _ _ _ _ _ h, frozen_of_row _ _ _ _ _ h, frozen_of_row _ _ _ _ _ h, frozen_of_row _ _ _ _ _ h⟩

theorem words_any (a b : Int) (A : Option Addr) (n c : Nat) (f : Nat → Int) (w : World) (h : Is w A n f) (hf : IsI f) (hn : n ≤ 140737488355328) :
    Calls Tryz.prog 102 #[.agg #[.int .u64 a, .int .u64 b], .slice A n c] w fun e w' => e = .returned (.int .u64 (sumW a b f n)) ∧ Below w.heap.size w w' := by
  go_enter Tryz.func102, Tryz.ntmps102
  go_wp2_with fail
  refine (start_any a b _).mono ?_
  rintro e w1 ⟨rfl, hb1⟩
  go_wp2_with fail
  have hb1 := ((Below.refl w.heap.size w).alloc (Nat.le_refl _) (.cells #[.int .u64 a, .int .u64 b] 29)).trans (hb1.mono (by simp))
  have hS := St.made (w := w1) (T := 184) (v := strt a b) (g := w1.heap.size) rfl
  have hb2 : Below w.heap.size w (w1.alloc (.cells #[.int .u64 (strt a b).a, .int .u64 (strt a b).b, .int .u64 (strt a b).c, .int .u64 (strt a b).d] 184)) := hb1.alloc hb1.size _
  have hs := h.below hb2 (Nat.le_refl _)
  have hz := hb1.size
  refine (take_int w1.heap.size (strt a b) A n c f _ hS (strt_U a b) hs hf (fun ad e h0 => ?_) hn).mono ?_
  · obtain ⟨b', off, e', hlt, _⟩ := h h0
    rw [e] at e'
    injection e' with e'
    subst e'
    simp only
    omega
  rintro e w2 ⟨rfl, hO2, hS2⟩
  have hU2 := eats_U (f := fun j => IntKind.u64.wrap (f j)) (strt_U a b) n
  have hb3 := hb2.trans (hO2.below hz (by simp; omega))
  clear hS hs h
  go_wp2_with fail
  refine (end_any w1.heap.size _ 0 (8 * (n : Int)) _ hS2 hU2 (by omega) (by omega)).mono ?_
  rintro e w3 ⟨rfl, hO3⟩
  have hb4 := hb3.trans (hO3.below hz hb3.size)
  go_wp2
  go_ret
  exact ⟨rfl, hb4⟩

theorem sumB_at (a b : Int) (f : Nat → Int) (n p L : Nat) (h : 8 * p + L = n) (hL : L < 8) :
    fin4 (eat (eats (fun i => num (fun j => f (8 * i + j)) 8) p (strt a b)) (bits .or .u64 (num (fun j => f (8 * p + j)) L) (IntKind.u64.wrap ((n : Int) * 72057594037927936)))) = sumB a b f n := by
  have h1 : n / 8 = p := by omega
  have h2 : n % 8 = L := by omega
  unfold sumB
  rw [h1, h2]

end Go.Proofs.YteefhiniamajkaaGreat
namespace Go.Proofs.YteefhiniamajkaaGreat
set_option linter.unusedVariables false
open Go.RowKit Go.ChangeShapes Go.WideShapes Go.ChangeAt

theorem rrot13 (x : Int) (hx : U x) (w : World) : Calls Tryz.prog 99 #[.int .u64 x, .int .u64 13] w fun e w' => e = .returned (.int .u64 (rot x 8192 2251799813685248)) ∧ w = w' := by
  unfold U at hx
  go_enter Tryz.func99, Tryz.ntmps99
  go_wp2
  go_ret
  exact ⟨rfl, rfl⟩
theorem rrot16 (x : Int) (hx : U x) (w : World) : Calls Tryz.prog 99 #[.int .u64 x, .int .u64 16] w fun e w' => e = .returned (.int .u64 (rot x 65536 281474976710656)) ∧ w = w' := by
  unfold U at hx
  go_enter Tryz.func99, Tryz.ntmps99
  go_wp2
  go_ret
  exact ⟨rfl, rfl⟩
theorem rrot17 (x : Int) (hx : U x) (w : World) : Calls Tryz.prog 99 #[.int .u64 x, .int .u64 17] w fun e w' => e = .returned (.int .u64 (rot x 131072 140737488355328)) ∧ w = w' := by
  unfold U at hx
  go_enter Tryz.func99, Tryz.ntmps99
  go_wp2
  go_ret
  exact ⟨rfl, rfl⟩
theorem rrot21 (x : Int) (hx : U x) (w : World) : Calls Tryz.prog 99 #[.int .u64 x, .int .u64 21] w fun e w' => e = .returned (.int .u64 (rot x 2097152 8796093022208)) ∧ w = w' := by
  unfold U at hx
  go_enter Tryz.func99, Tryz.ntmps99
  go_wp2
  go_ret
  exact ⟨rfl, rfl⟩
theorem rrot32 (x : Int) (hx : U x) (w : World) : Calls Tryz.prog 99 #[.int .u64 x, .int .u64 32] w fun e w' => e = .returned (.int .u64 (rot x 4294967296 4294967296)) ∧ w = w' := by
  unfold U at hx
  go_enter Tryz.func99, Tryz.ntmps99
  go_wp2
  go_ret
  exact ⟨rfl, rfl⟩
set_option maxRecDepth 100000 in
set_option maxHeartbeats 4000000 in
theorem rround_any (g : Nat) (v : V4) (w : World) (hS : St w g v) (hU : v.U) : Calls Tryz.prog 95 #[.pointer (some ⟨g, 0, none⟩)] w fun e w' => e = .returned (.tuple #[]) ∧ Onl g w w' ∧ St w' g (rnd v) := by
  have hO0 := Onl.refl_ g w
  obtain ⟨ca, cb, cc, cd, fa, fb, fc, fd⟩ := hS
  have hS0 : St w g v := ⟨ca, cb, cc, cd, fa, fb, fc, fd⟩
  go_enter Tryz.func95, Tryz.ntmps95
  go_upto_region 0 with fail
  go_cut [] (fun wx => Onl g w wx ∧ St wx g (v.s0))
  case first =>
    go_region
    all_goals
      go_wp2_with fail
      go_meet
      exact ⟨by repeat (first | with_reducible exact hO0 | with_reducible refine Onl.setCell ?_ _ _ | with_reducible refine Onl.drew ?_), by first | exact hS0.seta _ | exact hS0.drew.seta _ | exact hS0.drew.drew.seta _ | exact hS0.drew.drew.drew.seta _⟩
  case rest =>
  clear ca cb cc cd fa fb fc fd
  obtain ⟨hO1, hS1⟩ := hcut
  generalize wc = w1 at *
  obtain ⟨ca, cb, cc, cd, fa, fb, fc, fd⟩ := hS1
  have hS1 : St w1 g (v.s0) := ⟨ca, cb, cc, cd, fa, fb, fc, fd⟩
  clear hO0 hS0
  go_upto_region 1 with fail
  go_cut [] (fun wx => Onl g w wx ∧ St wx g (v.s0.s1))
  case first =>
    go_region_with (go_at_call 99; refine (rrot13 _ ((V4.U0 (hU)).2.1) _).mono ?_; rintro e w' ⟨rfl, rfl⟩)
    all_goals
      go_wp2_with fail
      go_meet
      exact ⟨by repeat (first | with_reducible exact hO1 | with_reducible refine Onl.setCell ?_ _ _ | with_reducible refine Onl.drew ?_), by first | exact hS1.setb _ | exact hS1.drew.setb _ | exact hS1.drew.drew.setb _ | exact hS1.drew.drew.drew.setb _⟩
  case rest =>
  clear ca cb cc cd fa fb fc fd
  obtain ⟨hO2, hS2⟩ := hcut
  generalize wc = w2 at *
  obtain ⟨ca, cb, cc, cd, fa, fb, fc, fd⟩ := hS2
  have hS2 : St w2 g (v.s0.s1) := ⟨ca, cb, cc, cd, fa, fb, fc, fd⟩
  clear hO1 hS1
  go_upto_region 2 with fail
  go_cut [] (fun wx => Onl g w wx ∧ St wx g (v.s0.s1.s2))
  case first =>
    go_wp2_with (go_at_call 99; refine (rrot32 _ ((V4.U1 (V4.U0 (hU))).1) _).mono ?_; rintro e w' ⟨rfl, rfl⟩)
    all_goals
      go_wp2_with fail
      go_meet
      exact ⟨by repeat (first | with_reducible exact hO2 | with_reducible refine Onl.setCell ?_ _ _ | with_reducible refine Onl.drew ?_), by first | exact hS2.seta _ | exact hS2.drew.seta _ | exact hS2.drew.drew.seta _ | exact hS2.drew.drew.drew.seta _⟩
  case rest =>
  clear ca cb cc cd fa fb fc fd
  obtain ⟨hO3, hS3⟩ := hcut
  generalize wc = w3 at *
  obtain ⟨ca, cb, cc, cd, fa, fb, fc, fd⟩ := hS3
  have hS3 : St w3 g (v.s0.s1.s2) := ⟨ca, cb, cc, cd, fa, fb, fc, fd⟩
  clear hO2 hS2
  go_upto_region 3 with fail
  go_cut [] (fun wx => Onl g w wx ∧ St wx g (v.s0.s1.s2.s3))
  case first =>
    go_region
    all_goals
      go_wp2_with fail
      go_meet
      exact ⟨by repeat (first | with_reducible exact hO3 | with_reducible refine Onl.setCell ?_ _ _ | with_reducible refine Onl.drew ?_), by first | exact hS3.setc _ | exact hS3.drew.setc _ | exact hS3.drew.drew.setc _ | exact hS3.drew.drew.drew.setc _⟩
  case rest =>
  clear ca cb cc cd fa fb fc fd
  obtain ⟨hO4, hS4⟩ := hcut
  generalize wc = w4 at *
  obtain ⟨ca, cb, cc, cd, fa, fb, fc, fd⟩ := hS4
  have hS4 : St w4 g (v.s0.s1.s2.s3) := ⟨ca, cb, cc, cd, fa, fb, fc, fd⟩
  clear hO3 hS3
  go_upto_region 4 with fail
  go_cut [] (fun wx => Onl g w wx ∧ St wx g (v.s0.s1.s2.s3.s4))
  case first =>
    go_region_with (go_at_call 99; refine (rrot16 _ ((V4.U3 (V4.U2 (V4.U1 (V4.U0 (hU))))).2.2.2) _).mono ?_; rintro e w' ⟨rfl, rfl⟩)
    all_goals
      go_wp2_with fail
      go_meet
      exact ⟨by repeat (first | with_reducible exact hO4 | with_reducible refine Onl.setCell ?_ _ _ | with_reducible refine Onl.drew ?_), by first | exact hS4.setd _ | exact hS4.drew.setd _ | exact hS4.drew.drew.setd _ | exact hS4.drew.drew.drew.setd _⟩
  case rest =>
  clear ca cb cc cd fa fb fc fd
  obtain ⟨hO5, hS5⟩ := hcut
  generalize wc = w5 at *
  obtain ⟨ca, cb, cc, cd, fa, fb, fc, fd⟩ := hS5
  have hS5 : St w5 g (v.s0.s1.s2.s3.s4) := ⟨ca, cb, cc, cd, fa, fb, fc, fd⟩
  clear hO4 hS4
  go_upto_region 5 with fail
  go_cut [] (fun wx => Onl g w wx ∧ St wx g (v.s0.s1.s2.s3.s4.s5))
  case first =>
    go_region
    all_goals
      go_wp2_with fail
      go_meet
      exact ⟨by repeat (first | with_reducible exact hO5 | with_reducible refine Onl.setCell ?_ _ _ | with_reducible refine Onl.drew ?_), by first | exact hS5.seta _ | exact hS5.drew.seta _ | exact hS5.drew.drew.seta _ | exact hS5.drew.drew.drew.seta _⟩
  case rest =>
  clear ca cb cc cd fa fb fc fd
  obtain ⟨hO6, hS6⟩ := hcut
  generalize wc = w6 at *
  obtain ⟨ca, cb, cc, cd, fa, fb, fc, fd⟩ := hS6
  have hS6 : St w6 g (v.s0.s1.s2.s3.s4.s5) := ⟨ca, cb, cc, cd, fa, fb, fc, fd⟩
  clear hO5 hS5
  go_upto_region 6 with fail
  go_cut [] (fun wx => Onl g w wx ∧ St wx g (v.s0.s1.s2.s3.s4.s5.s6))
  case first =>
    go_region_with (go_at_call 99; refine (rrot21 _ ((V4.U5 (V4.U4 (V4.U3 (V4.U2 (V4.U1 (V4.U0 (hU))))))).2.2.2) _).mono ?_; rintro e w' ⟨rfl, rfl⟩)
    all_goals
      go_wp2_with fail
      go_meet
      exact ⟨by repeat (first | with_reducible exact hO6 | with_reducible refine Onl.setCell ?_ _ _ | with_reducible refine Onl.drew ?_), by first | exact hS6.setd _ | exact hS6.drew.setd _ | exact hS6.drew.drew.setd _ | exact hS6.drew.drew.drew.setd _⟩
  case rest =>
  clear ca cb cc cd fa fb fc fd
  obtain ⟨hO7, hS7⟩ := hcut
  generalize wc = w7 at *
  obtain ⟨ca, cb, cc, cd, fa, fb, fc, fd⟩ := hS7
  have hS7 : St w7 g (v.s0.s1.s2.s3.s4.s5.s6) := ⟨ca, cb, cc, cd, fa, fb, fc, fd⟩
  clear hO6 hS6
  go_upto_region 7 with fail
  go_cut [] (fun wx => Onl g w wx ∧ St wx g (v.s0.s1.s2.s3.s4.s5.s6.s7))
  case first =>
    go_region
    all_goals
      go_wp2_with fail
      go_meet
      exact ⟨by repeat (first | with_reducible exact hO7 | with_reducible refine Onl.setCell ?_ _ _ | with_reducible refine Onl.drew ?_), by first | exact hS7.setc _ | exact hS7.drew.setc _ | exact hS7.drew.drew.setc _ | exact hS7.drew.drew.drew.setc _⟩
  case rest =>
  clear ca cb cc cd fa fb fc fd
  obtain ⟨hO8, hS8⟩ := hcut
  generalize wc = w8 at *
  obtain ⟨ca, cb, cc, cd, fa, fb, fc, fd⟩ := hS8
  have hS8 : St w8 g (v.s0.s1.s2.s3.s4.s5.s6.s7) := ⟨ca, cb, cc, cd, fa, fb, fc, fd⟩
  clear hO7 hS7
  go_upto_region 8 with fail
  go_cut [] (fun wx => Onl g w wx ∧ St wx g (v.s0.s1.s2.s3.s4.s5.s6.s7.s8))
  case first =>
    go_region_with (go_at_call 99; refine (rrot17 _ ((V4.U7 (V4.U6 (V4.U5 (V4.U4 (V4.U3 (V4.U2 (V4.U1 (V4.U0 (hU))))))))).2.1) _).mono ?_; rintro e w' ⟨rfl, rfl⟩)
    all_goals
      go_wp2_with fail
      go_meet
      exact ⟨by repeat (first | with_reducible exact hO8 | with_reducible refine Onl.setCell ?_ _ _ | with_reducible refine Onl.drew ?_), by first | exact hS8.setb _ | exact hS8.drew.setb _ | exact hS8.drew.drew.setb _ | exact hS8.drew.drew.drew.setb _⟩
  case rest =>
  clear ca cb cc cd fa fb fc fd
  obtain ⟨hO9, hS9⟩ := hcut
  generalize wc = w9 at *
  obtain ⟨ca, cb, cc, cd, fa, fb, fc, fd⟩ := hS9
  have hS9 : St w9 g (v.s0.s1.s2.s3.s4.s5.s6.s7.s8) := ⟨ca, cb, cc, cd, fa, fb, fc, fd⟩
  clear hO8 hS8
  go_wp2_with (go_at_call 99; refine (rrot32 _ ((V4.U8 (V4.U7 (V4.U6 (V4.U5 (V4.U4 (V4.U3 (V4.U2 (V4.U1 (V4.U0 (hU)))))))))).2.2.1) _).mono ?_; rintro e w' ⟨rfl, rfl⟩)
  go_end0
  refine ⟨rfl, ?_, ?_⟩
  · repeat (first | with_reducible exact hO9 | with_reducible refine Onl.setCell ?_ _ _ | with_reducible refine Onl.drew ?_)
  · first | exact hS9.setc _ | exact hS9.drew.setc _
end Go.Proofs.YteefhiniamajkaaGreat
namespace Go.Proofs.YteefhiniamajkaaGreat
set_option linter.unusedVariables false
open Go.RowKit Go.ChangeShapes Go.WideShapes Go.ChangeAt

theorem eat_any (g : Nat) (v : V4) (m : Int) (w : World) (hS : St w g v) (hU : v.U) :
    Calls Tryz.prog 93 #[.pointer (some ⟨g, 0, none⟩), .int .u64 m] w fun e w' => e = .returned (.tuple #[]) ∧ Onl g w w' ∧ St w' g (eat v m) := by
  have hO := Onl.refl_ g w
  have hS2 := hS
  obtain ⟨ca, cb, cc, cd, fa, fb, fc, fd⟩ := hS
  clear ca cb cc fa fb fc
  go_enter Tryz.func93, Tryz.ntmps93
  go_wp2_with fail
  refine (rround_any g { v with d := xo v.d m } _ (hS2.setd _) ⟨hU.1, hU.2.1, hU.2.2.1, U_xo _ _⟩).mono ?_
  rintro e w1 ⟨rfl, hO3, hS3⟩
  have hU3 := rnd_U (v := { v with d := xo v.d m }) ⟨hU.1, hU.2.1, hU.2.2.1, U_xo _ _⟩
  go_wp2_with fail
  refine (rround_any g _ _ hS3 hU3).mono ?_
  rintro e w2 ⟨rfl, hO4, hS4⟩
  have hO5 := ((hO.setCell 3 _).trans hO3).trans hO4
  have hS5 := hS4
  obtain ⟨ca, cb, cc, cd', fa, fb, fc, fd'⟩ := hS4
  clear cb cc cd' fb fc fd' cd fd hO3 hO4 hS3 hS2
  go_wp2_with fail
  go_end0
  exact ⟨rfl, hO5.setCell 0 _, hS5.seta _⟩

theorem and255 (n : Nat) (hn : n < 9223372036854775808) : bits .and .i64 (n : Int) 255 = ((n % 256 : Nat) : Int) := by
  have h1 : n &&& 255 = n % 256 := Nat.and_two_pow_sub_one_eq_mod n 8
  show IntKind.i64.wrap ((BitVec.ofInt 64 (n : Int) &&& BitVec.ofInt 64 ((255 : Nat) : Int)).toNat : Int) = _
  rw [BitVec.toNat_and, BitVec.ofInt_natCast, BitVec.ofInt_natCast, BitVec.toNat_ofNat, BitVec.toNat_ofNat, Nat.mod_eq_of_lt (by omega), Nat.mod_eq_of_lt (by omega), h1, IntKind.wrap_i64]
  omega
theorem top56 (n : Nat) : (n : Int) % 256 * 72057594037927936 = IntKind.u64.wrap ((n : Int) * 72057594037927936) := by
  rw [IntKind.wrap_u64]
  omega

set_option maxRecDepth 100000 in
theorem rof_any (a b : Int) (A : Option Addr) (n c : Nat) (f : Nat → Int) (w : World) (h : By w A n f) (hf : IsB f) (hnc : n ≤ c) (hn : n ≤ 140737488355328) :
    Calls Tryz.prog 90 #[.agg #[.int .u64 a, .int .u64 b], .slice A n c] w fun e w' => e = .returned (.int .u64 (sumB a b f n)) ∧ Below w.heap.size w w' := by
  have hand := and255 n (by omega)
  go_enter Tryz.func90, Tryz.ntmps90
  go_wp2_with fail
  have hS := St.made (w := w.alloc (.cells #[.int .u64 a, .int .u64 b] 29)) (T := 170) (v := strt a b) (g := w.heap.size + 1) (by simp)
  have hb2 : Below w.heap.size w ((w.alloc (.cells #[.int .u64 a, .int .u64 b] 29)).alloc (.cells #[.int .u64 (strt a b).a, .int .u64 (strt a b).b, .int .u64 (strt a b).c, .int .u64 (strt a b).d] 170)) :=
    ((Below.refl _ _).alloc (Nat.le_refl _) _).alloc (by simp) _
  have hs := h.below hb2 (Nat.le_refl _)
  have hz' : w.heap.size ≤ w.heap.size + 1 := by omega
  have hA : ∀ ad, A = some ad → 0 < n → ad.block ≠ w.heap.size + 1 := fun ad e h0 => by
    obtain ⟨b', off, e', hlt, _⟩ := h h0
    rw [e] at e'
    injection e' with e'
    subst e'
    simp only
    omega
  clear h
  change Code.wp _ _ _ _ ((w.alloc (.cells #[.int .u64 a, .int .u64 b] 29)).alloc (.cells #[.int .u64 (strt a b).a, .int .u64 (strt a b).b, .int .u64 (strt a b).c, .int .u64 (strt a b).d] 170))
  generalize hgg : w.heap.size + 1 = g at *
  clear hgg
  generalize (w.alloc (.cells #[.int .u64 a, .int .u64 b] 29)).alloc _ = w2 at *
  have hO := Onl.refl_ g w2
  go_loopw [6] (fun r wr => ∃ p : Nat, 8 * p ≤ n ∧ r = .int .i64 (8 * (p : Int)) ∧ Onl g w2 wr ∧ St wr g (eats (fun i => num (fun j => f (8 * i + j)) 8) p (strt a b)))
    (fun r _ => n - (intOf r).toNat)
  case atStart => exact ⟨0, by omega, rfl, hO, hS⟩
  case round =>
    obtain ⟨p, hpn, rfl, hO1, hS1⟩ := hrel
    have hB := hO1.sl hs hA
    have hU1 := eats_U (f := fun i => num (fun j => f (8 * i + j)) 8) (strt_U a b) p
    have hE : Hid (eats (fun i => num (fun j => f (8 * i + j)) 8) (p + 1) (strt a b) = eat (eats (fun i => num (fun j => f (8 * i + j)) 8) p (strt a b)) (num (fun j => f (8 * p + j)) 8)) := rfl
    have hfp : IsB (fun j => f (8 * p + j)) := fun j => hf _
    clear hO hS
    by_cases hlt : 8 * p + 8 ≤ n
    · generalize eats (fun i => num (fun j => f (8 * i + j)) 8) p (strt a b) = v1 at *
      obtain ⟨A2, k2, S2⟩ := cut_mid_b A n c (8 * p) (8 * p + 8) (by omega) hlt hnc (8 * (p : Int)) (8 * (p : Int) + 8) (by omega) (by omega)
      rw [show 8 * p + 8 - 8 * p = 8 from by omega] at k2 S2
      have i1 : 8 * (p : Int) + 8 ≤ n := by omega
      have SB := S2 _ _ hB
      clear S2 hB
      go_wp2_with fail
      refine (low_any A2 8 _ (fun j => f (8 * p + j)) _ SB hfp (by omega)).mono ?_
      rintro e w3 ⟨rfl, rfl⟩
      go_wp2_with fail
      refine (eat_any g v1 (num (fun j => f (8 * p + j)) 8) _ hS1 hU1).mono ?_
      rintro e w4 ⟨rfl, hO2, hS2⟩
      have hO3 := hid (hO1.trans hO2)
      have HS3 := hid hS2
      clear hS2 hO2 hS1 hO1
      go_wp2_with fail
      go_roundw
      case rel => exact ⟨p + 1, by omega, by go_num, hO3.out, by rw [hE.out]; exact HS3.out⟩
      case measure => simp [intOf]; omega
    · obtain ⟨L, hL⟩ : ∃ L, L = n - 8 * p := ⟨_, rfl⟩
      have hfin := hid (sumB_at a b f n p L (by omega) (by omega))
      have i1 : ¬ 8 * (p : Int) + 8 ≤ n := by omega
      obtain ⟨A2, k2, S2⟩ := cut_from_b A n c (8 * p) (by omega) hnc (8 * (p : Int)) (by omega)
      rw [← hL] at k2 S2
      have SB := S2 _ _ hB
      have hL8 : L ≤ 8 := by omega
      have htop := hid (top56 n)
      clear S2 hB hL
      generalize eats (fun i => num (fun j => f (8 * i + j)) 8) p (strt a b) = v1 at *
      clear hE
      go_wp2_with fail
      refine (low_any A2 L _ (fun j => f (8 * p + j)) _ SB hfp hL8).mono ?_
      rintro e w3 ⟨rfl, rfl⟩
      go_wp2_with fail
      rw [htop.out]
      obtain ⟨m, hm⟩ : ∃ m, m = bits .or .u64 (num (fun j => f (8 * p + j)) L) (IntKind.u64.wrap ((n : Int) * 72057594037927936)) := ⟨_, rfl⟩
      rw [← hm]
      have HM := hid hm
      clear hm hand
      refine (eat_any g v1 m _ hS1 hU1).mono ?_
      rintro e w4 ⟨rfl, hO2, hS2⟩
      have hU2 := eat_U hU1 m
      have hO3 := hO1.trans hO2
      clear hO1 hO2 hS1 SB
      obtain ⟨ca, cb, cc, cd, fa, fb, fc, fd⟩ := hS2
      have hS2 : St w4 g (eat v1 m) := ⟨ca, cb, cc, cd, fa, fb, fc, fd⟩
      clear ca cb cd fa fb fd
      have hU3 : V4.U { eat v1 m with c := xo (eat v1 m).c 255 } := ⟨hU2.1, hU2.2.1, U_xo _ _, hU2.2.2.2⟩
      go_wp2_with fail
      refine (rround_any g { eat v1 m with c := xo (eat v1 m).c 255 } _ (hS2.setc _) hU3).mono ?_
      rintro e w5 ⟨rfl, hO4, hS4⟩
      have hU4 := rnd_U hU3
      go_wp2_with fail
      refine (rround_any g _ _ hS4 hU4).mono ?_
      rintro e w6 ⟨rfl, hO5, hS5⟩
      have hU5 := rnd_U hU4
      go_wp2_with fail
      refine (rround_any g _ _ hS5 hU5).mono ?_
      rintro e w7 ⟨rfl, hO6, hS6⟩
      have hU6 := rnd_U hU5
      go_wp2_with fail
      refine (rround_any g _ _ hS6 hU6).mono ?_
      rintro e w8 ⟨rfl, hO7, hS7⟩
      have hS8 : St w8 g (last4 (eat v1 m)) := hS7
      have hO8 := ((((hO3.setCell 2 _).trans hO4).trans hO5).trans hO6).trans hO7
      have hb9 := hb2.trans (hO8.below hz' hb2.size)
      clear hS2 cc fc hO3 hO4 hO5 hO6 hO7 hS4 hS5 hS6 hS7
      obtain ⟨ca, cb, cc, cd, fa, fb, fc, fd⟩ := hS8
      clear fa fb fc fd
      go_wp2_with fail
      go_quiet (fail)
      go_wp2
      go_ret
      refine ⟨ret_u64 ?_, below_drewN hb9 _⟩
      rw [← hfin.out, ← HM.out]
      rfl
end Go.Proofs.YteefhiniamajkaaGreat
namespace Go.Proofs.YteefhiniamajkaaGreat
set_option linter.unusedVariables false
open Go.RowKit Go.ChangeShapes Go.WideShapes Go.ChangeAt

/-- Byte q of numbers laid one behind the other, the lowest byte first. -/
def byteOf (f : Nat → Int) (q : Nat) : Int := IntKind.u64.wrap (f (q / 8)) / 2 ^ (8 * (q % 8)) % 256
theorem byteOf_b (f : Nat → Int) : IsB (byteOf f) := fun q => by unfold byteOf; omega
theorem byteOf_at (f : Nat → Int) (i j : Nat) (hj : j < 8) : byteOf f (8 * i + j) = IntKind.u64.wrap (f i) / 256 ^ j % 256 := by
  have h1 : (8 * i + j) / 8 = i := by omega
  have h2 : (8 * i + j) % 8 = j := by omega
  have h3 : (2 : Int) ^ (8 * j) = 256 ^ j := by rw [Int.pow_mul]; rfl
  unfold byteOf
  rw [h1, h2, h3]
theorem num_byteOf (f : Nat → Int) (i : Nat) : num (fun j => byteOf f (8 * i + j)) 8 = IntKind.u64.wrap (f i) := by
  have hU := U_wrap (f i)
  generalize hx : IntKind.u64.wrap (f i) = x at *
  unfold U at hU
  simp only [num, byteOf_at f i _ (show 0 < 8 by omega), byteOf_at f i _ (show 1 < 8 by omega), byteOf_at f i _ (show 2 < 8 by omega), byteOf_at f i _ (show 3 < 8 by omega), byteOf_at f i _ (show 4 < 8 by omega), byteOf_at f i _ (show 5 < 8 by omega), byteOf_at f i _ (show 6 < 8 by omega), byteOf_at f i _ (show 7 < 8 by omega), hx]
  simp only [Int.pow_succ, Int.pow_zero, Int.one_mul, Int.ediv_one, Int.mul_one, Int.zero_add]
  omega
theorem sumB_words (a b : Int) (f : Nat → Int) (n : Nat) : sumB a b (byteOf f) (8 * n) = sumW a b f n := by
  have h1 : 8 * n / 8 = n := by omega
  have h2 : 8 * n % 8 = 0 := by omega
  unfold sumB sumW
  rw [h1, h2, eats_ext _ n (fun i _ => num_byteOf f i)]
  rfl

set_option maxRecDepth 100000 in
theorem rwords_any (a b : Int) (A : Option Addr) (n c : Nat) (f : Nat → Int) (w : World) (h : Is w A n f) (hf : IsI f) (hn : n ≤ 17592186044416) :
    Calls Tryz.prog 87 #[.agg #[.int .u64 a, .int .u64 b], .slice A n c] w fun e w' => e = .returned (.int .u64 (sumW a b f n)) ∧ Below w.heap.size w w' := by
  go_enter Tryz.func87, Tryz.ntmps87
  go_wp2_with fail
  have hs := h.below ((Below.refl w.heap.size w).alloc (Nat.le_refl _) (.cells #[.int .u64 a, .int .u64 b] 29)) (Nat.le_refl _)
  have hb0 : Below w.heap.size w (w.alloc (.cells #[.int .u64 a, .int .u64 b] 29)) := (Below.refl _ _).alloc (Nat.le_refl _) _
  have hk0 : (w.alloc (.cells #[.int .u64 a, .int .u64 b] 29)).cell? ⟨w.heap.size, 0, none⟩ = some (.int .u64 a) := by
    rw [cell_of_row _ _ _ _ _ _ (heap_alloc_new w _)]; rfl
  have hk1 : (w.alloc (.cells #[.int .u64 a, .int .u64 b] 29)).cell? ⟨w.heap.size, 1, none⟩ = some (.int .u64 b) := by
    rw [cell_of_row _ _ _ _ _ _ (heap_alloc_new w _)]; rfl
  have hsz : (w.alloc (.cells #[.int .u64 a, .int .u64 b] 29)).heap.size = w.heap.size + 1 := by simp
  have hsl : w.heap.size < (w.alloc (.cells #[.int .u64 a, .int .u64 b] 29)).heap.size := by simp
  clear hsz
  generalize hw1 : w.alloc (.cells #[.int .u64 a, .int .u64 b] 29) = w1 at *
  clear hw1 h
  go_loopw [5, 6, 7] (fun r i _ wr => ∃ (k : Nat) (A' : Option Addr) (c' : Nat), k ≤ n ∧ i = .int .i64 k ∧ r = .slice A' (8 * k) c' ∧ 8 * k ≤ c' ∧ Below w1.heap.size w1 wr ∧ Ow wr w1.heap.size 5 1 (.slice A' (8 * k) c') (8 * k) (fun q => .int .u8 (byteOf f q)))
    (fun _ i _ _ => n - (intOf i).toNat)
  case atStart => exact ⟨0, none, 0, by omega, rfl, rfl, by omega, Below.refl _ _, Ow.none_⟩
  case round =>
    obtain ⟨k, A', c', hk, rfl, rfl, hc', hb1, hO1⟩ := hrel
    obtain ⟨wo, rfl⟩ : ∃ wo : World, wo = wr := ⟨_, rfl⟩
    by_cases hlt : k < n
    · have i1 : (k : Int) < n := by omega
      go_wp2_with fail
      go_loopw [5, 7] (fun r j wr => ∃ (q : Nat) (A2 : Option Addr) (c2 : Nat), q ≤ 8 ∧ j = .int .i64 q ∧ r = .slice A2 (8 * k + q) c2 ∧ 8 * k + q ≤ c2 ∧ Below w1.heap.size w1 wr ∧ Ow wr w1.heap.size 5 1 (.slice A2 (8 * k + q) c2) (8 * k + q) (fun q => .int .u8 (byteOf f q)))
        (fun _ j _ => 8 - (intOf j).toNat)
      case atStart => exact ⟨0, A', c', by omega, rfl, rfl, hc', hb1, hO1⟩
      case round =>
        obtain ⟨q, A2, c2, hq, rfl, rfl, hc2, hb2, hO2⟩ := hrel
        by_cases hq8 : q < 8
        · have i2 : (q : Int) < 8 := by omega
          obtain ⟨ba, off, rfl, _, hcell⟩ := hs.below hb2 (Nat.le_refl _) (by omega)
          have c0 := hcell k hlt
          have hfk := hf k
          clear hcell
          have hx : Hid (byteOf f (8 * k + q) = IntKind.u64.wrap (f k) / 2 ^ (8 * q) % 256) := by
            unfold Hid byteOf
            rw [show (8 * k + q) / 8 = k from by omega, show (8 * k + q) % 8 = q from by omega]
          go_wp2_with (at_builtin
                       refine wp_app_b rfl (.tmp 18) (.tmp 29) rfl w1.heap.size (.slice A2 (8 * k + q) c2) (8 * k + q) (byteOf f) rfl (hO2.alloc _) (some ⟨wr.heap.size, 0, none⟩) 1 1 (fun j => [IntKind.u64.wrap (f k) / 2 ^ (8 * q) % 256].getD j 0) rfl (row_at .u8 [IntKind.u64.wrap (f k) / 2 ^ (8 * q) % 256] rfl) (by omega) (by have := hb2.size; simp; omega) ?_
                       intro A3 c3 w3 o3 hc3 hm3 hb3 hg3 ho3)
          have hb4 : Below w1.heap.size w1 w3 := (hb2.alloc hb2.size _).trans hb3
          go_roundw
          case rel => exact ⟨q + 1, A3, c3, by omega, by go_num, rfl, hc3, hb4, o3.as_ fun j hj => by
            show Value.int .u8 _ = Value.int .u8 _
            congr 1
            split
            · rfl
            · rw [show j = 8 * k + q from by omega, hx.out]; simp⟩
          case measure => simp [intOf]; omega
        · have e : q = 8 := by omega
          subst e
          have i2 : ¬ ((8 : Nat) : Int) < 8 := by omega
          go_wp2_with fail
          go_roundw
          case rel => exact ⟨k + 1, A2, c2, by omega, by go_num, by rw [show 8 * (k + 1) = 8 * k + 8 from by omega], by omega, hb2, by rw [show 8 * (k + 1) = 8 * k + 8 from by omega]; exact hO2⟩
          case measure => simp [intOf]; omega
    · have e : k = n := by omega
      subst e
      have i1 : ¬ (k : Int) < k := by omega
      have d0 : wo.cell? ⟨w.heap.size, 0, none⟩ = some (.int .u64 a) := (hb1.cell (p := ⟨w.heap.size, 0, none⟩) (by omega)).trans hk0
      have d1 : wo.cell? ⟨w.heap.size, 1, none⟩ = some (.int .u64 b) := (hb1.cell (p := ⟨w.heap.size, 1, none⟩) (by omega)).trans hk1
      have hfin := hid (sumB_words a b f k)
      have SB := hO1.sl1
      have hb5 := hb0.trans (hb1.mono (by omega))
      clear hO1 hk0 hk1
      go_wp2_with fail
      refine (rof_any a b A' (8 * k) c' (byteOf f) _ SB (byteOf_b f) hc' (by omega)).mono ?_
      rintro e w9 ⟨rfl, hb9⟩
      go_wp2
      go_ret
      exact ⟨ret_u64 hfin.out, hb5.trans (hb9.mono hb5.size)⟩

end Go.Proofs.YteefhiniamajkaaGreat
