/- The keyed sum's round, of both packages, as plain numbers. -/
import Derived.Test.YtejlfbiehcfbgaaBase
import Derived.BigRegion
import Derived.RegionTactic
import Derived.Deep.RegionWith
import Derived.Deep.DeepCutAuto
namespace Go.Proofs.Ytejlfbiehcfbgaa
set_option linter.unusedVariables false
open Go.RowKit Go.ChangeShapes Go.WideShapes Go.ChangeAt

/-- A number of 64 bits. -/
def U (x : Int) : Prop := 0 ≤ x ∧ x ≤ 18446744073709551615
theorem U_wrap (e : Int) : U (IntKind.u64.wrap e) := bounds_u64 (wf_wrap .u64 e)
theorem U_bits (op : BinOp) (x y : Int) : U (bits op .u64 x y) := bounds_u64 (wf_bits op .u64 x y)
def ad (x y : Int) : Int := IntKind.u64.wrap (x + y)
def xo (x y : Int) : Int := bits .xor .u64 x y
def rot (x p q : Int) : Int := bits .or .u64 (IntKind.u64.wrap (x * p)) (x / q)
theorem U_ad (x y : Int) : U (ad x y) := U_wrap _
theorem U_xo (x y : Int) : U (xo x y) := U_bits _ _ _
theorem U_rot (x p q : Int) : U (rot x p q) := U_bits _ _ _

/-- The four numbers. -/
structure V4 where
  a : Int
  b : Int
  c : Int
  d : Int
def V4.U (v : V4) : Prop := Ytejlfbiehcfbgaa.U v.a ∧ Ytejlfbiehcfbgaa.U v.b ∧ Ytejlfbiehcfbgaa.U v.c ∧ Ytejlfbiehcfbgaa.U v.d

def V4.s0 (v : V4) : V4 := { v with a := ad v.a v.b }
theorem V4.U0 {v : V4} (h : v.U) : v.s0.U := ⟨U_ad _ _, h.2.1, h.2.2.1, h.2.2.2⟩
def V4.s1 (v : V4) : V4 := { v with b := xo (rot v.b 8192 2251799813685248) v.a }
theorem V4.U1 {v : V4} (h : v.U) : v.s1.U := ⟨h.1, U_xo _ _, h.2.2.1, h.2.2.2⟩
def V4.s2 (v : V4) : V4 := { v with a := rot v.a 4294967296 4294967296 }
theorem V4.U2 {v : V4} (h : v.U) : v.s2.U := ⟨U_rot _ _ _, h.2.1, h.2.2.1, h.2.2.2⟩
def V4.s3 (v : V4) : V4 := { v with c := ad v.c v.d }
theorem V4.U3 {v : V4} (h : v.U) : v.s3.U := ⟨h.1, h.2.1, U_ad _ _, h.2.2.2⟩
def V4.s4 (v : V4) : V4 := { v with d := xo (rot v.d 65536 281474976710656) v.c }
theorem V4.U4 {v : V4} (h : v.U) : v.s4.U := ⟨h.1, h.2.1, h.2.2.1, U_xo _ _⟩
def V4.s5 (v : V4) : V4 := { v with a := ad v.a v.d }
theorem V4.U5 {v : V4} (h : v.U) : v.s5.U := ⟨U_ad _ _, h.2.1, h.2.2.1, h.2.2.2⟩
def V4.s6 (v : V4) : V4 := { v with d := xo (rot v.d 2097152 8796093022208) v.a }
theorem V4.U6 {v : V4} (h : v.U) : v.s6.U := ⟨h.1, h.2.1, h.2.2.1, U_xo _ _⟩
def V4.s7 (v : V4) : V4 := { v with c := ad v.c v.b }
theorem V4.U7 {v : V4} (h : v.U) : v.s7.U := ⟨h.1, h.2.1, U_ad _ _, h.2.2.2⟩
def V4.s8 (v : V4) : V4 := { v with b := xo (rot v.b 131072 140737488355328) v.c }
theorem V4.U8 {v : V4} (h : v.U) : v.s8.U := ⟨h.1, U_xo _ _, h.2.2.1, h.2.2.2⟩
def V4.s9 (v : V4) : V4 := { v with c := rot v.c 4294967296 4294967296 }
theorem V4.U9 {v : V4} (h : v.U) : v.s9.U := ⟨h.1, h.2.1, U_rot _ _ _, h.2.2.2⟩
/-- A round. -/
def rnd (v : V4) : V4 := v.s0.s1.s2.s3.s4.s5.s6.s7.s8.s9
theorem rnd_U {v : V4} (h : v.U) : (rnd v).U := V4.U9 (V4.U8 (V4.U7 (V4.U6 (V4.U5 (V4.U4 (V4.U3 (V4.U2 (V4.U1 (V4.U0 (h))))))))))

/-- A number goes in; many do. -/
def eat (v : V4) (m : Int) : V4 := { rnd (rnd { v with d := xo v.d m }) with a := xo (rnd (rnd { v with d := xo v.d m })).a m }
theorem eat_U {v : V4} (h : v.U) (m : Int) : (eat v m).U :=
  have h2 := rnd_U (rnd_U (v := { v with d := xo v.d m }) ⟨h.1, h.2.1, h.2.2.1, U_xo _ _⟩)
  ⟨U_xo _ _, h2.2.1, h2.2.2.1, h2.2.2.2⟩
def eats (f : Nat → Int) : Nat → V4 → V4
  | 0, v => v
  | k + 1, v => eat (eats f k v) (f k)
theorem eats_U {f : Nat → Int} {v : V4} (h : v.U) : ∀ k, (eats f k v).U
  | 0 => h
  | k + 1 => eat_U (eats_U h k) _
theorem eats_ext {f f' : Nat → Int} (v : V4) : ∀ n, (∀ j, j < n → f j = f' j) → eats f n v = eats f' n v
  | 0, _ => rfl
  | n + 1, h => by rw [eats, eats, eats_ext v n (fun j hj => h j (by omega)), h n (by omega)]
/-- The end: the last number, 255, four rounds. -/
def last4 (v : V4) : V4 := rnd (rnd (rnd (rnd { v with c := xo v.c 255 })))
def fin4 (v : V4) : Int := xo (xo (xo (last4 v).a (last4 v).b) (last4 v).c) (last4 v).d
/-- How a sum begins. -/
def strt (a b : Int) : V4 := ⟨xo a 8317987319222330741, xo b 7237128888997146477, xo a 7816392313619706465, xo b 8387220255154660723⟩
theorem strt_U (a b : Int) : (strt a b).U := ⟨U_xo _ _, U_xo _ _, U_xo _ _, U_xo _ _⟩

/-- The state lies in block g. -/
structure St (w : World) (g : Nat) (v : V4) : Prop where
  ca : w.cell? ⟨g, 0, none⟩ = some (.int .u64 v.a)
  cb : w.cell? ⟨g, 1, none⟩ = some (.int .u64 v.b)
  cc : w.cell? ⟨g, 2, none⟩ = some (.int .u64 v.c)
  cd : w.cell? ⟨g, 3, none⟩ = some (.int .u64 v.d)
  fa : w.frozen? ⟨g, 0, none⟩ = false
  fb : w.frozen? ⟨g, 1, none⟩ = false
  fc : w.frozen? ⟨g, 2, none⟩ = false
  fd : w.frozen? ⟨g, 3, none⟩ = false
/-- Just block g has turned, and new ones have come. -/
def Onl (g : Nat) (w w' : World) : Prop := w.grownBy w' (some g)
section
variable {g : Nat} {a w w' : World} {v : V4}
theorem Onl.refl_ (g : Nat) (w : World) : Onl g w w := ⟨rfl, rfl, rfl, Nat.le_refl _, fun _ _ _ => rfl⟩
theorem Onl.drew (h : Onl g a w) : Onl g a w.drew := ⟨h.os, h.tape, h.output, h.size, h.block⟩
theorem Onl.drewN (h : Onl g a w) (n : Nat) : Onl g a (w.drewN n) := ⟨h.os, h.tape, h.output, h.size, h.block⟩
theorem Onl.setCell (h : Onl g a w) (i : Nat) (u : Value) : Onl g a (w.setCell ⟨g, i, none⟩ u) :=
  ⟨h.os, h.tape, h.output, by simpa [World.setCell] using h.size, fun k hk hne => (Below.heap_setCell w ⟨g, i, none⟩ u k (fun e => hne (by rw [e]))).trans (h.block k hk hne)⟩
theorem Onl.trans (h : Onl g a w) (k : Onl g w w') : Onl g a w' :=
  ⟨k.os.trans h.os, k.tape.trans h.tape, k.output.trans h.output, Nat.le_trans h.size k.size, fun i hi hne => (k.block i (Nat.lt_of_lt_of_le hi h.size) hne).trans (h.block i hi hne)⟩
theorem Onl.of_below (hb : Below a.heap.size a w) : Onl g a w := ⟨hb.os, hb.tape, hb.output, hb.size, fun i hi _ => hb.block i hi⟩
theorem Onl.below (h : Onl g a w) {B : Nat} (hB : B ≤ g) (hs : B ≤ a.heap.size) : Below B a w := ⟨h.os, h.tape, h.output, h.size, fun k hk => h.block k (by omega) (fun e => by injection e; omega)⟩
theorem Onl.sl (h : Onl g a w) {A : Option Addr} {m : Nat} {f : Nat → Value} (hs : Sl a A m f) (hA : ∀ ad, A = some ad → 0 < m → ad.block ≠ g) : Sl w A m f := by
  intro hm
  obtain ⟨b, off, rfl, hlt, hc⟩ := hs hm
  exact ⟨b, off, rfl, Nat.lt_of_lt_of_le hlt h.size, fun j hj => (World.cell?_of_block (a := ⟨b, off + j, none⟩) (h.block b hlt (fun e => hA _ rfl hm (by injection e)))).trans (hc j hj)⟩
theorem St.drew (h : St w g v) : St w.drew g v := ⟨h.ca, h.cb, h.cc, h.cd, h.fa, h.fb, h.fc, h.fd⟩
theorem St.drewN (h : St w g v) (n : Nat) : St (w.drewN n) g v := ⟨h.ca, h.cb, h.cc, h.cd, h.fa, h.fb, h.fc, h.fd⟩
theorem St.keep (h : St w g v) (hb : w'.heap[g]? = w.heap[g]?) : St w' g v :=
  ⟨(World.cell?_of_block (a := ⟨g, 0, none⟩) hb).trans h.ca, (World.cell?_of_block (a := ⟨g, 1, none⟩) hb).trans h.cb, (World.cell?_of_block (a := ⟨g, 2, none⟩) hb).trans h.cc, (World.cell?_of_block (a := ⟨g, 3, none⟩) hb).trans h.cd,
    (World.frozen?_of_block (a := ⟨g, 0, none⟩) hb).trans h.fa, (World.frozen?_of_block (a := ⟨g, 1, none⟩) hb).trans h.fb, (World.frozen?_of_block (a := ⟨g, 2, none⟩) hb).trans h.fc, (World.frozen?_of_block (a := ⟨g, 3, none⟩) hb).trans h.fd⟩
theorem St.lt (h : St w g v) : g < w.heap.size := by
  rcases Nat.lt_or_ge g w.heap.size with hlt | hge
  · exact hlt
  · have := h.ca
    simp [World.cell?, Array.getElem?_eq_none hge] at this
theorem St.below {B : Nat} (h : St w g v) (hb : Below B w w') (hB : g < B) : St w' g v := h.keep (hb.block g hB)
theorem St.seta (h : St w g v) (x : Int) : St (w.setCell ⟨g, 0, none⟩ (.int .u64 x)) g { v with a := x } :=
  ⟨World.cell?_setCell_same _ _ _ h.ca, (World.cell?_setCell_other _ _ _ _ (by simp)).trans h.cb, (World.cell?_setCell_other _ _ _ _ (by simp)).trans h.cc, (World.cell?_setCell_other _ _ _ _ (by simp)).trans h.cd, by simp [h.fa], by simp [h.fb], by simp [h.fc], by simp [h.fd]⟩
theorem St.setb (h : St w g v) (x : Int) : St (w.setCell ⟨g, 1, none⟩ (.int .u64 x)) g { v with b := x } :=
  ⟨(World.cell?_setCell_other _ _ _ _ (by simp)).trans h.ca, World.cell?_setCell_same _ _ _ h.cb, (World.cell?_setCell_other _ _ _ _ (by simp)).trans h.cc, (World.cell?_setCell_other _ _ _ _ (by simp)).trans h.cd, by simp [h.fa], by simp [h.fb], by simp [h.fc], by simp [h.fd]⟩
theorem St.setc (h : St w g v) (x : Int) : St (w.setCell ⟨g, 2, none⟩ (.int .u64 x)) g { v with c := x } :=
  ⟨(World.cell?_setCell_other _ _ _ _ (by simp)).trans h.ca, (World.cell?_setCell_other _ _ _ _ (by simp)).trans h.cb, World.cell?_setCell_same _ _ _ h.cc, (World.cell?_setCell_other _ _ _ _ (by simp)).trans h.cd, by simp [h.fa], by simp [h.fb], by simp [h.fc], by simp [h.fd]⟩
theorem St.setd (h : St w g v) (x : Int) : St (w.setCell ⟨g, 3, none⟩ (.int .u64 x)) g { v with d := x } :=
  ⟨(World.cell?_setCell_other _ _ _ _ (by simp)).trans h.ca, (World.cell?_setCell_other _ _ _ _ (by simp)).trans h.cb, (World.cell?_setCell_other _ _ _ _ (by simp)).trans h.cc, World.cell?_setCell_same _ _ _ h.cd, by simp [h.fa], by simp [h.fb], by simp [h.fc], by simp [h.fd]⟩
end
end Go.Proofs.Ytejlfbiehcfbgaa
