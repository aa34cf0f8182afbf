/- A client's packet. -/
import Derived.Test.YtjfopkbpaekejaaGreatGa
import Derived.Test.YtjfopkbpaekejaaGreatTopTh
import Derived.Test.YtjfopkbpaekejaaGreatTopChM
import Derived.Test.YtjfopkbpaekejaaGreatGu
import Derived.Deep.CutBlock
import Derived.Deep.CutRange
import Derived.BigQuiet
import Derived.Deep.RegionHeld3
import Derived.Deep.Cut
import Derived.IntWalk
namespace Go.Proofs.YtjfopkbpaekejaaGreat
set_option linter.unusedVariables false
set_option linter.unusedSimpArgs false
open Go.RowKit Go.ChangeShapes Go.WideShapes Go.ChangeAt
set_option maxRecDepth 100000
/-- A client's packet. -/
structure Inn (p : Pl) (x : Pk) : Prop where
  md : Mkd x
  lf : 1 ≤ x.life ∧ x.life ≤ 9
  pc : x.piece = 0
  src : 0 ≤ x.src ∧ x.src ≤ 4294967295
  dst : x.dst = p.a
  fp : 0 ≤ x.fp ∧ x.fp ≤ 65535
  tp : x.tp = p.p
theorem xor_bd (c j : Int) (N : Nat) (hc : 0 ≤ c ∧ c < 2 ^ N) (hj : 0 ≤ j ∧ j < 16) (hN : 16 ≤ N) (hN2 : N ≤ 20) : 0 ≤ bits .xor .i64 c (2 ^ j.toNat) ∧ bits .xor .i64 c (2 ^ j.toNat) < 2 ^ N := by
  obtain ⟨a, rfl⟩ := Int.eq_ofNat_of_zero_le hc.1
  obtain ⟨b, rfl⟩ := Int.eq_ofNat_of_zero_le hj.1
  have ha : a < 2 ^ N := by have := hc.2; exact_mod_cast this
  have hb : 2 ^ b < 2 ^ N := Nat.pow_lt_pow_right (by omega) (by omega)
  have h64 : (2 : Nat) ^ N ≤ 2 ^ 20 := Nat.pow_le_pow_right (by omega) hN2
  have hx : a ^^^ 2 ^ b < 2 ^ N := Nat.xor_lt_two_pow ha hb
  have e : bits .xor .i64 (a : Int) (2 ^ (b : Int).toNat) = ((a ^^^ 2 ^ b : Nat) : Int) := by
    have e1 : ((2 : Int) ^ (b : Int).toNat) = ((2 ^ b : Nat) : Int) := by simp
    rw [e1]
    show IntKind.i64.wrap ((BitVec.ofInt 64 (a : Int) ^^^ BitVec.ofInt 64 ((2 ^ b : Nat) : Int)).toNat : Int) = _
    rw [BitVec.toNat_xor, BitVec.ofInt_natCast, BitVec.ofInt_natCast, BitVec.toNat_ofNat, BitVec.toNat_ofNat, Nat.mod_eq_of_lt (by omega), Nat.mod_eq_of_lt (by omega)]
    exact IntWalk.i64_in _ (by omega)
  rw [e]
  exact ⟨by omega, by exact_mod_cast hx⟩
theorem within_any9 (a n : Int) (w : World) (hb : 0 < n) (hb' : n ≤ 4611686018427387904) :
    Calls Tryz.prog 15 #[.int .i64 a, .int .i64 n] w fun e w' => e = .returned (.int .i64 (wi a n)) ∧ w = w' := by
  have ht := tmod_bd a n hb
  have hn := hid (tmod_neg a n hb)
  have hp := hid (tmod_pos a n hb)
  obtain ⟨h1, h2⟩ := ht
  go_enter Tryz.func15, Tryz.ntmps15
  go_wp2
  · go_ret
    exact ⟨ret_i64 (hn.out (by assumption)), rfl⟩
  · go_ret
    exact ⟨ret_i64 (hp.out (by assumption)), rfl⟩
theorem u8_bd (x : Int) : 0 ≤ IntKind.u8.wrap x ∧ IntKind.u8.wrap x ≤ 255 := by
  show 0 ≤ x % 256 ∧ x % 256 ≤ 255
  omega
theorem u32_w (x : Int) : U32 (IntKind.u32.wrap x) := by
  unfold U32
  show 0 ≤ x % 4294967296 ∧ x % 4294967296 < 4294967296
  omega
theorem putV_u (v : Int) {c : Int} (hc : 0 ≤ c ∧ c < 1048576) : U32 (putV v c) := by
  unfold U32 putV
  omega
theorem HS.nilY {S : List Nat} {W w : World} {L : List Th} {f : Nat → Int} (h : HS S W w L) : HS S W w (thY (.slice none 0 0) 0 f :: L) := h.newY (Below.refl _ _) OB.nil
theorem HS.sub {S : List Nat} {W w : World} {L M : List Th} (h : HS S W w L) (hs : M.Sublist L) : HS S W w M := by
  obtain ⟨h1, h2, h3, h4⟩ := h
  have hm : ∀ b, b ∈ M.flatMap Th.bs → b ∈ L.flatMap Th.bs := fun b hb => by
    obtain ⟨x, hx, hxb⟩ := List.mem_flatMap.1 hb
    exact List.mem_flatMap.2 ⟨x, hs.subset hx, hxb⟩
  refine ⟨fun x hx => h1 x (hs.subset hx), h2, h3.sublist ?_, fun b hb => h4 b (hm b hb)⟩
  clear h1 h2 h3 h4 hm
  induction hs with
  | slnil => exact List.Sublist.refl _
  | cons a _ ih => rw [List.flatMap_cons]; exact ih.trans (List.sublist_append_right _ _)
  | cons_cons a _ ih => rw [List.flatMap_cons, List.flatMap_cons]; exact List.Sublist.append (List.Sublist.refl _) ih
theorem HS.join {S : List Nat} {W w w' : World} {L M : List Th} (h : HS S W w L) (k : HS [] w w' M) : HS S W w' (M ++ L) := by
  have hL := h.below k.bl
  refine ⟨fun x hx => ?_, hL.2.1, ?_, fun b hb => ?_⟩
  · rcases List.mem_append.1 hx with hx | hx
    · exact k.1 x hx
    · exact hL.1 x hx
  · rw [List.flatMap_append, List.nodup_append]
    refine ⟨k.2.2.1, hL.2.2.1, fun a ha b hb e => ?_⟩
    subst e
    obtain ⟨x, hx, hxa⟩ := List.mem_flatMap.1 hb
    have h1 := x.lt w (h.1 x hx) a hxa
    rcases k.2.2.2 a ha with h2 | h2
    · cases h2
    · omega
  · rw [List.flatMap_append] at hb
    rcases List.mem_append.1 hb with hb | hb
    · rcases k.2.2.2 b hb with h2 | h2
      · cases h2
      · exact .inr (Nat.le_trans h.wsize h2)
    · exact hL.2.2.2 b hb
/-- A row that is read, in a block. -/
def thR (b : Nat) (A : Option Addr) (n : Nat) (f : Nat → Int) : Th := ⟨fun w => b < w.heap.size ∧ (0 < n → ∃ off, A = some ⟨b, off, none⟩ ∧ ∀ j, j < n → w.cell? ⟨b, off + j, none⟩ = some (.int .u8 (f j))), [b],
  fun w w' h e => ⟨lt_of_same h.1 (e b (by simp)), fun hn => by
    obtain ⟨off, rfl, hc⟩ := h.2 hn
    exact ⟨off, rfl, fun j hj => (World.cell?_of_block (a := ⟨b, off + j, none⟩) (e b (by simp))).trans (hc j hj)⟩⟩,
  fun _ h x hx => by simp at hx; subst hx; exact h.1⟩
theorem HS.byR {S : List Nat} {W w : World} {L : List Th} {b n : Nat} {A : Option Addr} {f : Nat → Int} (h : HS S W w L) (k : Nat) (hk : L[k]? = some (thR b A n f)) : By w A n f := fun hn => by
  obtain ⟨h1, h2⟩ := (show (thR b A n f).at_ w from h.nth k hk)
  obtain ⟨off, rfl, hc⟩ := h2 hn
  exact ⟨b, off, rfl, h1, hc⟩
theorem two_r {w : World} {b nd : Nat} {x y : Int} (h : Ce w b [.int .u8 x, .int .u8 y]) (hn : nd ≤ 2) : (thR b (some ⟨b, 0, none⟩) nd (fun j => if j = 0 then x else y)).at_ w := by
  refine ⟨h.1, fun _ => ⟨0, rfl, fun j hj => ?_⟩⟩
  rw [Nat.zero_add]
  match j, (show j < 2 by omega) with
  | 0, _ => exact h.2.1 0 _ rfl
  | 1, _ => exact h.2.1 1 _ rfl
theorem w64_pow (j : Int) (hj : 0 ≤ j ∧ j < 16) : wrap64 (2 ^ j.toNat) = 2 ^ j.toNat := by
  rcases (by omega : j = 0 ∨ j = 1 ∨ j = 2 ∨ j = 3 ∨ j = 4 ∨ j = 5 ∨ j = 6 ∨ j = 7 ∨ j = 8 ∨ j = 9 ∨ j = 10 ∨ j = 11 ∨ j = 12 ∨ j = 13 ∨ j = 14 ∨ j = 15) with rfl | rfl | rfl | rfl | rfl | rfl | rfl | rfl | rfl | rfl | rfl | rfl | rfl | rfl | rfl | rfl <;> simp [wrap64]
theorem zRgC (w : World) : (zeroValue 31).run Tryz.prog w = .ok (.agg ([.int .i64 0, .int .u64 0, .int .u64 0, .int .u64 0, .int .u64 0, .int .u64 0, .int .u64 0] : List Value).toArray) w := by kernel_rfl
theorem iRgC : (Tryz.prog.info? 31).map (·.size) = some 7 := by kernel_rfl
theorem ce7_ {w : World} {b : Nat} {v0 v1 v2 v3 v4 v5 v6 : Value} (h : Ce w b [v0, v1, v2, v3, v4, v5, v6]) : w.cell? ⟨b, 0, none⟩ = some v0 ∧ w.cell? ⟨b, 1, none⟩ = some v1 ∧ w.cell? ⟨b, 2, none⟩ = some v2 ∧ w.cell? ⟨b, 3, none⟩ = some v3 ∧ w.cell? ⟨b, 4, none⟩ = some v4 ∧ w.cell? ⟨b, 5, none⟩ = some v5 ∧ w.cell? ⟨b, 6, none⟩ = some v6 := ⟨h.2.1 0 _ rfl, h.2.1 1 _ rfl, h.2.1 2 _ rfl, h.2.1 3 _ rfl, h.2.1 4 _ rfl, h.2.1 5 _ rfl, h.2.1 6 _ rfl⟩
theorem ref_make {k : Int} (hk : k % 2 = 0 ∨ k % 2 = 1) (r : Rg) (f : Fl) (s : Int) (hf : f.I) (hs : 0 ≤ s ∧ s < 64) (w : World) : Calls Tryz.prog 19 #[rgV r, .int .i64 (1 + k % 2), flV f, .int .i64 s] w fun e w' => ∃ c, e = .returned (.int .i64 c) ∧ (0 ≤ c ∧ c < 1048576 ∧ (k % 2 = 1 → c < 65536)) ∧ Below w.heap.size w w' := by
  rcases hk with h | h
  · rw [h]
    refine (rmake1 r f s hf hs w).mono ?_
    rintro e w' ⟨rfl, hb⟩
    obtain ⟨_, _, _, h0, h1⟩ := cok_parts 4096 r.c 1 f s (r.e % 4) (.inl rfl) hs (by omega)
    exact ⟨_, rfl, ⟨h0, by omega, fun h => absurd h (by decide)⟩, hb⟩
  · rw [h]
    refine (rmake2 r f s hf hs w).mono ?_
    rintro e w' ⟨rfl, hb⟩
    obtain ⟨_, _, _, h0, h1⟩ := cok_parts 256 r.c 2 f s (r.e % 4) (.inr rfl) hs (by omega)
    exact ⟨_, rfl, ⟨h0, by omega, fun _ => by omega⟩, hb⟩
theorem xor_in {k c j : Int} (hk : k % 2 = 0 ∨ k % 2 = 1) (c0 : 0 ≤ c) (c1 : c < 1048576) (c2 : k % 2 = 1 → c < 65536) (hj : 0 ≤ j ∧ j < 16) : 0 ≤ bits .xor .i64 c (2 ^ j.toNat) ∧ bits .xor .i64 c (2 ^ j.toNat) < 1048576 ∧ (k % 2 = 1 → bits .xor .i64 c (2 ^ j.toNat) < 65536) := by
  have h20 := xor_bd c j 20 ⟨c0, c1⟩ hj (by omega) (by omega)
  exact ⟨h20.1, h20.2, fun h => (xor_bd c j 16 ⟨c0, c2 h⟩ hj (by omega) (by omega)).2⟩
attribute [local irreducible] FA FL mkBO
end Go.Proofs.YtjfopkbpaekejaaGreat
