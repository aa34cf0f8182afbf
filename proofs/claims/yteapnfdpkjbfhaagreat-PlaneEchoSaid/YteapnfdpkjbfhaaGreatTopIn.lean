/- A client's packet. -/
import Derived.Test.YteapnfdpkjbfhaaGreatGa
import Derived.Test.YteapnfdpkjbfhaaGreatTopTh
import Derived.Test.YteapnfdpkjbfhaaGreatTopChM
import Derived.Test.YteapnfdpkjbfhaaGreatGu
import Derived.Deep.CutBlock
import Derived.Deep.CutRange
import Derived.BigQuiet
import Derived.Deep.RegionHeld3
import Derived.Deep.Cut
import Derived.IntWalk
namespace Go.Proofs.YteapnfdpkjbfhaaGreat
set_option linter.unusedVariables false
set_option linter.unusedSimpArgs false
open Go.RowKit Go.ChangeShapes Go.WideShapes Go.ChangeAt
set_option maxRecDepth 100000
/-- A client's packet. -/
structure Inn (p : Pl) (x : Pk) : Prop where
 md : Mkd x
 lf : 1 ≤ x.life ∧ x.life ≤ 9
 pc : x.piece = 0
 src : 0 ≤ x.src ∧ x.src ≤ 4294967295
 dst : x.dst = p.a
 fp : 0 ≤ x.fp ∧ x.fp ≤ 65535
 tp : x.tp = p.p
theorem xor_bd (c j : Int) (N : Nat) (hc : 0 ≤ c ∧ c < 2 ^ N) (hj : 0 ≤ j ∧ j < 16) (hN : 16 ≤ N) (hN2 : N ≤ 20) : 0 ≤ bits .xor .i64 c (2 ^ j.toNat) ∧ bits .xor .i64 c (2 ^ j.toNat) < 2 ^ N := by
 obtain ⟨a, rfl⟩ := Int.eq_ofNat_of_zero_le hc.1
 obtain ⟨b, rfl⟩ := Int.eq_ofNat_of_zero_le hj.1
 have ha : a < 2 ^ N := by have := hc.2; exact_mod_cast this
 have hb : 2 ^ b < 2 ^ N := Nat.pow_lt_pow_right (by omega) (by omega)
 have h64 : (2 : Nat) ^ N ≤ 2 ^ 20 := Nat.pow_le_pow_right (by omega) hN2
 have hx : a ^^^ 2 ^ b < 2 ^ N := Nat.xor_lt_two_pow ha hb
 have e : bits .xor .i64 (a : Int) (2 ^ (b : Int).toNat) = ((a ^^^ 2 ^ b : Nat) : Int) := by
  have e1 : ((2 : Int) ^ (b : Int).toNat) = ((2 ^ b : Nat) : Int) := by simp
  rw [e1]
  show IntKind.i64.wrap ((BitVec.ofInt 64 (a : Int) ^^^ BitVec.ofInt 64 ((2 ^ b : Nat) : Int)).toNat : Int) = _
  rw [BitVec.toNat_xor, BitVec.ofInt_natCast, BitVec.ofInt_natCast, BitVec.toNat_ofNat, BitVec.toNat_ofNat, Nat.mod_eq_of_lt (by omega), Nat.mod_eq_of_lt (by omega)]
  exact IntWalk.i64_in _ (by omega)
 rw [e]
 exact ⟨by omega, by exact_mod_cast hx⟩
theorem within_any9 (a n : Int) (w : World) (hb : 0 < n) (hb' : n ≤ 4611686018427387904) :
 Calls Tryz.prog 31 #[.int .i64 a, .int .i64 n] w fun e w' => e = .returned (.int .i64 (wi a n)) ∧ w = w' := by
 have ht := tmod_bd a n hb
 have hn := hid (tmod_neg a n hb)
 have hp := hid (tmod_pos a n hb)
 obtain ⟨h1, h2⟩ := ht
 go_enter Tryz.func31, Tryz.ntmps31
 go_wp2
 ·go_ret
  exact ⟨ret_i64 (hn.out (by assumption)), rfl⟩
 ·go_ret
  exact ⟨ret_i64 (hp.out (by assumption)), rfl⟩
theorem u8_bd (x : Int) : 0 ≤ IntKind.u8.wrap x ∧ IntKind.u8.wrap x ≤ 255 := by
 show 0 ≤ x % 256 ∧ x % 256 ≤ 255
 omega
theorem u32_w (x : Int) : U32 (IntKind.u32.wrap x) := by
 unfold U32
 show 0 ≤ x % 4294967296 ∧ x % 4294967296 < 4294967296
 omega
theorem putV_u (v : Int) {c : Int} (hc : 0 ≤ c ∧ c < 1048576) : U32 (putV v c) := by
 unfold U32 putV
 omega
theorem HS.nilY {S : List Nat} {W w : World} {L : List Th} {f : Nat → Int} (h : HS S W w L) : HS S W w (thY (.slice none 0 0) 0 f :: L) := h.newY (Below.refl _ _) OB.nil
theorem HS.sub {S : List Nat} {W w : World} {L M : List Th} (h : HS S W w L) (hs : M.Sublist L) : HS S W w M := by
 obtain ⟨h1, h2, h3, h4⟩ := h
 have hm : ∀ b, b ∈ M.flatMap Th.bs → b ∈ L.flatMap Th.bs := fun b hb => by
  obtain ⟨x, hx, hxb⟩ := List.mem_flatMap.1 hb
  exact List.mem_flatMap.2 ⟨x, hs.subset hx, hxb⟩
 refine ⟨fun x hx => h1 x (hs.subset hx), h2, h3.sublist ?_, fun b hb => h4 b (hm b hb)⟩
 clear h1 h2 h3 h4 hm
 induction hs with
 | slnil => exact List.Sublist.refl _
 | cons a _ ih => rw [List.flatMap_cons]; exact ih.trans (List.sublist_append_right _ _)
 | cons_cons a _ ih => rw [List.flatMap_cons, List.flatMap_cons]; exact List.Sublist.append (List.Sublist.refl _) ih
theorem HS.join {S : List Nat} {W w w' : World} {L M : List Th} (h : HS S W w L) (k : HS [] w w' M) : HS S W w' (M ++ L) := by
 have hL := h.below k.bl
 refine ⟨fun x hx => ?_, hL.2.1, ?_, fun b hb => ?_⟩
 ·rcases List.mem_append.1 hx with hx | hx
  ·exact k.1 x hx
  ·exact hL.1 x hx
 ·rw [List.flatMap_append, List.nodup_append]
  refine ⟨k.2.2.1, hL.2.2.1, fun a ha b hb e => ?_⟩
  subst e
  obtain ⟨x, hx, hxa⟩ := List.mem_flatMap.1 hb
  have h1 := x.lt w (h.1 x hx) a hxa
  rcases k.2.2.2 a ha with h2 | h2
  ·cases h2
  ·omega
 ·rw [List.flatMap_append] at hb
  rcases List.mem_append.1 hb with hb | hb
  ·rcases k.2.2.2 b hb with h2 | h2
   ·cases h2
   ·exact .inr (Nat.le_trans h.wsize h2)
  ·exact hL.2.2.2 b hb
/-- A row that is read, in a block. -/
def thR (b : Nat) (A : Option Addr) (n : Nat) (f : Nat → Int) : Th := ⟨fun w => b < w.heap.size ∧ (0 < n → ∃ off, A = some ⟨b, off, none⟩ ∧ ∀ j, j < n → w.cell? ⟨b, off + j, none⟩ = some (.int .u8 (f j))), [b],
 fun w w' h e => ⟨lt_of_same h.1 (e b (by simp)), fun hn => by
  obtain ⟨off, rfl, hc⟩ := h.2 hn
  exact ⟨off, rfl, fun j hj => (World.cell?_of_block (a := ⟨b, off + j, none⟩) (e b (by simp))).trans (hc j hj)⟩⟩,
 fun _ h x hx => by simp at hx; subst hx; exact h.1⟩
theorem HS.byR {S : List Nat} {W w : World} {L : List Th} {b n : Nat} {A : Option Addr} {f : Nat → Int} (h : HS S W w L) (k : Nat) (hk : L[k]? = some (thR b A n f)) : By w A n f := fun hn => by
 obtain ⟨h1, h2⟩ := (show (thR b A n f).at_ w from h.nth k hk)
 obtain ⟨off, rfl, hc⟩ := h2 hn
 exact ⟨b, off, rfl, h1, hc⟩
theorem two_r {w : World} {b nd : Nat} {x y : Int} (h : Ce w b [.int .u8 x, .int .u8 y]) (hn : nd ≤ 2) : (thR b (some ⟨b, 0, none⟩) nd (fun j => if j = 0 then x else y)).at_ w := by
 refine ⟨h.1, fun _ => ⟨0, rfl, fun j hj => ?_⟩⟩
 rw [Nat.zero_add]
 match j, (show j < 2 by omega) with
 | 0, _ => exact h.2.1 0 _ rfl
 | 1, _ => exact h.2.1 1 _ rfl
theorem w64_pow (j : Int) (hj : 0 ≤ j ∧ j < 16) : wrap64 (2 ^ j.toNat) = 2 ^ j.toNat := by
 rcases (by omega : j = 0 ∨ j = 1 ∨ j = 2 ∨ j = 3 ∨ j = 4 ∨ j = 5 ∨ j = 6 ∨ j = 7 ∨ j = 8 ∨ j = 9 ∨ j = 10 ∨ j = 11 ∨ j = 12 ∨ j = 13 ∨ j = 14 ∨ j = 15) with rfl | rfl | rfl | rfl | rfl | rfl | rfl | rfl | rfl | rfl | rfl | rfl | rfl | rfl | rfl | rfl <;> simp [wrap64]
theorem zRgC (w : World) : (zeroValue 31).run Tryz.prog w = .ok (.agg ([.int .i64 0, .int .u64 0, .int .u64 0, .int .u64 0, .int .u64 0, .int .u64 0, .int .u64 0] : List Value).toArray) w := by kernel_rfl
theorem iRgC : (Tryz.prog.info? 31).map (·.size) = some 7 := by kernel_rfl
theorem ce7_ {w : World} {b : Nat} {v0 v1 v2 v3 v4 v5 v6 : Value} (h : Ce w b [v0, v1, v2, v3, v4, v5, v6]) : w.cell? ⟨b, 0, none⟩ = some v0 ∧ w.cell? ⟨b, 1, none⟩ = some v1 ∧ w.cell? ⟨b, 2, none⟩ = some v2 ∧ w.cell? ⟨b, 3, none⟩ = some v3 ∧ w.cell? ⟨b, 4, none⟩ = some v4 ∧ w.cell? ⟨b, 5, none⟩ = some v5 ∧ w.cell? ⟨b, 6, none⟩ = some v6 := ⟨h.2.1 0 _ rfl, h.2.1 1 _ rfl, h.2.1 2 _ rfl, h.2.1 3 _ rfl, h.2.1 4 _ rfl, h.2.1 5 _ rfl, h.2.1 6 _ rfl⟩
theorem ref_make {k : Int} (hk : k % 2 = 0 ∨ k % 2 = 1) (r : Rg) (f : Fl) (s : Int) (hf : f.I) (hs : 0 ≤ s ∧ s < 64) (w : World) : Calls Tryz.prog 37 #[rgV r, .int .i64 (1 + k % 2), flV f, .int .i64 s] w fun e w' => ∃ c, e = .returned (.int .i64 c) ∧ (0 ≤ c ∧ c < 1048576 ∧ (k % 2 = 1 → c < 65536)) ∧ Below w.heap.size w w' := by
 rcases hk with h | h
 ·rw [h]
  refine (rmake1 r f s hf hs w).mono ?_
  rintro e w' ⟨rfl, hb⟩
  obtain ⟨_, _, _, h0, h1⟩ := cok_parts 4096 r.c 1 f s (r.e % 4) (.inl rfl) hs (by omega)
  exact ⟨_, rfl, ⟨h0, by omega, fun h => absurd h (by decide)⟩, hb⟩
 ·rw [h]
  refine (rmake2 r f s hf hs w).mono ?_
  rintro e w' ⟨rfl, hb⟩
  obtain ⟨_, _, _, h0, h1⟩ := cok_parts 256 r.c 2 f s (r.e % 4) (.inr rfl) hs (by omega)
  exact ⟨_, rfl, ⟨h0, by omega, fun _ => by omega⟩, hb⟩
theorem xor_in {k c j : Int} (hk : k % 2 = 0 ∨ k % 2 = 1) (c0 : 0 ≤ c) (c1 : c < 1048576) (c2 : k % 2 = 1 → c < 65536) (hj : 0 ≤ j ∧ j < 16) : 0 ≤ bits .xor .i64 c (2 ^ j.toNat) ∧ bits .xor .i64 c (2 ^ j.toNat) < 1048576 ∧ (k % 2 = 1 → bits .xor .i64 c (2 ^ j.toNat) < 65536) := by
 have h20 := xor_bd c j 20 ⟨c0, c1⟩ hj (by omega) (by omega)
 exact ⟨h20.1, h20.2, fun h => (xor_bd c j 16 ⟨c0, c2 h⟩ hj (by omega) (by omega)).2⟩
attribute [local irreducible] FA FL mkBO
set_option maxHeartbeats 8000000 in
theorem l9in_any (p : Pl) (hp : Pt p) (n m : Int) (hn : -9223372036854775808 ≤ n ∧ n ≤ 9223372036854775807) (hm : -9223372036854775808 ≤ m ∧ m ≤ 9223372036854775807) (w : World) : Calls Tryz.prog 12 #[.agg (FA 330 (pc p)), .int .i64 n, .int .i64 m] w fun e w' => ∃ x AO cO AD cD bD, e = .returned (.agg #[.int .i64 x.kind, .int .i64 x.life, .int .i64 x.piece, .int .i64 x.src, .int .i64 x.dst, .int .i64 x.fp, .int .i64 x.tp, .int .i64 x.flags, .int .i64 x.label, .bool x.bare, .int .i64 x.code, .slice AO x.no cO, .slice AD x.nd cD]) ∧ x.no ≤ cO ∧ Inn p x ∧ HS [] w w' [thY (.slice AO x.no cO) x.no x.go, thR bD AD x.nd x.gd] := by
 obtain ⟨k, hk⟩ : ∃ k, k = wi n 1125899906842624 := ⟨_, rfl⟩
 have kb := wi_bd n 1125899906842624 (by omega)
 rw [← hk] at kb
 have WK := hid (fun (w : World) => re_i64 (within_any9 n 1125899906842624 w (by omega) (by omega)) hk.symm)
 clear hk
 obtain ⟨kb1, kb2⟩ := kb
 obtain ⟨m16, hm16⟩ : ∃ x, x = wi m 65536 := ⟨_, rfl⟩
 have bm16 := wi_bd m 65536 (by omega)
 rw [← hm16] at bm16
 have Wm16 := hid (fun w => re_i64 (within_any9 m 65536 w (by omega) (by omega)) hm16.symm)
 clear hm16
 obtain ⟨bm161, bm162⟩ := bm16
 obtain ⟨mj, hmj⟩ : ∃ x, x = wi m 16 := ⟨_, rfl⟩
 have bmj := wi_bd m 16 (by omega)
 rw [← hmj] at bmj
 have Wmj := hid (fun w => re_i64 (within_any9 m 16 w (by omega) (by omega)) hmj.symm)
 clear hmj
 obtain ⟨bmj1, bmj2⟩ := bmj
 obtain ⟨nd, hnd⟩ : ∃ nd : Nat, k / 270 % 3 = (nd : Int) := ⟨(k / 270 % 3).toNat, by omega⟩
 have hnd2 : (nd : Int) ≤ 2 := by omega
 have hnd0 : (0 : Int) ≤ nd := by omega
 have hpa := hp.2.2.2.1
 have hpp := hp.2.2.2.2
 have hpe := hp.2.1
 have HEP := hid hpe
 have hK2 : k % 2 = 0 ∨ k % 2 = 1 := by omega
 have FI : (⟨(1000 + k / 18 % 5), (k / 90 % 3), p.a, p.p⟩ : Fl).I := ⟨⟨by show _ ≤ (1000 + k / 18 % 5); omega, by show (1000 + k / 18 % 5) ≤ _; omega⟩, ⟨by show _ ≤ (k / 90 % 3); omega, by show (k / 90 % 3) ≤ _; omega⟩, ⟨by show _ ≤ p.a; omega, by show p.a ≤ _; omega⟩, ⟨by show _ ≤ p.p; omega, by show p.p ≤ _; omega⟩⟩
 have RMA := hid (fun (w : World) => (show Calls Tryz.prog 37 #[.agg #[.int .i64 p.r.e, .int .u64 p.r.p.a, .int .u64 p.r.p.b, .int .u64 p.r.c.a, .int .u64 p.r.c.b, .int .u64 p.r.n.a, .int .u64 p.r.n.b], .int .i64 (1 + k % 2), .agg #[.int .i64 (1000 + k / 18 % 5), .int .i64 (k / 90 % 3), .int .i64 p.a, .int .i64 p.p], .int .i64 (k / 810 % 7)] w fun e w' => ∃ c, e = .returned (.int .i64 c) ∧ (0 ≤ c ∧ c < 1048576 ∧ (k % 2 = 1 → c < 65536)) ∧ Below w.heap.size w w' from ref_make hK2 (p.r) ⟨(1000 + k / 18 % 5), (k / 90 % 3), p.a, p.p⟩ (k / 810 % 7) FI ⟨by omega, by omega⟩ w))
 have RMB := hid (fun (w : World) => (show Calls Tryz.prog 37 #[.agg #[.int .i64 (p.r.e - 1), .int .u64 p.r.p.a, .int .u64 p.r.p.b, .int .u64 p.r.p.a, .int .u64 p.r.p.b, .int .u64 p.r.c.a, .int .u64 p.r.c.b], .int .i64 (1 + k % 2), .agg #[.int .i64 (1000 + k / 18 % 5), .int .i64 (k / 90 % 3), .int .i64 p.a, .int .i64 p.p], .int .i64 (k / 810 % 7)] w fun e w' => ∃ c, e = .returned (.int .i64 c) ∧ (0 ≤ c ∧ c < 1048576 ∧ (k % 2 = 1 → c < 65536)) ∧ Below w.heap.size w w' from ref_make hK2 (⟨p.r.e - 1, p.r.p, p.r.p, p.r.c⟩) ⟨(1000 + k / 18 % 5), (k / 90 % 3), p.a, p.p⟩ (k / 810 % 7) FI ⟨by omega, by omega⟩ w))
 have HPB := hid hpe
 obtain ⟨he1, he2⟩ := hpe
 have FIH := hid FI
 clear FI
 have S0 : Hid (HS [] w w []) := hid HS.start
 go_enter Tryz.func12, Tryz.ntmps12
 go_upto_region 1 with (first | ((with_reducible refine wl_id ?_); refine wl_ow rfl (ow_box rfl rfl (by omega) S0.out ?_); intro P w_ hZ _; have SX := hid hZ; clear hZ) | ((with_reducible refine wl_id ?_); refine wl_ow rfl (ow_allocC rfl (zPk _) (by simp) SX.out ?_); intro R w_ hZ _; have SY := hid hZ; clear hZ))
 have S1 : Hid (HS [] w _ [thC R [.int .i64 0, .int .i64 0, .int .i64 0, .int .i64 0, .int .i64 0, .int .i64 0, .int .i64 0, .int .i64 0, .int .i64 0, .bool false, .int .i64 0, .slice none 0 0, .slice none 0 0], thB P 330 (pc p)]) := hid (SY.out)
 clear SX SY S0
 go_wp2_with fail
 refine (WK.out _).mono ?_
 rintro e w' ⟨rfl, rfl⟩
 skip
 go_upto_region 2 with (fail)
 go_cut [8] from 14 to 42 (fun v wx => ∃ X b, v = .pointer (some ⟨X, 0, none⟩) ∧ HS [] w wx [thC X [.int .i64 (1 + k % 2), .int .i64 (1 + k / 2 % 9), .int .i64 0, .int .i64 (1000 + k / 18 % 5), .int .i64 p.a, .int .i64 (k / 90 % 3), .int .i64 p.p, .int .i64 0, .int .i64 0, .bool false, .int .i64 0, .slice none 0 0, .slice (some ⟨b, 0, none⟩) nd 2], thC b [.int .u8 (IntKind.u8.wrap k), .int .u8 (IntKind.u8.wrap (k / 7))], thC R [.int .i64 0, .int .i64 0, .int .i64 0, .int .i64 0, .int .i64 0, .int .i64 0, .int .i64 0, .int .i64 0, .int .i64 0, .bool false, .int .i64 0, .slice none 0 0, .slice none 0 0], thB P 330 (pc p)])
 case first =>
  refine wp_region_held_drew (S := fun (w' : World) => HS [] w w' [thC R [.int .i64 0, .int .i64 0, .int .i64 0, .int .i64 0, .int .i64 0, .int .i64 0, .int .i64 0, .int .i64 0, .int .i64 0, .bool false, .int .i64 0, .slice none 0 0, .slice none 0 0], thB P 330 (pc p)]) (by kernel_rfl) ?_ (fun hHeld => ?_)
  ·exact S1.out.drew
  have d_2 : IntKind.i64.wrap (k.tdiv 2) = k / 2 := by rw [Int.tdiv_eq_ediv_of_nonneg kb1]; exact IntWalk.i64_in _ (by omega)
  have d_18 : IntKind.i64.wrap (k.tdiv 18) = k / 18 := by rw [Int.tdiv_eq_ediv_of_nonneg kb1]; exact IntWalk.i64_in _ (by omega)
  have d_90 : IntKind.i64.wrap (k.tdiv 90) = k / 90 := by rw [Int.tdiv_eq_ediv_of_nonneg kb1]; exact IntWalk.i64_in _ (by omega)
  have d_7 : IntKind.i64.wrap (k.tdiv 7) = k / 7 := by rw [Int.tdiv_eq_ediv_of_nonneg kb1]; exact IntWalk.i64_in _ (by omega)
  have d_270 : IntKind.i64.wrap (k.tdiv 270) = k / 270 := by rw [Int.tdiv_eq_ediv_of_nonneg kb1]; exact IntWalk.i64_in _ (by omega)
  have m_a : Int.tmod k 2 = k % 2 := Int.tmod_eq_emod_of_nonneg (by omega)
  have m_b : Int.tmod (k / 2) 9 = (k / 2) % 9 := Int.tmod_eq_emod_of_nonneg (by omega)
  have m_c : Int.tmod (k / 18) 5 = (k / 18) % 5 := Int.tmod_eq_emod_of_nonneg (by omega)
  have m_d : Int.tmod (k / 90) 3 = (k / 90) % 3 := Int.tmod_eq_emod_of_nonneg (by omega)
  have m_e : Int.tmod (k / 270) 3 = (k / 270) % 3 := Int.tmod_eq_emod_of_nonneg (by omega)
  have w_a : IntKind.i64.wrap (1 + k % 2) = 1 + k % 2 := IntWalk.i64_in _ (by omega)
  have w_b : IntKind.i64.wrap (1 + k / 2 % 9) = 1 + k / 2 % 9 := IntWalk.i64_in _ (by omega)
  have w_c : IntKind.i64.wrap (1000 + k / 18 % 5) = 1000 + k / 18 % 5 := IntWalk.i64_in _ (by omega)
  refine tkq 0 hHeld ?_
  refine tkq 1 hHeld ?_
  refine tkq 2 hHeld ?_
  refine tkq 3 hHeld ?_
  refine tkq 4 hHeld ?_
  refine tkq 5 hHeld ?_
  refine tkq 6 hHeld ?_
  refine tkq 7 hHeld ?_
  refine tkq 8 hHeld ?_
  refine tkq 9 hHeld ?_
  refine tkq 10 hHeld ?_
  refine tkq 11 hHeld ?_
  refine tkq 12 hHeld ?_ (hy := by intro w hSw; (try dsimp only at hSw); have x0 := (pool_fb (hSw.fb 1 rfl)).c1; go_simp; (try with_reducible rfl))
  refine tkq 13 hHeld ?_
  refine tkq 14 hHeld ?_
  refine tkq 15 hHeld ?_
  refine tkq 16 hHeld ?_
  refine tkq 17 hHeld ?_ (hy := by intro w hSw; (try dsimp only at hSw); have x0 := (pool_fb (hSw.fb 1 rfl)).c2; go_simp; (try with_reducible rfl))
  refine tkq 18 hHeld ?_
  refine tkq 19 hHeld ?_
  refine tkq 20 hHeld ?_
  refine tkq 21 hHeld ?_
  refine tkq 22 hHeld ?_
  refine tkq 24 hHeld ?_
  refine tkq 25 hHeld ?_
  refine tkq 26 hHeld ?_
  refine twoUp 23 29 rfl rfl (by kernel_rfl) rfl rfl (fun K hK => ?_) (fun K hK => ?_)
  ·go_simp
   have zhz0 := HS.cells hHeld (T := 5) [.int .u8 (IntKind.u8.wrap k), .int .u8 (IntKind.u8.wrap (k / 7))]
   refine hK.out _ _ zhz0.tail (fun hz0 => ?_)
   clear hK
   try simp only [Act.put, List.setIfInBounds_toArray, List.set_cons_zero, List.set_cons_succ]
   refine tkq 27 hz0 ?_
   refine tkq 28 hz0 ?_
   refine only 29 rfl (by kernel_rfl) rfl (fun K hK => ?_)
   refine ow_allocC rfl (zPk _) (by simp) zhz0 (fun X w21 zhz1 _ => ?_)
   refine hK.out _ _ zhz1.tail.tail (fun hz1 => ?_)
   clear hK
   try simp only [Act.put, List.setIfInBounds_toArray, List.set_cons_zero, List.set_cons_succ]
   refine only 30 rfl (by kernel_rfl) rfl (fun K hK => ?_)
   refine ow_storeC (A := []) [.int .i64 (1 + k % 2), .int .i64 (1 + k / 2 % 9), .int .i64 0, .int .i64 (1000 + k / 18 % 5), .int .i64 p.a, .int .i64 (k / 90 % 3), .int .i64 p.p, .int .i64 0, .int .i64 0, .bool false, .int .i64 0, .slice none 0 0, .slice (some ⟨_, 0, none⟩) nd 2] rfl rfl rfl zhz1 rfl iPk rfl (fun w22 hY => ?_)
   refine hK.out _ _ hY.tail.tail (fun _ => ?_)
   clear hK
   try simp only [Act.put, List.setIfInBounds_toArray, List.set_cons_zero, List.set_cons_succ]
   refine wpAnyH_done (by kernel_rfl) ?_ _
   go_wp2_with fail
   go_meet
   exact ⟨X, _, rfl, hY⟩
  ·refine ow_allocC rfl (zPk _) (by simp) hHeld (fun X w21 zhz0 _ => ?_)
   refine hK.out _ _ zhz0.tail (fun hz0 => ?_)
   clear hK
   try simp only [Act.put, List.setIfInBounds_toArray, List.set_cons_zero, List.set_cons_succ]
   refine only 23 rfl (by kernel_rfl) rfl (fun K hK => ?_)
   go_simp
   have zhz1 := HS.cells zhz0 (T := 5) [.int .u8 (IntKind.u8.wrap k), .int .u8 (IntKind.u8.wrap (k / 7))]
   refine hK.out _ _ zhz1.tail.tail (fun hz1 => ?_)
   clear hK
   try simp only [Act.put, List.setIfInBounds_toArray, List.set_cons_zero, List.set_cons_succ]
   refine tkq 27 hz1 ?_
   refine tkq 28 hz1 ?_
   refine only 30 rfl (by kernel_rfl) rfl (fun K hK => ?_)
   have zhz1s := HS.swap_ zhz1
   refine ow_storeC (A := []) [.int .i64 (1 + k % 2), .int .i64 (1 + k / 2 % 9), .int .i64 0, .int .i64 (1000 + k / 18 % 5), .int .i64 p.a, .int .i64 (k / 90 % 3), .int .i64 p.p, .int .i64 0, .int .i64 0, .bool false, .int .i64 0, .slice none 0 0, .slice (some ⟨_, 0, none⟩) nd 2] rfl rfl rfl zhz1s rfl iPk rfl (fun w22 hY => ?_)
   refine hK.out _ _ hY.tail.tail (fun _ => ?_)
   clear hK
   try simp only [Act.put, List.setIfInBounds_toArray, List.set_cons_zero, List.set_cons_succ]
   refine wpAnyH_done (by kernel_rfl) ?_ _
   go_wp2_with fail
   go_meet
   exact ⟨X, _, rfl, hY⟩
 case rest =>
  obtain ⟨X, b, rfl, hz⟩ := hcut
  have S2 : Hid (HS [] w _ [thC X [.int .i64 (1 + k % 2), .int .i64 (1 + k / 2 % 9), .int .i64 0, .int .i64 (1000 + k / 18 % 5), .int .i64 p.a, .int .i64 (k / 90 % 3), .int .i64 p.p, .int .i64 0, .int .i64 0, .bool false, .int .i64 0, .slice none 0 0, .slice (some ⟨b, 0, none⟩) nd 2], thC b [.int .u8 (IntKind.u8.wrap k), .int .u8 (IntKind.u8.wrap (k / 7))], thC R [.int .i64 0, .int .i64 0, .int .i64 0, .int .i64 0, .int .i64 0, .int .i64 0, .int .i64 0, .int .i64 0, .int .i64 0, .bool false, .int .i64 0, .slice none 0 0, .slice none 0 0], thB P 330 (pc p)]) := hid (hz)
  clear hz S1
  have y3 := (S2.out.ce 0 rfl).2.1 3 _ rfl
  have y5 := (S2.out.ce 0 rfl).2.1 5 _ rfl
  have x1 := (pool_fb (S2.out.fb 3 rfl)).c1
  have x2 := (pool_fb (S2.out.fb 3 rfl)).c2
  go_upto_region 4 with (first | ((with_reducible refine wl_id ?_); refine wl_ow rfl (ow_allocC rfl (zFl _) (by simp) S2.out ?_); intro Q w_ hZ _; have SY := hid hZ; clear hZ) | ((with_reducible refine wl_id ?_); refine wl_ow rfl (ow_storeC (A := []) [.int .i64 (1000 + k / 18 % 5), .int .i64 (k / 90 % 3), .int .i64 p.a, .int .i64 p.p] rfl rfl (rfl) SY.out rfl iFl rfl ?_); intro w_ hZ; have SX := hid hZ; clear hZ))
  clear y3 y5 x1 x2
  have S3 : Hid (HS [] w _ [thC Q [.int .i64 (1000 + k / 18 % 5), .int .i64 (k / 90 % 3), .int .i64 p.a, .int .i64 p.p], thC X [.int .i64 (1 + k % 2), .int .i64 (1 + k / 2 % 9), .int .i64 0, .int .i64 (1000 + k / 18 % 5), .int .i64 p.a, .int .i64 (k / 90 % 3), .int .i64 p.p, .int .i64 0, .int .i64 0, .bool false, .int .i64 0, .slice none 0 0, .slice (some ⟨b, 0, none⟩) nd 2], thC b [.int .u8 (IntKind.u8.wrap k), .int .u8 (IntKind.u8.wrap (k / 7))], thC R [.int .i64 0, .int .i64 0, .int .i64 0, .int .i64 0, .int .i64 0, .int .i64 0, .int .i64 0, .int .i64 0, .int .i64 0, .bool false, .int .i64 0, .slice none 0 0, .slice none 0 0], thB P 330 (pc p)]) := hid (SX.out)
  clear SX SY S2
  obtain ⟨r0, r1, r2, r3, r4, r5, r6⟩ := (pool_fb (S3.out.fb 4 rfl)).r7
  have y0 := (S3.out.ce 1 rfl).2.1 0 _ rfl
  obtain ⟨f0, f1, f2, f3⟩ := (S3.out.ce 0 rfl).c4
  go_wp2_with fail
  refine (RMA.out _).mono ?_
  rintro e w5 ⟨c, rfl, hcb, hb⟩
  have S4 : Hid (HS [] w w5 [thC Q [.int .i64 (1000 + k / 18 % 5), .int .i64 (k / 90 % 3), .int .i64 p.a, .int .i64 p.p], thC X [.int .i64 (1 + k % 2), .int .i64 (1 + k / 2 % 9), .int .i64 0, .int .i64 (1000 + k / 18 % 5), .int .i64 p.a, .int .i64 (k / 90 % 3), .int .i64 p.p, .int .i64 0, .int .i64 0, .bool false, .int .i64 0, .slice none 0 0, .slice (some ⟨b, 0, none⟩) nd 2], thC b [.int .u8 (IntKind.u8.wrap k), .int .u8 (IntKind.u8.wrap (k / 7))], thC R [.int .i64 0, .int .i64 0, .int .i64 0, .int .i64 0, .int .i64 0, .int .i64 0, .int .i64 0, .int .i64 0, .int .i64 0, .bool false, .int .i64 0, .slice none 0 0, .slice none 0 0], thB P 330 (pc p)]) := hid (S3.out.below hb)
  clear hb S3 y0 f0 f1 f2 f3
  have HCB := hid hcb
  clear hcb
  go_simp
  clear r0 r1 r2 r3 r4 r5 r6 RMA
  go_upto_block 0 with (fail)
  go_cut [10, 11] from 64 to 99 (fun v r wx => ∃ c, v = .int .i64 c ∧ (0 ≤ c ∧ c < 1048576 ∧ (k % 2 = 1 → c < 65536)) ∧ HS [] w wx [thC Q [.int .i64 (1000 + k / 18 % 5), .int .i64 (k / 90 % 3), .int .i64 p.a, .int .i64 p.p], thC X [.int .i64 (1 + k % 2), .int .i64 (1 + k / 2 % 9), .int .i64 0, .int .i64 (1000 + k / 18 % 5), .int .i64 p.a, .int .i64 (k / 90 % 3), .int .i64 p.p, .int .i64 0, .int .i64 0, .bool false, .int .i64 0, .slice none 0 0, .slice (some ⟨b, 0, none⟩) nd 2], thC b [.int .u8 (IntKind.u8.wrap k), .int .u8 (IntKind.u8.wrap (k / 7))], thC R [.int .i64 0, .int .i64 0, .int .i64 0, .int .i64 0, .int .i64 0, .int .i64 0, .int .i64 0, .int .i64 0, .int .i64 0, .bool false, .int .i64 0, .slice none 0 0, .slice none 0 0], thB P 330 (pc p)])
  case first =>
   cases e0 : (k / 5670 % 6 == 0)
   ·cases e1 : (k / 5670 % 6 == 1)
    ·cases e2 : (k / 5670 % 6 == 2)
     ·go_wp2_with fail
      go_meet
      exact ⟨c, rfl, HCB.out, S4.out⟩
     ·obtain ⟨r0, r1, r2, r3, r4, r5, r6⟩ := (pool_fb (S4.out.fb 4 rfl)).r7
      go_upto_region 12 with (first | ((with_reducible refine wl_id ?_); refine wl_ow rfl (ow_allocC rfl (zRgC _) (by simp) S4.out ?_); intro V w_ hZ _; have SY := hid hZ; clear hZ) | ((with_reducible refine wl_id ?_); refine wl_ow rfl (ow_storeC (A := []) [.int .i64 (p.r.e - 1), .int .u64 p.r.p.a, .int .u64 p.r.p.b, .int .u64 p.r.p.a, .int .u64 p.r.p.b, .int .u64 p.r.c.a, .int .u64 p.r.c.b] rfl rfl (rfl) SY.out rfl iRgC rfl ?_); intro w_ hZ; have SX := hid hZ; clear hZ))
      clear r0 r1 r2 r3 r4 r5 r6
      have S5 : Hid (HS [] w _ [thC V [.int .i64 (p.r.e - 1), .int .u64 p.r.p.a, .int .u64 p.r.p.b, .int .u64 p.r.p.a, .int .u64 p.r.p.b, .int .u64 p.r.c.a, .int .u64 p.r.c.b], thC Q [.int .i64 (1000 + k / 18 % 5), .int .i64 (k / 90 % 3), .int .i64 p.a, .int .i64 p.p], thC X [.int .i64 (1 + k % 2), .int .i64 (1 + k / 2 % 9), .int .i64 0, .int .i64 (1000 + k / 18 % 5), .int .i64 p.a, .int .i64 (k / 90 % 3), .int .i64 p.p, .int .i64 0, .int .i64 0, .bool false, .int .i64 0, .slice none 0 0, .slice (some ⟨b, 0, none⟩) nd 2], thC b [.int .u8 (IntKind.u8.wrap k), .int .u8 (IntKind.u8.wrap (k / 7))], thC R [.int .i64 0, .int .i64 0, .int .i64 0, .int .i64 0, .int .i64 0, .int .i64 0, .int .i64 0, .int .i64 0, .int .i64 0, .bool false, .int .i64 0, .slice none 0 0, .slice none 0 0], thB P 330 (pc p)]) := hid (SX.out)
      clear SX SY
      obtain ⟨r0, r1, r2, r3, r4, r5, r6⟩ := ce7_ (S5.out.ce 0 rfl)
      skip
      have y0 := (S5.out.ce 2 rfl).2.1 0 _ rfl
      obtain ⟨f0, f1, f2, f3⟩ := (S5.out.ce 1 rfl).c4
      go_wp2_with fail
      refine (RMB.out _).mono ?_
      rintro e w6 ⟨c, rfl, hcb, hb⟩
      have S6 : Hid (HS [] w w6 [thC V [.int .i64 (p.r.e - 1), .int .u64 p.r.p.a, .int .u64 p.r.p.b, .int .u64 p.r.p.a, .int .u64 p.r.p.b, .int .u64 p.r.c.a, .int .u64 p.r.c.b], thC Q [.int .i64 (1000 + k / 18 % 5), .int .i64 (k / 90 % 3), .int .i64 p.a, .int .i64 p.p], thC X [.int .i64 (1 + k % 2), .int .i64 (1 + k / 2 % 9), .int .i64 0, .int .i64 (1000 + k / 18 % 5), .int .i64 p.a, .int .i64 (k / 90 % 3), .int .i64 p.p, .int .i64 0, .int .i64 0, .bool false, .int .i64 0, .slice none 0 0, .slice (some ⟨b, 0, none⟩) nd 2], thC b [.int .u8 (IntKind.u8.wrap k), .int .u8 (IntKind.u8.wrap (k / 7))], thC R [.int .i64 0, .int .i64 0, .int .i64 0, .int .i64 0, .int .i64 0, .int .i64 0, .int .i64 0, .int .i64 0, .int .i64 0, .bool false, .int .i64 0, .slice none 0 0, .slice none 0 0], thB P 330 (pc p)]) := hid (S5.out.below hb)
      clear hb S5 y0 f0 f1 f2 f3
      have HCB := hid hcb
      clear hcb
      go_simp
      go_wp2_with fail
      go_meet
      exact ⟨c, rfl, HCB.out, S6.out.tail⟩
    ·go_wp2_with fail
     refine (Wmj.out _).mono ?_
     rintro e w' ⟨rfl, rfl⟩
     obtain ⟨c0, c1, c2⟩ := HCB.out
     have hx := xor_in hK2 c0 c1 c2 ⟨bmj1, bmj2⟩
     have hw64 := w64_pow mj ⟨bmj1, bmj2⟩
     go_wp2_with fail
     skip
     try rw [hw64]
     generalize bits BinOp.xor IntKind.i64 c (2 ^ mj.toNat) = xc at *
     go_meet
     exact ⟨xc, rfl, hx, S4.out⟩
   ·go_wp2_with fail
    refine (Wm16.out _).mono ?_
    rintro e w' ⟨rfl, rfl⟩
    go_wp2_with fail
    go_meet
    exact ⟨m16, rfl, ⟨bm161, by omega, fun _ => by omega⟩, S4.out⟩
  case rest =>
   skip
   obtain ⟨cc, rfl, hcb, hz⟩ := hcut
   have S5 : Hid (HS [] w _ [thC Q [.int .i64 (1000 + k / 18 % 5), .int .i64 (k / 90 % 3), .int .i64 p.a, .int .i64 p.p], thC X [.int .i64 (1 + k % 2), .int .i64 (1 + k / 2 % 9), .int .i64 0, .int .i64 (1000 + k / 18 % 5), .int .i64 p.a, .int .i64 (k / 90 % 3), .int .i64 p.p, .int .i64 0, .int .i64 0, .bool false, .int .i64 0, .slice none 0 0, .slice (some ⟨b, 0, none⟩) nd 2], thC b [.int .u8 (IntKind.u8.wrap k), .int .u8 (IntKind.u8.wrap (k / 7))], thC R [.int .i64 0, .int .i64 0, .int .i64 0, .int .i64 0, .int .i64 0, .int .i64 0, .int .i64 0, .int .i64 0, .int .i64 0, .bool false, .int .i64 0, .slice none 0 0, .slice none 0 0], thB P 330 (pc p)]) := hid (hz)
   clear hz S4
   obtain ⟨c0, c1, c2⟩ := hcb
   have y0 := (S5.out.ce 1 rfl).2.1 0 _ rfl
   rcases hK2 with hk2 | hk2
   ·have k2 : (1 + k % 2 == 2) = false := by simp [hk2]
    have HK := hid hk2
    clear hk2
    have yf := (S5.out.ce 1 rfl).2.2
    have yf7 := yf 7
    have y7 := (S5.out.ce 1 rfl).2.1 7 _ rfl
    have yl := (S5.out.ce 1 rfl).1
    go_upto_region 17 with (fail)
    clear yf yf7 y7 yl y0 k2
    have S6 : Hid (HS [] w _ [thC Q [.int .i64 (1000 + k / 18 % 5), .int .i64 (k / 90 % 3), .int .i64 p.a, .int .i64 p.p], thC X [.int .i64 (1 + k % 2), .int .i64 (1 + k / 2 % 9), .int .i64 0, .int .i64 (1000 + k / 18 % 5), .int .i64 p.a, .int .i64 (k / 90 % 3), .int .i64 p.p, .int .i64 (k / 34020 % 16), .int .i64 0, .bool false, .int .i64 0, .slice none 0 0, .slice (some ⟨b, 0, none⟩) nd 2], thC b [.int .u8 (IntKind.u8.wrap k), .int .u8 (IntKind.u8.wrap (k / 7))], thC R [.int .i64 0, .int .i64 0, .int .i64 0, .int .i64 0, .int .i64 0, .int .i64 0, .int .i64 0, .int .i64 0, .int .i64 0, .bool false, .int .i64 0, .slice none 0 0, .slice none 0 0], thB P 330 (pc p)]) := hid (HS.setC (A := [thC Q [.int .i64 (1000 + k / 18 % 5), .int .i64 (k / 90 % 3), .int .i64 p.a, .int .i64 p.p]]) (B := [thC b [.int .u8 (IntKind.u8.wrap k), .int .u8 (IntKind.u8.wrap (k / 7))], thC R [.int .i64 0, .int .i64 0, .int .i64 0, .int .i64 0, .int .i64 0, .int .i64 0, .int .i64 0, .int .i64 0, .int .i64 0, .bool false, .int .i64 0, .slice none 0 0, .slice none 0 0], thB P 330 (pc p)]) S5.out 7 (.int .i64 (k / 34020 % 16)) (by simp))
    clear S5
    have S7 : Hid (HS [] w _ [thC X [.int .i64 (1 + k % 2), .int .i64 (1 + k / 2 % 9), .int .i64 0, .int .i64 (1000 + k / 18 % 5), .int .i64 p.a, .int .i64 (k / 90 % 3), .int .i64 p.p, .int .i64 (k / 34020 % 16), .int .i64 0, .bool false, .int .i64 0, .slice none 0 0, .slice (some ⟨b, 0, none⟩) nd 2], thC Q [.int .i64 (1000 + k / 18 % 5), .int .i64 (k / 90 % 3), .int .i64 p.a, .int .i64 p.p], thC b [.int .u8 (IntKind.u8.wrap k), .int .u8 (IntKind.u8.wrap (k / 7))], thC R [.int .i64 0, .int .i64 0, .int .i64 0, .int .i64 0, .int .i64 0, .int .i64 0, .int .i64 0, .int .i64 0, .int .i64 0, .bool false, .int .i64 0, .slice none 0 0, .slice none 0 0], thB P 330 (pc p)]) := hid (HS.swap_ S6.out)
    clear S6
    have S8 : Hid (HS [] w _ [thY (.slice none 0 0) 0 (fun _ => 0), thC X [.int .i64 (1 + k % 2), .int .i64 (1 + k / 2 % 9), .int .i64 0, .int .i64 (1000 + k / 18 % 5), .int .i64 p.a, .int .i64 (k / 90 % 3), .int .i64 p.p, .int .i64 (k / 34020 % 16), .int .i64 0, .bool false, .int .i64 0, .slice none 0 0, .slice (some ⟨b, 0, none⟩) nd 2], thC Q [.int .i64 (1000 + k / 18 % 5), .int .i64 (k / 90 % 3), .int .i64 p.a, .int .i64 p.p], thC b [.int .u8 (IntKind.u8.wrap k), .int .u8 (IntKind.u8.wrap (k / 7))], thC R [.int .i64 0, .int .i64 0, .int .i64 0, .int .i64 0, .int .i64 0, .int .i64 0, .int .i64 0, .int .i64 0, .int .i64 0, .bool false, .int .i64 0, .slice none 0 0, .slice none 0 0], thB P 330 (pc p)]) := hid (S7.out.nilY)
    clear S7
    go_upto_if 118 with (fail)
    go_cut [] from 115 to 127 (fun wx => ∃ (AN : Option Addr) (nn cN : Nat) (gN : Nat → Int), HS [] w wx [thY (.slice AN nn cN) nn gN, thC X [.int .i64 (1 + k % 2), .int .i64 (1 + k / 2 % 9), .int .i64 0, .int .i64 (1000 + k / 18 % 5), .int .i64 p.a, .int .i64 (k / 90 % 3), .int .i64 p.p, .int .i64 (k / 34020 % 16), .int .i64 0, .bool false, .int .i64 0, .slice AN nn cN, .slice (some ⟨b, 0, none⟩) nd 2], thC Q [.int .i64 (1000 + k / 18 % 5), .int .i64 (k / 90 % 3), .int .i64 p.a, .int .i64 p.p], thC b [.int .u8 (IntKind.u8.wrap k), .int .u8 (IntKind.u8.wrap (k / 7))], thC R [.int .i64 0, .int .i64 0, .int .i64 0, .int .i64 0, .int .i64 0, .int .i64 0, .int .i64 0, .int .i64 0, .int .i64 0, .bool false, .int .i64 0, .slice none 0 0, .slice none 0 0], thB P 330 (pc p)] ∧ nn ≤ cN ∧ nn ≤ 12 ∧ IsB gN)
    case first =>
     cases e5 : decide (k / 34020 % 5 > 0)
     ·go_wp2_with fail
      go_meet
      exact ⟨none, 0, 0, fun _ => 0, S8.out, by omega, by omega, c0B_⟩
     ·have yf := (S8.out.ce 1 rfl).2.2 11
      have y11 := (S8.out.ce 1 rfl).2.1 11 _ rfl
      have yl := (S8.out.ce 1 rfl).1
      go_wp2_with fail
      skip
      refine (rput_any _ cc (u32_w _) ⟨c0, c1⟩ _).mono ?_
      rintro e w' ⟨rfl, rfl⟩
      go_wp2_with fail
      refine (rmake_anyO _ _ _ (u32_w _) (putV_u _ ⟨c0, c1⟩)).mono ?_
      rintro e w7 ⟨AM, cM, rfl, hO, hb⟩
      have U1 := S8.out.newY hb hO
      clear yf y11 yl
      have hcM := row_le hO
      have yf := (U1.ce 2 rfl).2.2 11
      have y11 := (U1.ce 2 rfl).2.1 11 _ rfl
      have yl := (U1.ce 2 rfl).1
      go_simp
      go_wp2_with fail
      go_meet
      have U2 := HS.setC (A := [thY (.slice AM 12 cM) 12 _, thY (.slice none 0 0) 0 (fun _ => 0)]) (B := [thC Q [.int .i64 (1000 + k / 18 % 5), .int .i64 (k / 90 % 3), .int .i64 p.a, .int .i64 p.p], thC b [.int .u8 (IntKind.u8.wrap k), .int .u8 (IntKind.u8.wrap (k / 7))], thC R [.int .i64 0, .int .i64 0, .int .i64 0, .int .i64 0, .int .i64 0, .int .i64 0, .int .i64 0, .int .i64 0, .int .i64 0, .bool false, .int .i64 0, .slice none 0 0, .slice none 0 0], thB P 330 (pc p)]) U1 11 (.slice AM 12 cM) (by simp)
      exact ⟨AM, 12, cM, _, HS.drop (A := [_]) U2, hcM, by omega, mkB_B (u32_w _) (putV_u _ ⟨c0, c1⟩)⟩
    case rest =>
     obtain ⟨AN, nn, cN, gN, hz, hnc, hn12, hgN⟩ := hcut
     have S9 : Hid (HS [] w _ [thY (.slice AN nn cN) nn gN, thC X [.int .i64 (1 + k % 2), .int .i64 (1 + k / 2 % 9), .int .i64 0, .int .i64 (1000 + k / 18 % 5), .int .i64 p.a, .int .i64 (k / 90 % 3), .int .i64 p.p, .int .i64 (k / 34020 % 16), .int .i64 0, .bool false, .int .i64 0, .slice AN nn cN, .slice (some ⟨b, 0, none⟩) nd 2], thC Q [.int .i64 (1000 + k / 18 % 5), .int .i64 (k / 90 % 3), .int .i64 p.a, .int .i64 p.p], thC b [.int .u8 (IntKind.u8.wrap k), .int .u8 (IntKind.u8.wrap (k / 7))], thC R [.int .i64 0, .int .i64 0, .int .i64 0, .int .i64 0, .int .i64 0, .int .i64 0, .int .i64 0, .int .i64 0, .int .i64 0, .bool false, .int .i64 0, .slice none 0 0, .slice none 0 0], thB P 330 (pc p)]) := hid (hz)
     clear hz S8
     have HGN := hid hgN
     clear hgN
     go_upto_if 131 with (fail)
     go_cut [] from 128 to 135 (fun wx => ∃ (AN : Option Addr) (nn cN : Nat) (gN : Nat → Int), HS [] w wx [thY (.slice AN nn cN) nn gN, thC X [.int .i64 (1 + k % 2), .int .i64 (1 + k / 2 % 9), .int .i64 0, .int .i64 (1000 + k / 18 % 5), .int .i64 p.a, .int .i64 (k / 90 % 3), .int .i64 p.p, .int .i64 (k / 34020 % 16), .int .i64 0, .bool false, .int .i64 0, .slice AN nn cN, .slice (some ⟨b, 0, none⟩) nd 2], thC Q [.int .i64 (1000 + k / 18 % 5), .int .i64 (k / 90 % 3), .int .i64 p.a, .int .i64 p.p], thC b [.int .u8 (IntKind.u8.wrap k), .int .u8 (IntKind.u8.wrap (k / 7))], thC R [.int .i64 0, .int .i64 0, .int .i64 0, .int .i64 0, .int .i64 0, .int .i64 0, .int .i64 0, .int .i64 0, .int .i64 0, .bool false, .int .i64 0, .slice none 0 0, .slice none 0 0], thB P 330 (pc p)] ∧ nn ≤ cN ∧ nn ≤ 12 ∧ IsB gN)
     case first =>
      cases e6 : (k / 34020 % 31 == 1)
      ·go_wp2_with fail
       go_meet
       exact ⟨AN, nn, cN, gN, S9.out, hnc, hn12, HGN.out⟩
      ·have yf := (S9.out.ce 1 rfl).2.2 11
       have y11 := (S9.out.ce 1 rfl).2.1 11 _ rfl
       have yl := (S9.out.ce 1 rfl).1
       go_wp2_with fail
       refine (rmake_anyO _ _ _ (u32_w _) ⟨by decide, by decide⟩).mono ?_
       rintro e w7 ⟨AM, cM, rfl, hO, hb⟩
       have U1 := S9.out.newY hb hO
       clear yf y11 yl
       have hcM := row_le hO
       have yf := (U1.ce 2 rfl).2.2 11
       have y11 := (U1.ce 2 rfl).2.1 11 _ rfl
       have yl := (U1.ce 2 rfl).1
       go_simp
       go_wp2_with fail
       go_meet
       have U2 := HS.setC (A := [thY (.slice AM 12 cM) 12 _, thY (.slice AN nn cN) nn gN]) (B := [thC Q [.int .i64 (1000 + k / 18 % 5), .int .i64 (k / 90 % 3), .int .i64 p.a, .int .i64 p.p], thC b [.int .u8 (IntKind.u8.wrap k), .int .u8 (IntKind.u8.wrap (k / 7))], thC R [.int .i64 0, .int .i64 0, .int .i64 0, .int .i64 0, .int .i64 0, .int .i64 0, .int .i64 0, .int .i64 0, .int .i64 0, .bool false, .int .i64 0, .slice none 0 0, .slice none 0 0], thB P 330 (pc p)]) U1 11 (.slice AM 12 cM) (by simp)
       exact ⟨AM, 12, cM, _, HS.drop (A := [_]) U2, hcM, by omega, mkB_B (u32_w _) ⟨by decide, by decide⟩⟩
     case rest =>
      obtain ⟨AN, nn, cN, gN, hz, hnc, hn12, hgN⟩ := hcut
      have S10 : Hid (HS [] w _ [thY (.slice AN nn cN) nn gN, thC X [.int .i64 (1 + k % 2), .int .i64 (1 + k / 2 % 9), .int .i64 0, .int .i64 (1000 + k / 18 % 5), .int .i64 p.a, .int .i64 (k / 90 % 3), .int .i64 p.p, .int .i64 (k / 34020 % 16), .int .i64 0, .bool false, .int .i64 0, .slice AN nn cN, .slice (some ⟨b, 0, none⟩) nd 2], thC Q [.int .i64 (1000 + k / 18 % 5), .int .i64 (k / 90 % 3), .int .i64 p.a, .int .i64 p.p], thC b [.int .u8 (IntKind.u8.wrap k), .int .u8 (IntKind.u8.wrap (k / 7))], thC R [.int .i64 0, .int .i64 0, .int .i64 0, .int .i64 0, .int .i64 0, .int .i64 0, .int .i64 0, .int .i64 0, .int .i64 0, .bool false, .int .i64 0, .slice none 0 0, .slice none 0 0], thB P 330 (pc p)]) := hid (hz)
      clear hz S9
      have HGN := hid hgN
      clear hgN
      have hk2 := HK.out
      have INN : Inn p { kind := (1 + k % 2), life := (1 + k / 2 % 9), src := (1000 + k / 18 % 5), dst := p.a, fp := (k / 90 % 3), tp := p.p, flags := (k / 34020 % 16), label := 0, bare := false, no := nn, go := gN, nd := nd, gd := fun j => if j = 0 then IntKind.u8.wrap k else IntKind.u8.wrap (k / 7) } := ⟨⟨by show (1 + k % 2) = 1 ∨ (1 + k % 2) = 2; omega, hpp, by show 0 ≤ (k / 34020 % 16) ∧ (k / 34020 % 16) ≤ 15; omega, by show 0 ≤ 0 ∧ 0 ≤ 65535; decide, ⟨fun h => absurd (show (1 + k % 2) = 1 from by omega) h, fun _ => ⟨rfl, rfl⟩, rfl⟩, HGN.out, fun j => by show 0 ≤ (if j = 0 then _ else _) ∧ (if j = 0 then _ else _) ≤ 255; split; exact u8_bd _; exact u8_bd _, by show nn ≤ 40; omega, by show nd ≤ 200; omega⟩, by show 1 ≤ (1 + k / 2 % 9) ∧ (1 + k / 2 % 9) ≤ 9; omega, rfl, by show 0 ≤ (1000 + k / 18 % 5) ∧ (1000 + k / 18 % 5) ≤ 4294967295; omega, rfl, by show 0 ≤ (k / 90 % 3) ∧ (k / 90 % 3) ≤ 65535; omega, rfl⟩
      clear hk2
      replace INN := hid INN
      obtain ⟨y0, y1, y2, y3, y4, y5, y6, y7, y8, y9, y10, y11, y12⟩ := (S10.out.ce 1 rfl).c13
      go_wp2_with ((with_reducible refine wl_id ?_); refine wl_ow rfl (ow_storeC (A := [thY (.slice AN nn cN) nn gN, thC X [.int .i64 (1 + k % 2), .int .i64 (1 + k / 2 % 9), .int .i64 0, .int .i64 (1000 + k / 18 % 5), .int .i64 p.a, .int .i64 (k / 90 % 3), .int .i64 p.p, .int .i64 (k / 34020 % 16), .int .i64 0, .bool false, .int .i64 0, .slice AN nn cN, .slice (some ⟨b, 0, none⟩) nd 2], thC Q [.int .i64 (1000 + k / 18 % 5), .int .i64 (k / 90 % 3), .int .i64 p.a, .int .i64 p.p], thC b [.int .u8 (IntKind.u8.wrap k), .int .u8 (IntKind.u8.wrap (k / 7))]]) [.int .i64 (1 + k % 2), .int .i64 (1 + k / 2 % 9), .int .i64 0, .int .i64 (1000 + k / 18 % 5), .int .i64 p.a, .int .i64 (k / 90 % 3), .int .i64 p.p, .int .i64 (k / 34020 % 16), .int .i64 0, .bool false, .int .i64 0, .slice AN nn cN, .slice (some ⟨b, 0, none⟩) nd 2] rfl rfl rfl S10.out rfl iPk rfl ?_); intro w_ hZ; have SF := hid hZ; clear hZ; (first | refine end_then ?_ | refine then_norm ?_); apply_assumption; refine wp_ret ?_; (repeat refine ret_then ?_); (show bodyPost _ _ _ _ _ _); exact bodyPost_ret (v := .agg ([.int .i64 (1 + k % 2), .int .i64 (1 + k / 2 % 9), .int .i64 0, .int .i64 (1000 + k / 18 % 5), .int .i64 p.a, .int .i64 (k / 90 % 3), .int .i64 p.p, .int .i64 (k / 34020 % 16), .int .i64 0, .bool false, .int .i64 0, .slice AN nn cN, .slice (some ⟨b, 0, none⟩) nd 2] : List Value).toArray) (results_C Tryz.results12 _ rfl (SF.out.ce 4 rfl) Tryz.underlying39 rfl iPk) rfl ⟨{ kind := (1 + k % 2), life := (1 + k / 2 % 9), src := (1000 + k / 18 % 5), dst := p.a, fp := (k / 90 % 3), tp := p.p, flags := (k / 34020 % 16), label := 0, bare := false, no := nn, go := gN, nd := nd, gd := fun j => if j = 0 then IntKind.u8.wrap k else IntKind.u8.wrap (k / 7) }, AN, cN, some ⟨b, 0, none⟩, 2, b, rfl, hnc, INN.out, HS.upd (A := [thY (.slice AN nn cN) nn gN]) (B := []) (HS.sub (M := [thY (.slice AN nn cN) nn gN, thC b [.int .u8 (IntKind.u8.wrap k), .int .u8 (IntKind.u8.wrap (k / 7))]]) SF.out (by (try simp only [List.cons_append, List.nil_append]); repeat (first | exact List.Sublist.slnil | with_reducible apply List.Sublist.cons_cons | with_reducible apply List.Sublist.cons))) (thR b (some ⟨b, 0, none⟩) nd _) rfl (Ch.refl _ _) (two_r (SF.out.ce 3 rfl) (by omega))⟩)
   ·have k2 : (1 + k % 2 == 2) = true := by simp [hk2]
    have HK := hid hk2
    clear hk2
    have yf := (S5.out.ce 1 rfl).2.2
    have yf8 := yf 8
    have yf9 := yf 9
    have y8 := (S5.out.ce 1 rfl).2.1 8 _ rfl
    have y9 := (S5.out.ce 1 rfl).2.1 9 _ rfl
    have yl := (S5.out.ce 1 rfl).1
    go_upto_region 15 with (fail)
    clear yf yf8 yf9 y8 y9 yl y0 k2
    have S6 : Hid (HS [] w _ [thC Q [.int .i64 (1000 + k / 18 % 5), .int .i64 (k / 90 % 3), .int .i64 p.a, .int .i64 p.p], thC X [.int .i64 (1 + k % 2), .int .i64 (1 + k / 2 % 9), .int .i64 0, .int .i64 (1000 + k / 18 % 5), .int .i64 p.a, .int .i64 (k / 90 % 3), .int .i64 p.p, .int .i64 0, .int .i64 cc, .bool (k / 34020 % 3 == 0), .int .i64 0, .slice none 0 0, .slice (some ⟨b, 0, none⟩) nd 2], thC b [.int .u8 (IntKind.u8.wrap k), .int .u8 (IntKind.u8.wrap (k / 7))], thC R [.int .i64 0, .int .i64 0, .int .i64 0, .int .i64 0, .int .i64 0, .int .i64 0, .int .i64 0, .int .i64 0, .int .i64 0, .bool false, .int .i64 0, .slice none 0 0, .slice none 0 0], thB P 330 (pc p)]) := hid (HS.setC (A := [thC Q [.int .i64 (1000 + k / 18 % 5), .int .i64 (k / 90 % 3), .int .i64 p.a, .int .i64 p.p]]) (B := [thC b [.int .u8 (IntKind.u8.wrap k), .int .u8 (IntKind.u8.wrap (k / 7))], thC R [.int .i64 0, .int .i64 0, .int .i64 0, .int .i64 0, .int .i64 0, .int .i64 0, .int .i64 0, .int .i64 0, .int .i64 0, .bool false, .int .i64 0, .slice none 0 0, .slice none 0 0], thB P 330 (pc p)]) (HS.setC (A := [thC Q [.int .i64 (1000 + k / 18 % 5), .int .i64 (k / 90 % 3), .int .i64 p.a, .int .i64 p.p]]) (B := [thC b [.int .u8 (IntKind.u8.wrap k), .int .u8 (IntKind.u8.wrap (k / 7))], thC R [.int .i64 0, .int .i64 0, .int .i64 0, .int .i64 0, .int .i64 0, .int .i64 0, .int .i64 0, .int .i64 0, .int .i64 0, .bool false, .int .i64 0, .slice none 0 0, .slice none 0 0], thB P 330 (pc p)]) S5.out 8 (.int .i64 cc) (by simp)) 9 (.bool (k / 34020 % 3 == 0)) (by simp))
    clear S5
    have hk2 := HK.out
    have INN : Inn p { kind := (1 + k % 2), life := (1 + k / 2 % 9), src := (1000 + k / 18 % 5), dst := p.a, fp := (k / 90 % 3), tp := p.p, flags := 0, label := cc, bare := (k / 34020 % 3 == 0), no := 0, go := fun _ => 0, nd := nd, gd := fun j => if j = 0 then IntKind.u8.wrap k else IntKind.u8.wrap (k / 7) } := ⟨⟨by show (1 + k % 2) = 1 ∨ (1 + k % 2) = 2; omega, hpp, by show 0 ≤ 0 ∧ 0 ≤ 15; decide, by show 0 ≤ cc ∧ cc ≤ 65535; have := c2 hk2; omega, ⟨fun _ => ⟨rfl, rfl⟩, fun h => absurd (show (1 + k % 2) = 2 from by omega) h, rfl⟩, c0B_, fun j => by show 0 ≤ (if j = 0 then _ else _) ∧ (if j = 0 then _ else _) ≤ 255; split; exact u8_bd _; exact u8_bd _, by show 0 ≤ 40; omega, by show nd ≤ 200; omega⟩, by show 1 ≤ (1 + k / 2 % 9) ∧ (1 + k / 2 % 9) ≤ 9; omega, rfl, by show 0 ≤ (1000 + k / 18 % 5) ∧ (1000 + k / 18 % 5) ≤ 4294967295; omega, rfl, by show 0 ≤ (k / 90 % 3) ∧ (k / 90 % 3) ≤ 65535; omega, rfl⟩
    clear hk2
    replace INN := hid INN
    obtain ⟨y0, y1, y2, y3, y4, y5, y6, y7, y8, y9, y10, y11, y12⟩ := (S6.out.ce 1 rfl).c13
    go_wp2_with ((with_reducible refine wl_id ?_); refine wl_ow rfl (ow_storeC (A := [thC Q [.int .i64 (1000 + k / 18 % 5), .int .i64 (k / 90 % 3), .int .i64 p.a, .int .i64 p.p], thC X [.int .i64 (1 + k % 2), .int .i64 (1 + k / 2 % 9), .int .i64 0, .int .i64 (1000 + k / 18 % 5), .int .i64 p.a, .int .i64 (k / 90 % 3), .int .i64 p.p, .int .i64 0, .int .i64 cc, .bool (k / 34020 % 3 == 0), .int .i64 0, .slice none 0 0, .slice (some ⟨b, 0, none⟩) nd 2], thC b [.int .u8 (IntKind.u8.wrap k), .int .u8 (IntKind.u8.wrap (k / 7))]]) [.int .i64 (1 + k % 2), .int .i64 (1 + k / 2 % 9), .int .i64 0, .int .i64 (1000 + k / 18 % 5), .int .i64 p.a, .int .i64 (k / 90 % 3), .int .i64 p.p, .int .i64 0, .int .i64 cc, .bool (k / 34020 % 3 == 0), .int .i64 0, .slice none 0 0, .slice (some ⟨b, 0, none⟩) nd 2] rfl rfl rfl S6.out rfl iPk rfl ?_); intro w_ hZ; have SF := hid hZ; clear hZ; (first | refine end_then ?_ | refine then_norm ?_); apply_assumption; refine wp_ret ?_; (repeat refine ret_then ?_); (show bodyPost _ _ _ _ _ _); exact bodyPost_ret (v := .agg ([.int .i64 (1 + k % 2), .int .i64 (1 + k / 2 % 9), .int .i64 0, .int .i64 (1000 + k / 18 % 5), .int .i64 p.a, .int .i64 (k / 90 % 3), .int .i64 p.p, .int .i64 0, .int .i64 cc, .bool (k / 34020 % 3 == 0), .int .i64 0, .slice none 0 0, .slice (some ⟨b, 0, none⟩) nd 2] : List Value).toArray) (results_C Tryz.results12 _ rfl (SF.out.ce 3 rfl) Tryz.underlying39 rfl iPk) rfl ⟨{ kind := (1 + k % 2), life := (1 + k / 2 % 9), src := (1000 + k / 18 % 5), dst := p.a, fp := (k / 90 % 3), tp := p.p, flags := 0, label := cc, bare := (k / 34020 % 3 == 0), no := 0, go := fun _ => 0, nd := nd, gd := fun j => if j = 0 then IntKind.u8.wrap k else IntKind.u8.wrap (k / 7) }, none, 0, some ⟨b, 0, none⟩, 2, b, rfl, Nat.le_refl _, INN.out, HS.upd (A := [thY (.slice none 0 0) 0 (fun _ => 0)]) (B := []) (HS.nilY (HS.sub (M := [thC b [.int .u8 (IntKind.u8.wrap k), .int .u8 (IntKind.u8.wrap (k / 7))]]) SF.out (by (try simp only [List.cons_append, List.nil_append]); repeat (first | exact List.Sublist.slnil | with_reducible apply List.Sublist.cons_cons | with_reducible apply List.Sublist.cons)))) (thR b (some ⟨b, 0, none⟩) nd _) rfl (Ch.refl _ _) (two_r (SF.out.ce 2 rfl) (by omega))⟩)
theorem c_in {S : List Nat} {W w : World} {L : List Th} (hS : HS S W w L) (p : Pl) (hp : Pt p) (n m : Int) (hn : -9223372036854775808 ≤ n ∧ n ≤ 9223372036854775807) (hm : -9223372036854775808 ≤ m ∧ m ≤ 9223372036854775807) : Calls Tryz.prog 12 #[.agg (FA 330 (pc p)), .int .i64 n, .int .i64 m] w fun e w' => ∃ x AO cO AD cD bD, e = .returned (.agg #[.int .i64 x.kind, .int .i64 x.life, .int .i64 x.piece, .int .i64 x.src, .int .i64 x.dst, .int .i64 x.fp, .int .i64 x.tp, .int .i64 x.flags, .int .i64 x.label, .bool x.bare, .int .i64 x.code, .slice AO x.no cO, .slice AD x.nd cD]) ∧ x.no ≤ cO ∧ Inn p x ∧ HS S W w' (thY (.slice AO x.no cO) x.no x.go :: thR bD AD x.nd x.gd :: L) := by
 refine (l9in_any p hp n m hn hm w).mono ?_
 rintro e w' ⟨x, AO, cO, AD, cD, bD, rfl, h1, h2, h3⟩
 exact ⟨x, AO, cO, AD, cD, bD, rfl, h1, h2, hS.join h3⟩
end Go.Proofs.YteapnfdpkjbfhaaGreat
