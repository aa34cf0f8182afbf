/- What a unit tells of a packet, as plain functions. No change is refused. What a unit's way with packets calls first. A stand in memory; flow, back, carried. byCookie; a way's end. -/
import Derived.Test.YteapnfdpkjbfhaaGreatGa
import Derived.Test.YteapnfdpkjbfhaaGreatGwc
import Derived.Test.YteapnfdpkjbfhaaGreatGwb
import Derived.Test.YteapnfdpkjbfhaaGreatGo
import Derived.Test.YteapnfdpkjbfhaaGreatGk
import Derived.Test.YteapnfdpkjbfhaaGreatGf
import Derived.Test.YteapnfdpkjbfhaaGreatGx
import Derived.BigQuiet
import Derived.Deep.RegionHeld3
import Derived.Deep.Cut
import Derived.IntWalk
import Derived.Test.YteapnfdpkjbfhaaGreatGw
import Derived.Test.YteapnfdpkjbfhaaGreatGt
import Derived.Test.YteapnfdpkjbfhaaGreatGkb
import Derived.Test.YteapnfdpkjbfhaaGreatGc
namespace Go.Proofs.YteapnfdpkjbfhaaGreat
set_option linter.unusedVariables false
set_option linter.unusedSimpArgs false
open Go.RowKit Go.ChangeShapes Go.WideShapes Go.ChangeAt
/-- What became of a packet: why it was dropped, the slot, by a cookie, the bytes; the stamps that came last. -/
structure To where
 d : Int
 s : Int
 c : Bool
 n : Nat
 f : Nat → Int
 nr : Nat → Option Int
def tkT (k : Int) : Int := if k = 1 then 4096 else 256
def flP (p : Pl) (a q : Int) : Fl := ⟨a, q, p.a, p.p⟩
def dropT (e : Int) (nr : Nat → Option Int) : To := ⟨e, -1, false, 0, fun _ => 0, nr⟩
def setN (nr : Nat → Option Int) (s : Nat) (v : Int) : Nat → Option Int := fun j => if j = s then some v else nr j
def stO (x : Pk) : Int × Int × Int × Bool := stamp x.go x.no
def okC (p : Pl) (x : Pk) (s : Nat) : Int := cok (tkT x.kind) p.r.c x.kind (flP p x.dst x.tp) s (p.r.e % 4)
/-- Out. -/
def outT (p : Pl) (nr : Nat → Option Int) (g : Nat → Int) (n : Nat) (x : Pk) (s : Nat) : To :=
 let g2 := natF (ageF g) n true p.a p.p
 if x.kind = 2 then ⟨0, -1, false, n, wrF g2 n 20 2 (okC p x s), nr⟩
 else if (stO x).2.2.2 = true then ⟨0, -1, false, n, wrF g2 n (24 + (stO x).1.toNat) 4 (putV (stO x).2.1 (okC p x s)), setN nr s (stO x).2.1⟩
 else ⟨0, -1, false, n, g2, nr⟩
/-- The cookie that a client's packet brings. -/
def carT (x : Pk) : Option Int := if x.kind = 2 then (if x.label = 0 then none else some x.label) else if x.flags = 1 then none else if (stO x).2.2.2 = true then some ((stO x).2.2.1 % 1048576) else none
/-- The slot that it tells, if that takes. -/
def byT (p : Pl) (x : Pk) : Option Int := (carT x).bind fun c => (readC (tkT x.kind) p.r x.kind (flP p x.src x.fp) c).bind fun s => if takesB (p.s s.toNat).st = true then some s else none
/-- Where a packet in goes. -/
def slT (p : Pl) (x : Pk) : Int := (byT p x).getD (whlW p (pkW (flP p x.src x.fp)).toNat)
def backT (nr : Nat → Option Int) (s : Nat) (e : Int) : Int := match nr s with | none => 0 | some v => backV e v
def inG (p : Pl) (nr : Nat → Option Int) (g : Nat → Int) (n : Nat) (x : Pk) (s : Nat) : Nat → Int :=
 let g2 := natF (ageF g) n false (p.s s).ad (p.s s).po
 if (stO x).2.2.2 = true ∧ (stO x).2.2.1 ≠ 0 then wrF g2 n (28 + (stO x).1.toNat) 4 (backT nr s (stO x).2.2.1) else g2
def inT (p : Pl) (nr : Nat → Option Int) (g : Nat → Int) (n : Nat) (x : Pk) : To :=
 if slT p x = -1 then dropT 9 nr else ⟨0, slT p x, (byT p x).isSome, n, inG p nr g n x (slT p x).toNat, nr⟩
/-- A fault's To, with the head's sum anew. -/
def reaF (g : Nat → Int) (n : Nat) (a : Int) : Nat → Int := fun j => if j < 16 then builtF { parseR g n with dst := a } j else g j
def fauG (g : Nat → Int) (n : Nat) (s : Sp) : Nat → Int := wrF (wrF (reaF (ageF g) n s.ad) n 24 4 s.ad) n 36 2 s.po
def fauS (p : Pl) (x : Pk) : Int := whlW p (pkW (flP p (num x.gd 8 4) (num x.gd 18 2))).toNat
def fauB (p : Pl) (x : Pk) : Bool := ((x.gd 0 != 1 && x.gd 0 != 2) || num x.gd 4 4 != p.a) || num x.gd 16 2 != p.p
def fauT (p : Pl) (nr : Nat → Option Int) (g : Nat → Int) (n : Nat) (x : Pk) : To :=
 if fauB p x = true then dropT 8 nr else if fauS p x = -1 then dropT 9 nr else ⟨0, fauS p x, false, n, fauG g n (p.s (fauS p x).toNat), nr⟩
/-- Take. -/
def takeT (p : Pl) (up : Bool) (nr : Nat → Option Int) (g : Nat → Int) (n : Nat) : To :=
 let x := parseR g n
 if up = false then dropT 10 nr
 else if parseE g n ≠ 0 then dropT (parseE g n) nr
 else if x.piece ≠ 0 then dropT 6 nr
 else if x.life ≤ 1 then dropT 7 nr
 else if x.dst = p.a ∧ x.kind = 3 then fauT p nr g n x
 else if x.dst = p.a ∧ x.tp = p.p then inT p nr g n x
 else if x.kind = 3 then dropT 8 nr
 else match findO p x.src x.fp with
  | none => dropT 8 nr
  | some s => outT p nr g n x s
/-- What is asked of a pool. -/
def Pt (p : Pl) : Prop := Pw p ∧ Ep p.r.e ∧ StI p ∧ (0 ≤ p.a ∧ p.a ≤ 4294967295) ∧ (0 ≤ p.p ∧ p.p ≤ 65535)
def Nt32 (nr : Nat → Option Int) : Prop := ∀ j v, nr j = some v → U32 v
theorem st_in {x : Pk} (h : (stO x).2.2.2 = true) : (2 ≤ (stO x).1 ∧ (stO x).1.toNat + 8 ≤ x.no ∧ (stO x).1 = ((stO x).1.toNat : Int)) := by
 unfold stO at h ⊢
 unfold stamp at h ⊢
 cases hw : walk x.go x.no 0 with
 | none => rw [hw] at h; cases h
 | some l =>
   rw [hw] at h
   cases hf : fst l with
   | none => simp only [stS, hf] at h; cases h
   | some o =>
     simp only [stS, hf]
     have h3 := fst_is hw hf
     obtain ⟨a1, a2, a3⟩ := h3
     rw [a3]
     refine ⟨by omega, by omega, by omega⟩
theorem st_u32 {x : Pk} (hg : IsB x.go) : U32 (stO x).2.1 ∧ U32 (stO x).2.2.1 := by
 unfold stO stamp
 unfold stS
 split
 ·exact ⟨⟨by decide, by decide⟩, ⟨by decide, by decide⟩⟩
 ·split
  ·exact ⟨⟨by decide, by decide⟩, ⟨by decide, by decide⟩⟩
  ·exact ⟨num_bdO hg _, num_bdO hg _⟩
end Go.Proofs.YteapnfdpkjbfhaaGreat
namespace Go.Proofs.YteapnfdpkjbfhaaGreat
set_option linter.unusedVariables false
set_option linter.unusedSimpArgs false
open Go.RowKit Go.ChangeShapes Go.WideShapes Go.ChangeAt
theorem tk_age {g : Nat → Int} {n : Nat} (hp : parseE g n = 0) (h : 1 < g 1) : ageE g n = 0 := by
 unfold ageE; rw [if_neg (by rw [hp]; simp), if_neg (by omega)]
theorem tk_age0 {g : Nat → Int} : ageF g 0 = g 0 := age_out (by omega) (by omega)
theorem tk_nat {g : Nat → Int} {n : Nat} {ad po : Int} (hg : IsB g) (hp : parseE g n = 0) (h : 1 < g 1) (h3 : g 0 ≠ 3) (h1 : 0 ≤ ad ∧ ad ≤ 4294967295) (h2 : 0 ≤ po ∧ po ≤ 65535) : natE (ageF g) n ad po = 0 := by
 unfold natE inR
 rw [if_neg (by rw [age_parse hg (tk_age hp h)]; simp), tk_age0, if_neg h3, if_pos (by simp; omega)]
theorem tk_nat0 {g : Nat → Int} {n : Nat} {s : Bool} {ad po : Int} : natF (ageF g) n s ad po 0 = g 0 := by
 rw [nat_at (by omega) (by omega), natP_out (by have := aA_or s; omega) (by have := aA_or s; omega), tk_age0]
theorem tk_wr {g : Nat → Int} {n : Nat} {s : Bool} {ad po a m v : Int} (hg : IsB g) (hp : parseE g n = 0) (h : 1 < g 1) (h3 : g 0 ≠ 3) (h1 : 0 ≤ ad ∧ ad ≤ 4294967295) (h2 : 0 ≤ po ∧ po ≤ 65535)
 (hm : m = 2 ∧ v ≤ 65535 ∨ m = 4 ∧ v ≤ 4294967295) (hv : 0 ≤ v) (ha : 16 ≤ a) (hL : a + m ≤ n) (hs : a + m ≤ 22 ∨ 24 ≤ a) : wrE (natF (ageF g) n s ad po) n a m v = 0 := by
 have hk : sumA (natF (ageF g) n s ad po 0) = 22 := by rw [tk_nat0]; unfold sumA; rw [if_neg h3]
 unfold wrE
 rw [if_neg (by rw [nat_parse (age_isB hg (tk_age hp h)) (tk_nat hg hp h h3 h1 h2)]; simp), if_pos]
 unfold mayB
 rw [hk]
 simp only [Bool.and_eq_true, Bool.or_eq_true, decide_eq_true_eq, beq_iff_eq]
 omega
theorem tk_isB {g : Nat → Int} {n : Nat} {s : Bool} {ad po : Int} (hg : IsB g) (hp : parseE g n = 0) (h : 1 < g 1) : IsB (natF (ageF g) n s ad po) := nat_isB (age_isB hg (tk_age hp h)) _ _ _ _
/-- A packet's numbers. -/
theorem rd_bd {g : Nat → Int} {n : Nat} (hg : IsB g) (hp : parseE g n = 0) : (0 ≤ (parseR g n).src ∧ (parseR g n).src < 4294967296) ∧ (0 ≤ (parseR g n).dst ∧ (parseR g n).dst < 4294967296) ∧ (0 ≤ (parseR g n).fp ∧ (parseR g n).fp < 65536) ∧ (0 ≤ (parseR g n).tp ∧ (parseR g n).tp < 65536) ∧ (0 ≤ (parseR g n).label ∧ (parseR g n).label < 65536) ∧ IsB (parseR g n).go ∧ IsB (parseR g n).gd := by
 have b4 := num_bd hg 4 4
 have b8 := num_bd hg 8 4
 have c16 := num_bd hg 16 2
 have c18 := num_bd hg 18 2
 have c20 := num_bd hg 20 2
 have e4 : (256 : Int) ^ 4 = 4294967296 := by decide
 have e2 : (256 : Int) ^ 2 = 65536 := by decide
 rw [e4] at b4 b8
 rw [e2] at c16 c18 c20
 have z : ∀ k : Nat, IsB (fun _ : Nat => (0 : Int)) := fun _ _ => (by show (0 : Int) ≤ 0 ∧ (0 : Int) ≤ 255; decide)
 have zz : (0 : Int) ≤ 0 ∧ (0 : Int) < 65536 := by decide
 unfold parseR
 rw [if_pos hp]
 unfold parseP
 split
 ·exact ⟨b4, b8, zz, zz, zz, z 0, fun j => hg _⟩
 ·split
  ·exact ⟨b4, b8, c16, c18, c20, z 0, fun j => hg _⟩
  ·exact ⟨b4, b8, c16, c18, zz, fun j => hg _, fun j => hg _⟩
/-- How long. -/
theorem rd_len {g : Nat → Int} {n : Nat} (hg : IsB g) (hp : parseE g n = 0) : 24 ≤ n ∧ n ≤ 1500 ∧ (parseR g n).kind = g 0 ∧ (parseR g n).life = g 1 ∧ (g 0 = 1 ∨ g 0 = 2 ∨ g 0 = 3) ∧ (g 0 = 2 → (parseR g n).no = 0) ∧ (g 0 = 1 → 24 + (parseR g n).no ≤ n) ∧ (parseR g n).no ≤ 40 ∧ (g 0 = 3 → 44 ≤ n ∧ (parseR g n).nd = n - 20 ∧ ∀ j, (parseR g n).gd j = g (20 + j)) := by
 have f := parse_facts hp
 obtain ⟨f1, f2, f3, f4⟩ := f
 have l := parse_life hp
 have hk : g 0 = 1 ∨ g 0 = 2 ∨ g 0 = 3 := by unfold isK at f4; simp at f4; omega
 have hb : bodyE g n = 0 := by
  unfold parseE at hp
  split at hp
  ·exact hp
  ·contradiction
 have h3 := bodyE_0 hb f4
 refine ⟨f1, f2, l.2, l.1, hk, fun h => ?_, fun h => ?_, ?_, fun h => ?_⟩
 ·unfold parseR; rw [if_pos hp]; unfold parseP; rw [if_neg (by omega), if_pos h]
 ·unfold parseR; rw [if_pos hp]; unfold parseP; rw [if_neg (by omega), if_neg (by omega)]
  have g21 := hg 21
  show 24 + (g 21).toNat ≤ n
  omega
 ·unfold parseR; rw [if_pos hp]; unfold parseP
  split
  ·exact Nat.zero_le _
  ·split
   ·exact Nat.zero_le _
   ·show (g 21).toNat ≤ 40
    have g21 := hg 21
    omega
 ·unfold parseR; rw [if_pos hp]; unfold parseP; rw [if_pos h]
  exact ⟨by omega, rfl, fun j => rfl⟩
theorem back_u32 (nr : Nat → Option Int) (s : Nat) (e : Int) : 0 ≤ backT nr s e ∧ backT nr s e < 4294967296 := by
 unfold backT
 split
 ·exact ⟨by decide, by decide⟩
 ·unfold backV; omega
theorem whl_bd {p : Pl} {j : Nat} (hj : j < 127) : whlW p j = -1 ∨ ∃ i : Nat, i < 64 ∧ (p.s i).st = 2 ∧ whlW p j = i := by
 unfold whlW
 by_cases h : offW (wtP p) 64 = 0
 ·rw [if_pos h]; exact .inl rfl
 ·rw [if_neg h]
  obtain ⟨i, h1, h2, h3⟩ := wk_full (at_ := atP p) (by_ := byP p) (by omega) (by_of p) j hj
  refine .inr ⟨i, h1, ?_, h3⟩
  by_cases hs : (p.s i).st = 2
  ·exact hs
  ·unfold wtP at h2
   rw [if_neg hs] at h2
   omega
theorem sl_bd (p : Pl) (x : Pk) : slT p x = -1 ∨ ∃ k : Nat, k < 64 ∧ slT p x = k := by
 unfold slT
 cases h : byT p x with
 | none =>
   have hb := pkW_bd (flP p x.src x.fp)
   rcases whl_bd (p := p) (j := (pkW (flP p x.src x.fp)).toNat) (by omega) with h | ⟨i, h1, _, h3⟩
   ·exact .inl h
   ·exact .inr ⟨i, h1, h3⟩
 | some s =>
   unfold byT at h
   cases hc : carT x with
   | none => rw [hc] at h; cases h
   | some c =>
     rw [hc] at h
     simp only [Option.bind] at h
     cases hr : readC (tkT x.kind) p.r x.kind (flP p x.src x.fp) c with
     | none => rw [hr] at h; cases h
     | some t =>
       rw [hr] at h
       have := read_bd _ _ _ _ _ _ hr
       simp only at h
       split at h
       ·injection h with h
        subst h
        refine .inr ⟨t.toNat, by omega, by show t = _; omega⟩
       ·cases h
end Go.Proofs.YteapnfdpkjbfhaaGreat
namespace Go.Proofs.YteapnfdpkjbfhaaGreat
set_option linter.unusedVariables false
set_option linter.unusedSimpArgs false
open Go.RowKit Go.ChangeShapes Go.WideShapes Go.ChangeAt
set_option maxRecDepth 100000
/-- An outcome. -/
def ocV (d s : Int) (c : Bool) (r : Value) : Value := .agg #[.int .i64 d, .int .i64 s, .bool c, r]
theorem pnumber_any (A : Option Addr) (m c : Nat) (g : Nat → Int) (w : World) (h : By w A m g) (hg : IsB g) (hm : m ≤ 4) :
 Calls Tryz.prog 78 #[.slice A m c] w fun e w' => e = .returned (.int .i64 (num g 0 m)) ∧ w = w' := by
 go_enter Tryz.func78, Tryz.ntmps78
 go_wp2_with fail
 go_loop [3, 8] (fun x i => ∃ k : Nat, k ≤ m ∧ i = .int .i64 k ∧ x = .int .i64 (num g 0 k)) (fun _ i => m - (intOf i).toNat)
 case atStart => exact ⟨0, by omega, rfl, rfl⟩
 case round =>
  obtain ⟨k, hk, rfl, rfl⟩ := hrel
  by_cases hlt : k < m
  ·obtain ⟨b, off, rfl, hblt, hcell⟩ := h (by omega)
   have c1 := hcell k hlt
   have i0 : (0 : Int) ≤ k := by omega
   have i1 : (k : Int) < m := by omega
   have nb := num_bd4 hg 0 k (by omega)
   obtain ⟨n0, n1⟩ := nb
   have gb := hg k
   obtain ⟨g0, g1⟩ := gb
   have oq := or_shl (num g 0 k) (g k) n0 (by omega) g0 g1
   have en : Hid (num g 0 (k + 1) = num g 0 k * 256 + g k) := hid (by simp [num])
   clear hcell h
   go_wp2_with fail
   go_round
   case rel => exact ⟨k + 1, by omega, by go_num, by rw [en.out]⟩
   case measure => simp [intOf]; omega
  ·obtain rfl : k = m := by omega
   have i1 : ¬ (k : Int) < k := by omega
   go_wp2_with fail
   go_ret
   exact ⟨rfl, rfl⟩
theorem drop_any (d : Int) (w : World) : Calls Tryz.prog 46 #[.int .i64 d] w fun x w' => x = .returned (ocV d (-1) false (.slice none 0 0)) ∧ Below w.heap.size w w' := by
 unfold ocV
 have S0 : Hid (HS [] w w []) := hid HS.start
 go_enter Tryz.func46, Tryz.ntmps46
 go_wp2_with (first | ((with_reducible refine wl_id ?_); refine wl_ow rfl (ow_allocC rfl (zOc _) (by simp) S0.out ?_); intro U w_ hZ _; have S1 := hid hZ; clear hZ) | ((with_reducible refine wl_id ?_); refine wl_ow rfl (ow_storeC (A := []) [.int .i64 d, .int .i64 (-1), .bool false, .slice none 0 0] rfl rfl (rfl) S1.out rfl iOc rfl ?_); intro w_ hZ; have S9 := hid hZ; clear hZ; (first | refine end_then ?_ | refine then_norm ?_); apply_assumption; refine wp_ret ?_; (repeat refine ret_then ?_); (show bodyPost _ _ _ _ _ _); exact bodyPost_ret (v := .agg ([.int .i64 d, .int .i64 (-1), .bool false, .slice none 0 0] : List Value).toArray) (results_C Tryz.results46 _ rfl (S9.out.ce 0 rfl) Tryz.underlying47 rfl iOc) rfl ⟨rfl, S9.out.bl⟩))
theorem get32_any (v : Int) (b : Bool) (w : World) : Calls Tryz.prog 63 #[.agg #[.int .u32 v, .bool b]] w fun x w' => x = .returned (.tuple #[.int .u32 v, .bool b]) ∧ Below w.heap.size w w' := by
 go_enter Tryz.func63, Tryz.ntmps63
 go_wp2_with fail
 go_quiet (fail)
 go_wp2_with fail
 go_ret2
 first | exact ⟨rfl, below_drewN ((Below.refl _ _).alloc (Nat.le_refl _) _) _⟩ | exact ⟨rfl, (Below.refl _ _).alloc (Nat.le_refl _) _⟩
theorem comes_any (p : Pl) (sb : Nat) (x : Pk) (AO : Option Addr) (cO : Nat) (AD : Option Addr) (cD : Nat) (w : World) (h1 : w.cell? ⟨sb, 1, none⟩ = some (.int .i64 p.a)) (h2 : w.cell? ⟨sb, 2, none⟩ = some (.int .i64 p.p)) (hb : sb < w.heap.size) :
 Calls Tryz.prog 48 #[.pointer (some ⟨sb, 0, none⟩), .agg #[.int .i64 x.kind, .int .i64 x.life, .int .i64 x.piece, .int .i64 x.src, .int .i64 x.dst, .int .i64 x.fp, .int .i64 x.tp, .int .i64 x.flags, .int .i64 x.label, .bool x.bare, .int .i64 x.code, .slice AO x.no cO, .slice AD x.nd cD]] w fun e w' => e = .returned (.bool (x.dst == p.a && (x.kind == 3 || x.tp == p.p))) ∧ Below w.heap.size w w' := by
 cases k1 : (x.dst == p.a) <;> cases k2 : (x.kind == 3) <;> cases k3 : (x.tp == p.p)
 all_goals
  go_enter Tryz.func48, Tryz.ntmps48
  go_wp2_with fail
  go_quiet (fail)
  go_wp2_with fail
  go_ret
  first | exact ⟨rfl, below_drewN ((Below.refl _ _).alloc (Nat.le_refl _) _) _⟩ | exact ⟨rfl, (Below.refl _ _).alloc (Nat.le_refl _) _⟩
theorem outd_ok {w w' : World} {L : Nat} {F : Nat → Int} {e : Ending} (h : Outd w 0 L F e w') : ∃ A c, e = .returned (.tuple #[.slice A L c, .int .i64 0]) ∧ OB w' w.heap.size (.slice A L c) L F ∧ L ≤ c ∧ Below w.heap.size w w' := by
 obtain ⟨v, rfl, hO, hb⟩ := h
 obtain ⟨A, c, rfl, hc, _, _⟩ := hO.form_
 exact ⟨A, c, rfl, hO, hc, hb⟩
theorem re_ok {P : Program} {f : Nat} {args : Array Value} {w : World} {E : Int} {L : Nat} {F : Nat → Int} (h : Calls P f args w (Outd w E L F)) (hE : E = 0) : Calls P f args w fun e w' => ∃ A c, e = .returned (.tuple #[.slice A L c, .int .i64 0]) ∧ OB w' w.heap.size (.slice A L c) L F ∧ L ≤ c ∧ Below w.heap.size w w' := by
 subst hE
 exact h.mono fun e w' h => outd_ok h
/-- A way: bytes that are right so far. -/
def Way (w : World) (wb : Nat) (n : Nat) (F : Nat → Int) (B : Nat) (w' : World) : Prop := ∃ X c, Ce w' wb [.slice X n c, .int .i64 0] ∧ OB w' B (.slice X n c) n F ∧ n ≤ c ∧ Ch [wb] w w'
theorem way_end {w w1 : World} {wb n c : Nat} {X : Option Addr} {F : Nat → Int} {l : List Value} (hC : Ce w wb l) (hl : l.length = 2) (hb : Below w.heap.size w w1) (hO : OB w1 w.heap.size (.slice X n c) n F) (hc : n ≤ c) : Way w wb n F w.heap.size ((w1.setCell ⟨wb, 0, none⟩ (.slice X n c)).setCell ⟨wb, 1, none⟩ (.int .i64 0)) := by
 obtain ⟨x, y, rfl⟩ : ∃ x y, l = [x, y] := by
  match l, hl with
  | [x, y], _ => exact ⟨x, y, rfl⟩
 have hC1 := hC.below hb
 exact ⟨X, c, (hC1.set 0 _ (by simp)).set 1 _ (by simp), hO.grown (gs 1 _ (grown_set w1 ⟨wb, 0, none⟩ _)) (hO.ne hC.1), hc, ((Ch.of_below (S := [wb]) hb).set1 (.inl (by simp))).set1 (.inl (by simp))⟩
theorem way_age {w : World} {wb n c : Nat} {X : Option Addr} {g : Nat → Int} (hC : Ce w wb [.slice X n c, .int .i64 0]) (hX : By w X n g) (hg : IsB g) (hn : n ≤ 1000000) (hc : n ≤ c) (hE : ageE g n = 0) :
 Calls Tryz.prog 81 #[.pointer (some ⟨wb, 0, none⟩)] w fun x w' => x = .returned (.tuple #[]) ∧ Way w wb n (ageF g) w.heap.size w' := by
 have AG := hid (re_ok (age_any X n c g w hX hg hc hn) hE)
 have C := hid hC
 have c0 := hC.2.1 0 _ rfl
 have c1 := hC.2.1 1 _ rfl
 have f0 := hC.2.2 0
 have f1 := hC.2.2 1
 have hlt := hC.1
 clear hC hX hE
 go_enter Tryz.func81, Tryz.ntmps81
 go_wp2_with fail
 refine AG.out.mono ?_
 rintro e w1 ⟨X1, cc, rfl, hO, hcc, hb⟩
 have HE := hid (way_end C.out rfl hb hO hcc)
 have hC1 := C.out.below hb
 have d0 := hC1.2.1 0 _ rfl
 have d1 := hC1.2.1 1 _ rfl
 have e0 := hC1.2.2 0
 have e1 := hC1.2.2 1
 clear hC1 hO hb c0 c1 f0 f1 AG C
 go_simp
 go_wp2_with fail
 go_end0
 exact ⟨rfl, HE.out⟩
theorem way_nat {w : World} {wb n c : Nat} {X : Option Addr} {g : Nat → Int} (hC : Ce w wb [.slice X n c, .int .i64 0]) (hX : By w X n g) (hg : IsB g) (hn : n ≤ 1000000) (hc : n ≤ c) (s : Bool) (ad po : Int) (hE : natE g n ad po = 0) :
 Calls Tryz.prog 86 #[.pointer (some ⟨wb, 0, none⟩), .bool s, .int .i64 ad, .int .i64 po] w fun x w' => x = .returned (.tuple #[]) ∧ Way w wb n (natF g n s ad po) w.heap.size w' := by
 have AG := hid (re_ok (nat_any X n c g w hX hg hc hn s ad po) hE)
 have C := hid hC
 have c0 := hC.2.1 0 _ rfl
 have c1 := hC.2.1 1 _ rfl
 have f0 := hC.2.2 0
 have f1 := hC.2.2 1
 have hlt := hC.1
 clear hC hX hE
 go_enter Tryz.func86, Tryz.ntmps86
 go_wp2_with fail
 refine AG.out.mono ?_
 rintro e w1 ⟨X1, cc, rfl, hO, hcc, hb⟩
 have HE := hid (way_end C.out rfl hb hO hcc)
 have hC1 := C.out.below hb
 have d0 := hC1.2.1 0 _ rfl
 have d1 := hC1.2.1 1 _ rfl
 have e0 := hC1.2.2 0
 have e1 := hC1.2.2 1
 clear hC1 hO hb c0 c1 f0 f1 AG C
 go_simp
 go_wp2_with fail
 go_end0
 exact ⟨rfl, HE.out⟩
theorem way_write {w : World} {wb n c : Nat} {X : Option Addr} {g : Nat → Int} (hC : Ce w wb [.slice X n c, .int .i64 0]) (hX : By w X n g) (hg : IsB g) (hn : n ≤ 1000000) (hc : n ≤ c) (a m v : Int) (ra : -9223372036854775808 ≤ a ∧ a ≤ 9223372036854775807) (hE : wrE g n a m v = 0) :
 Calls Tryz.prog 83 #[.pointer (some ⟨wb, 0, none⟩), .int .i64 a, .int .i64 m, .int .i64 v] w fun x w' => x = .returned (.tuple #[]) ∧ Way w wb n (wrF g n a.toNat m.toNat v) w.heap.size w' := by
 have AG := hid (re_ok (write_any X n c g w hX hg hc hn a m v ra) hE)
 have C := hid hC
 have c0 := hC.2.1 0 _ rfl
 have c1 := hC.2.1 1 _ rfl
 have f0 := hC.2.2 0
 have f1 := hC.2.2 1
 have hlt := hC.1
 clear hC hX hE
 go_enter Tryz.func83, Tryz.ntmps83
 go_wp2_with fail
 refine AG.out.mono ?_
 rintro e w1 ⟨X1, cc, rfl, hO, hcc, hb⟩
 have HE := hid (way_end C.out rfl hb hO hcc)
 have hC1 := C.out.below hb
 have d0 := hC1.2.1 0 _ rfl
 have d1 := hC1.2.1 1 _ rfl
 have e0 := hC1.2.2 0
 have e1 := hC1.2.2 1
 clear hC1 hO hb c0 c1 f0 f1 AG C
 go_simp
 go_wp2_with fail
 go_end0
 exact ⟨rfl, HE.out⟩
end Go.Proofs.YteapnfdpkjbfhaaGreat
namespace Go.Proofs.YteapnfdpkjbfhaaGreat
set_option linter.unusedVariables false
set_option linter.unusedSimpArgs false
open Go.RowKit Go.ChangeShapes Go.WideShapes Go.ChangeAt
set_option maxRecDepth 100000
/-- A stand: its pool, its wheel. -/
structure StAt (w : World) (sb wb : Nat) (p : Pl) : Prop where
 pl : PoolAt w sb p
 sl : w.cell? ⟨sb, 330, none⟩ = some (.slice (some ⟨wb, 0, none⟩) 127 127)
 wh : IA w wb 127 (whlW p)
section
variable {w w' : World} {sb wb pb : Nat} {p : Pl} {nr : Nat → Option Int}
theorem StAt.below (h : StAt w sb wb p) (hb : Below w.heap.size w w') : StAt w' sb wb p := ⟨h.pl.below hb, (hb.cell (p := ⟨sb, 330, none⟩) h.pl.1).trans h.sl, h.wh.below hb⟩
theorem PoolAt.r7 (h : PoolAt w sb p) : w.cell? ⟨sb, 323, none⟩ = some (.int .i64 p.r.e) ∧ w.cell? ⟨sb, 324, none⟩ = some (.int .u64 p.r.p.a) ∧ w.cell? ⟨sb, 325, none⟩ = some (.int .u64 p.r.p.b) ∧ w.cell? ⟨sb, 326, none⟩ = some (.int .u64 p.r.c.a) ∧ w.cell? ⟨sb, 327, none⟩ = some (.int .u64 p.r.c.b) ∧ w.cell? ⟨sb, 328, none⟩ = some (.int .u64 p.r.n.a) ∧ w.cell? ⟨sb, 329, none⟩ = some (.int .u64 p.r.n.b) :=
 ⟨h.cr 0 (by omega), h.cr 1 (by omega), h.cr 2 (by omega), h.cr 3 (by omega), h.cr 4 (by omega), h.cr 5 (by omega), h.cr 6 (by omega)⟩
theorem PoolAt.s5 (h : PoolAt w sb p) (i : Nat) (hi : i < 64) : w.cell? ⟨sb, 3 + i * 5, none⟩ = some (.int .i64 (p.s i).st) ∧ w.cell? ⟨sb, 3 + i * 5 + 1, none⟩ = some (.int .i64 (p.s i).ad) ∧ w.cell? ⟨sb, 3 + i * 5 + 2, none⟩ = some (.int .i64 (p.s i).po) ∧ w.cell? ⟨sb, 3 + i * 5 + 3, none⟩ = some (.int .i64 (p.s i).we) ∧ w.cell? ⟨sb, 3 + i * 5 + 4, none⟩ = some (.int .i64 (p.s i).si) :=
 ⟨h.cs i 0 hi (by omega), h.cs i 1 hi (by omega), h.cs i 2 hi (by omega), h.cs i 3 hi (by omega), h.cs i 4 hi (by omega)⟩
/-- The stamps that came last. -/
def nrV (nr : Nat → Option Int) (j : Nat) : Value := if j % 2 = 0 then .int .u32 ((nr (j / 2)).getD 0) else .bool (nr (j / 2)).isSome
/-- The cells of a plane that is up. -/
def plf (sb : Nat) (nr : Nat → Option Int) (j : Nat) : Value := if j = 0 then .pointer (some ⟨sb, 0, none⟩) else if j = 1 then .bool true else nrV nr (j - 2)
theorem nr_cell (h : Fb w pb 130 (plf sb nr)) (i : Nat) (hi : i < 64) : w.cell? ⟨pb, 2 + i * 2, none⟩ = some (.int .u32 ((nr i).getD 0)) ∧ w.cell? ⟨pb, 2 + i * 2 + 1, none⟩ = some (.bool (nr i).isSome) := by
 have h1 := h.2.1 (2 + i * 2) (by omega)
 have h2 := h.2.1 (2 + i * 2 + 1) (by omega)
 unfold plf nrV at h1 h2
 rw [if_neg (by omega), if_neg (by omega), if_pos (by omega), show (2 + i * 2 - 2) / 2 = i by omega] at h1
 rw [if_neg (by omega), if_neg (by omega), if_neg (by omega), show (2 + i * 2 + 1 - 2) / 2 = i by omega] at h2
 exact ⟨h1, h2⟩
end
theorem flow_any (p : Pl) (sb : Nat) (a q : Int) (w : World) (h1 : w.cell? ⟨sb, 1, none⟩ = some (.int .i64 p.a)) (h2 : w.cell? ⟨sb, 2, none⟩ = some (.int .i64 p.p)) (hlt : sb < w.heap.size) :
 Calls Tryz.prog 80 #[.pointer (some ⟨sb, 0, none⟩), .int .i64 a, .int .i64 q] w fun e w' => e = .returned (flV (flP p a q)) ∧ Below w.heap.size w w' := by
 unfold flV flP
 have S0 : Hid (HS [] w w []) := hid HS.start
 go_enter Tryz.func80, Tryz.ntmps80
 go_upto_region 1 with ((with_reducible refine wl_id ?_); refine wl_ow rfl (ow_allocC rfl (zFl _) (by simp) S0.out ?_); intro U w_ hZ _; have S1 := hid hZ; clear hZ)
 refine wp_region_held_drew (S := fun (w' : World) => ∃ l, HS [] w w' [thC U l]) (by kernel_rfl) ?_ (fun hHeld => ?_)
 ·exact ⟨_, S1.out.drew⟩
 have F0 := S1.out.drew
 clear S0 S1
 refine tkq 0 hHeld ?_
 refine tkq 1 hHeld ?_
 refine tkq 2 hHeld ?_
 refine tkq 3 hHeld ?_
 refine tkq 4 hHeld ?_
 refine tkq 5 hHeld ?_
 refine tkq 6 hHeld ?_ (hy := by intro w hSw; (try dsimp only at hSw); obtain ⟨f, hS⟩ := hSw; have x1 := (hS.bl.cell (p := ⟨sb, 1, none⟩) hlt).trans h1; have x2 := (hS.bl.cell (p := ⟨sb, 2, none⟩) hlt).trans h2; go_simp; (try with_reducible rfl))
 refine tkq 7 hHeld ?_
 refine tkq 8 hHeld ?_
 refine tkq 9 hHeld ?_
 refine tkq 10 hHeld ?_
 refine tkq 11 hHeld ?_ (hy := by intro w hSw; (try dsimp only at hSw); obtain ⟨f, hS⟩ := hSw; have x1 := (hS.bl.cell (p := ⟨sb, 1, none⟩) hlt).trans h1; have x2 := (hS.bl.cell (p := ⟨sb, 2, none⟩) hlt).trans h2; go_simp; (try with_reducible rfl))
 refine tkq 12 hHeld ?_
 refine only 13 rfl (by kernel_rfl) rfl (fun K hK => ?_)
 refine ow_storeC (A := []) [.int .i64 a, .int .i64 q, .int .i64 p.a, .int .i64 p.p] rfl rfl rfl F0 rfl iFl rfl (fun w9 hZ => ?_)
 refine hK.out _ _ ⟨_, hZ⟩ (fun _ => ?_)
 clear hK
 try simp only [Act.put, List.setIfInBounds_toArray, List.set_cons_zero, List.set_cons_succ]
 have S9 := hid hZ
 refine wpAnyH_done (by kernel_rfl) ?_ _
 (first | refine end_then ?_ | refine then_norm ?_); apply_assumption; refine wp_ret ?_; (repeat refine ret_then ?_); (show bodyPost _ _ _ _ _ _); exact bodyPost_ret (v := .agg ([.int .i64 a, .int .i64 q, .int .i64 p.a, .int .i64 p.p] : List Value).toArray) (results_C Tryz.results80 _ rfl (S9.out.ce 0 rfl) Tryz.underlying77 rfl iFl) rfl ⟨rfl, S9.out.bl⟩
theorem back_p (p : Pl) (pb sb : Nat) (nr : Nat → Option Int) (s : Nat) (hs : s < 64) (e : Int) (he : U32 e) (hnr : Nt32 nr) (w : World) (hF : Fb w pb 130 (plf sb nr)) :
 Calls Tryz.prog 88 #[.pointer (some ⟨pb, 0, none⟩), .int .i64 (s : Int), .int .u32 e] w fun x w' => x = .returned (.int .u32 (backT nr s e)) ∧ Below w.heap.size w w' := by
 have c0 := (nr_cell hF s hs).1
 have c1 := (nr_cell hF s hs).2
 have i0 : (0 : Int) ≤ s := by omega
 have i1 : (s : Int) < 64 := by omega
 clear hF
 cases hn : nr s with
 | none =>
   have HT : Hid (backT nr s e = 0) := hid (by unfold backT; rw [hn])
   rw [hn] at c0 c1
   dsimp only [Option.getD, Option.isSome] at c0 c1
   go_enter Tryz.func88, Tryz.ntmps88
   go_wp2_with fail
   refine (get32_any 0 false _).mono ?_
   rintro x w1 ⟨rfl, hb⟩
   have HB := hid hb
   clear hb c0 c1
   go_simp
   go_wp2_with fail
   go_ret
   exact ⟨by rw [HT.out]; rfl, HB.out⟩
 | some v =>
   have HT : Hid (backT nr s e = backV e v) := hid (by unfold backT; rw [hn])
   have hv := hnr s v hn
   rw [hn] at c0 c1
   dsimp only [Option.getD, Option.isSome] at c0 c1
   go_enter Tryz.func88, Tryz.ntmps88
   go_wp2_with fail
   refine (get32_any v true _).mono ?_
   rintro x w1 ⟨rfl, hb⟩
   have HB := hid hb
   clear hb c0 c1
   go_simp
   go_wp2_with fail
   refine (back_any e v he hv _).mono ?_
   rintro x w2 ⟨rfl, hb⟩
   have HB2 := hid (then_ HB.out hb)
   clear hb
   go_simp
   go_wp2_with fail
   go_ret
   exact ⟨by rw [HT.out]; rfl, HB2.out⟩
theorem carried_any (x : Pk) (AO : Option Addr) (cO : Nat) (AD : Option Addr) (cD : Nat) (w : World) (hB : By w AO x.no x.go) (hg : IsB x.go) (hn : x.no ≤ 1000000) (hc : x.no ≤ cO) :
 Calls Tryz.prog 110 #[.agg #[.int .i64 x.kind, .int .i64 x.life, .int .i64 x.piece, .int .i64 x.src, .int .i64 x.dst, .int .i64 x.fp, .int .i64 x.tp, .int .i64 x.flags, .int .i64 x.label, .bool x.bare, .int .i64 x.code, .slice AO x.no cO, .slice AD x.nd cD]] w fun e w' => e = .returned (.tuple #[.int .i64 ((carT x).getD 0), .bool (carT x).isSome]) ∧ Below w.heap.size w w' := by
 cases k2 : (x.kind == 2)
 ·cases k1 : (x.flags == 1)
  ·have ST := hid (fun (w' : World) (hb : Below w.heap.size w w') => (show Calls Tryz.prog 87 #[.slice AO x.no cO] w' fun e w2 => e = .returned (.tuple #[.int .i64 (stO x).1, .int .u32 (stO x).2.1, .int .u32 (stO x).2.2.1, .bool (stO x).2.2.2]) ∧ Below w'.heap.size w' w2 from stamp_any AO x.no cO x.go w' (Sl.below hB hb (Nat.le_refl _)) hg hn hc))
   have hu := st_u32 hg
   have HT : Hid ((carT x).getD 0 = (stO x).2.2.1 % 1048576 ∧ (carT x).isSome = (stO x).2.2.2) := hid (by
    unfold carT
    rw [if_neg (by simpa using k2), if_neg (by simpa using k1)]
    cases hs : (stO x).2.2.2
    ·have h0 : (stO x).2.2.1 = 0 := by
      unfold stO stamp stS at hs ⊢
      split
      ·rfl
      ·split
       ·rfl
       ·rename_i h1 _ _ h2; rw [h1] at hs; simp only [h2] at hs; cases hs
     rw [h0]; exact ⟨rfl, rfl⟩
    ·exact ⟨rfl, rfl⟩)
   clear hB
   generalize stO x = z at ST hu HT
   obtain ⟨z1, z2, z3, z4⟩ := z
   dsimp only at ST hu HT
   obtain ⟨_, hu3⟩ := hu
   have GT := hid (fun w => get_any z3 hu3 w)
   clear hu3
   go_enter Tryz.func110, Tryz.ntmps110
   go_wp2_with fail
   refine (ST.out _ ((Below.refl _ _).alloc (Nat.le_refl _) _)).mono ?_
   rintro e w1 ⟨rfl, hb⟩
   have HB := hid (then_ ((Below.refl _ _).alloc (Nat.le_refl _) _) hb)
   clear hb ST
   go_simp
   go_wp2_with fail
   refine (GT.out _).mono ?_
   rintro e w2 ⟨rfl, hb⟩
   have HB2 := hid (then_ HB.out hb)
   clear hb
   go_simp
   go_wp2_with fail
   go_ret2
   exact ⟨by rw [HT.out.1, HT.out.2]; rfl, HB2.out⟩
  ·have HT : Hid (carT x = none) := hid (by unfold carT; rw [if_neg (by simpa using k2), if_pos (by simpa using k1)])
   go_enter Tryz.func110, Tryz.ntmps110
   go_wp2_with fail
   go_ret2
   exact ⟨by rw [HT.out]; rfl, (Below.refl _ _).alloc (Nat.le_refl _) _⟩
 ·cases k0 : (x.label == 0)
  ·have HT : Hid (carT x = some x.label) := hid (by unfold carT; rw [if_pos (by simpa using k2), if_neg (by simpa using k0)])
   have k3 : (x.label != 0) = true := by simpa using k0
   go_enter Tryz.func110, Tryz.ntmps110
   go_wp2_with fail
   go_quiet (fail)
   go_wp2_with fail
   go_ret2
   exact ⟨by rw [HT.out]; rfl, below_drewN ((Below.refl _ _).alloc (Nat.le_refl _) _) _⟩
  ·have HT : Hid (carT x = none) := hid (by unfold carT; rw [if_pos (by simpa using k2), if_pos (by simpa using k0)])
   have k4 : x.label = 0 := by simpa using k0
   have k3 : (x.label != 0) = false := by simpa using k0
   go_enter Tryz.func110, Tryz.ntmps110
   go_wp2_with fail
   go_quiet (fail)
   go_wp2_with fail
   go_ret2
   exact ⟨by rw [HT.out]; rfl, below_drewN ((Below.refl _ _).alloc (Nat.le_refl _) _) _⟩
end Go.Proofs.YteapnfdpkjbfhaaGreat
namespace Go.Proofs.YteapnfdpkjbfhaaGreat
set_option linter.unusedVariables false
set_option linter.unusedSimpArgs false
open Go.RowKit Go.ChangeShapes Go.WideShapes Go.ChangeAt
set_option maxRecDepth 100000
/-- What a packet became. -/
def Took (w : World) (pb sb : Nat) (t : To) (e : Ending) (w' : World) : Prop := ∃ X c, e = .returned (ocV t.d t.s t.c (.slice X t.n c)) ∧ OB w' w.heap.size (.slice X t.n c) t.n t.f ∧ t.n ≤ c ∧ Fb w' pb 130 (plf sb t.nr) ∧ Ch [pb] w w'
theorem HS.way {S : List Nat} {W w w' : World} {A R : List Th} {wb n B : Nat} {l : List Value} {F : Nat → Int} (h : HS S W w (A ++ thC wb l :: R)) (hw : Way w wb n F B w') (hB : B = w.heap.size) : ∃ X c, HS S W w' (thW W.heap.size 5 1 (.slice X n c) n (fun j => .int .u8 (F j)) :: (A ++ thC wb [.slice X n c, .int .i64 0] :: R)) ∧ n ≤ c := by
 subst hB
 obtain ⟨X, c, hC, hO, hc, hch⟩ := hw
 refine ⟨X, c, ?_, hc⟩
 have h1 := h.upd (thC wb [.slice X n c, .int .i64 0]) rfl hch hC
 have hO' : Ow w' W.heap.size 5 1 (.slice X n c) n (fun j => .int .u8 (F j)) := OB.base hO h.wsize
 have hlt : ∀ b, b ∈ (A ++ thC wb l :: R).flatMap Th.bs → b < w.heap.size := fun b hb => by
  obtain ⟨t, ht, htb⟩ := List.mem_flatMap.1 hb
  exact t.lt w (h.1 t ht) b htb
 have hbs : (A ++ thC wb [.slice X n c, .int .i64 0] :: R).flatMap Th.bs = (A ++ thC wb l :: R).flatMap Th.bs := by simp [thC]
 have hge : ∀ b, b ∈ (thW W.heap.size 5 1 (.slice X n c) n (fun j => .int .u8 (F j))).bs → w.heap.size ≤ b := fun b hb => (World.ownsRow.lt hO b (by simpa [thW] using hb)).1
 refine ⟨fun t ht => ?_, h1.2.1, ?_, fun b hb => ?_⟩
 ·rcases List.mem_cons.1 ht with rfl | ht
  ·exact hO'
  ·exact h1.1 t ht
 ·rw [List.flatMap_cons, List.nodup_append]
  refine ⟨by unfold thW; dsimp only; cases (Value.slice X n c).ownBlock <;> simp, h1.2.2.1, fun a ha b hb e => ?_⟩
  subst e
  rw [hbs] at hb
  have := hlt a hb
  have := hge a ha
  omega
 ·rw [List.flatMap_cons] at hb
  rcases List.mem_append.1 hb with hb | hb
  ·exact .inr (Nat.le_trans h.wsize (hge b hb))
  ·exact h1.2.2.2 b hb
theorem bycookie_any (p : Pl) (sb wb : Nat) (x : Pk) (hkd : x.kind = 1 ∨ x.kind = 2) (hp : Pt p) (AO : Option Addr) (cO : Nat) (AD : Option Addr) (cD : Nat) (w : World) (hS : StAt w sb wb p) (hB : By w AO x.no x.go) (hg : IsB x.go) (hn : x.no ≤ 1000000) (hc : x.no ≤ cO) (hf : (flP p x.src x.fp).I) :
 Calls Tryz.prog 85 #[.pointer (some ⟨sb, 0, none⟩), .agg #[.int .i64 x.kind, .int .i64 x.life, .int .i64 x.piece, .int .i64 x.src, .int .i64 x.dst, .int .i64 x.fp, .int .i64 x.tp, .int .i64 x.flags, .int .i64 x.label, .bool x.bare, .int .i64 x.code, .slice AO x.no cO, .slice AD x.nd cD], .agg #[.int .i64 x.src, .int .i64 x.fp, .int .i64 p.a, .int .i64 p.p]] w fun e w' => e = .returned (.tuple #[.int .i64 ((byT p x).getD 0), .bool (byT p x).isSome]) ∧ Below w.heap.size w w' := by
 have CR := hid (fun (w' : World) (hb : Below w.heap.size w w') => carried_any x AO cO AD cD w' (Sl.below hB hb (Nat.le_refl _)) hg hn hc)
 have RD := hid (fun (c : Int) (w' : World) => (show Calls Tryz.prog 111 #[.agg #[.int .i64 p.r.e, .int .u64 p.r.p.a, .int .u64 p.r.p.b, .int .u64 p.r.c.a, .int .u64 p.r.c.b, .int .u64 p.r.n.a, .int .u64 p.r.n.b], .int .i64 x.kind, .agg #[.int .i64 x.src, .int .i64 x.fp, .int .i64 p.a, .int .i64 p.p], .int .i64 c] w' fun e w2 => e = .returned (rdO (readC (tkT x.kind) p.r x.kind (flP p x.src x.fp) c)) ∧ Below w'.heap.size w' w2 from by
  rcases hkd with h | h
  ·rw [h]; exact read1 p.r (flP p x.src x.fp) c hf hp.2.1 w'
  ·rw [h]; exact read2 p.r (flP p x.src x.fp) c hf hp.2.1 w'))
 have SA := hid hS
 have S0 : Hid (HS [] w w []) := hid HS.start
 clear hS hB
 cases hcar : carT x with
 | none =>
   have HT : Hid (byT p x = none) := hid (by unfold byT; rw [hcar]; rfl)
   go_enter Tryz.func85, Tryz.ntmps85
   go_wp2_with fail
   refine (CR.out _ (((Below.refl _ _).alloc (Nat.le_refl _) _).alloc (by simp) _)).mono ?_
   rintro e w1 ⟨rfl, hb⟩
   have HB := hid (then_ (((Below.refl _ _).alloc (Nat.le_refl _) _).alloc (by simp) _) hb)
   clear hb CR
   rw [hcar]
   dsimp only [Option.getD, Option.isSome]
   go_simp
   go_wp2_with fail
   go_ret2
   exact ⟨by rw [HT.out]; rfl, HB.out⟩
 | some c =>
   obtain ⟨o, ho⟩ : ∃ o, o = readC (tkT x.kind) p.r x.kind (flP p x.src x.fp) c := ⟨_, rfl⟩
   have HT0 : Hid (byT p x = o.bind fun s => if takesB (p.s s.toNat).st = true then some s else none) := hid (by unfold byT; rw [hcar, ho]; rfl)
   have ho2 := hid (fun s (h : o = some s) => read_bd _ _ _ _ _ _ (by rw [← ho]; exact h))
   have RD2 := hid (fun w' => RD.out c w')
   rw [← ho] at RD2
   unfold rdO at RD2
   clear ho RD
   go_enter Tryz.func85, Tryz.ntmps85
   go_upto_region 1 with (first | ((with_reducible refine wl_id ?_); refine wl_ow rfl (ow_boxC (l := [.int .i64 x.kind, .int .i64 x.life, .int .i64 x.piece, .int .i64 x.src, .int .i64 x.dst, .int .i64 x.fp, .int .i64 x.tp, .int .i64 x.flags, .int .i64 x.label, .bool x.bare, .int .i64 x.code, .slice AO x.no cO, .slice AD x.nd cD]) rfl rfl (by simp) S0.out ?_); intro E w_ hZ _; have S1 := hid hZ; clear hZ) | ((with_reducible refine wl_id ?_); refine wl_ow rfl (ow_boxC (l := [.int .i64 x.src, .int .i64 x.fp, .int .i64 p.a, .int .i64 p.p]) rfl rfl (by simp) S1.out ?_); intro F w_ hZ _; have S2 := hid hZ; clear hZ))
   obtain ⟨y0, y1, y2, y3, y4, y5, y6, y7, y8, y9, y10, y11, y12⟩ := (S2.out.ce 1 rfl).c13
   go_wp2_with fail
   refine (CR.out _ S2.out.bl).mono ?_
   rintro e w1 ⟨rfl, hb⟩
   have S3 := hid (S2.out.below hb)
   clear hb CR S0 S1 S2 y0 y1 y2 y3 y4 y5 y6 y7 y8 y9 y10 y11 y12
   rw [hcar]
   dsimp only [Option.getD, Option.isSome]
   go_simp
   go_upto_region 4 with (fail)
   refine wp_region_held_drew (S := fun (w' : World) => HS [] w w' [thC F [.int .i64 x.src, .int .i64 x.fp, .int .i64 p.a, .int .i64 p.p], thC E [.int .i64 x.kind, .int .i64 x.life, .int .i64 x.piece, .int .i64 x.src, .int .i64 x.dst, .int .i64 x.fp, .int .i64 x.tp, .int .i64 x.flags, .int .i64 x.label, .bool x.bare, .int .i64 x.code, .slice AO x.no cO, .slice AD x.nd cD]]) (by kernel_rfl) ?_ (fun hHeld => ?_)
   ·exact S3.out.drew
   refine tkq 0 hHeld ?_
   refine tkq 1 hHeld ?_
   refine tkq 2 hHeld ?_
   refine tkq 3 hHeld ?_
   refine tkq 4 hHeld ?_ (hy := by intro w hSw; (try dsimp only at hSw); obtain ⟨r0, r1, r2, r3, r4, r5, r6⟩ := (SA.out.below hSw.bl).pl.r7; go_simp; (try with_reducible rfl))
   refine tkq 5 hHeld ?_
   refine tkq 6 hHeld ?_ (hy := by intro w hSw; (try dsimp only at hSw); obtain ⟨y0, y1, y2, y3, y4, y5, y6, y7, y8, y9, y10, y11, y12⟩ := (hSw.ce 1 rfl).c13; go_simp; (try with_reducible rfl))
   refine tkq 7 hHeld ?_ (hy := by intro w hSw; (try dsimp only at hSw); obtain ⟨f0, f1, f2, f3⟩ := (hSw.ce 0 rfl).c4; go_simp; (try with_reducible rfl))
   refine tkq 8 hHeld ?_
   refine only 9 rfl (by kernel_rfl) rfl (fun K hK => ?_)
   go_simp
   refine (RD2.out _).mono ?_
   rintro e w4 ⟨rfl, hb⟩
   try go_wp2_with fail
   refine hK.out _ _ (hHeld.below hb) (fun h4 => ?_)
   clear hK hb
   try simp only [Act.put, List.setIfInBounds_toArray, List.set_cons_zero, List.set_cons_succ]
   refine tkq 10 h4 ?_
   refine tkq 11 h4 ?_
   refine tkq 12 h4 ?_
   refine tkq 13 h4 ?_
   refine tkq 14 h4 ?_
   have S4 := hid h4
   clear h4 hHeld S3
   refine wpAnyH_done (by kernel_rfl) ?_ _
   cases o with
   | none =>
     have HT : Hid (byT p x = none) := hid HT0.out
     dsimp only [Option.getD, Option.isSome]
     go_wp2_with fail
     go_ret2
     exact ⟨by rw [HT.out]; rfl, S4.out.bl⟩
   | some s =>
     obtain ⟨hs0, hs1⟩ := ho2.out s rfl
     obtain ⟨k, rfl⟩ : ∃ k : Nat, s = (k : Int) := ⟨s.toNat, by omega⟩
     have hk : k < 64 := by omega
     have i0 : (0 : Int) ≤ k := by omega
     have i1 : (k : Int) < 64 := by omega
     have hst := SA.out.below S4.out.bl
     obtain ⟨q0, q1, q2, q3, q4⟩ := hst.pl.s5 k hk
     clear hst ho2
     have TKS := hid (fun (w' : World) => (show Calls Tryz.prog 112 #[.agg #[.int .i64 (p.s k).st, .int .i64 (p.s k).ad, .int .i64 (p.s k).po, .int .i64 (p.s k).we, .int .i64 (p.s k).si]] w' fun e w2 => e = .returned (.bool (takesB (p.s k).st)) ∧ Below w'.heap.size w' w2 from takes_any (p.s k) w'))
     cases ht : takesB (p.s k).st
     ·have HT : Hid (byT p x = none) := hid (by rw [HT0.out]; show (if takesB (p.s k).st = true then some (k : Int) else none) = none; rw [ht]; rfl)
      rw [ht] at TKS
      dsimp only [Option.getD, Option.isSome]
      go_wp2_with fail
      refine (TKS.out _).mono ?_
      rintro e w5 ⟨rfl, hb⟩
      have HB := hid (then_ S4.out.bl hb)
      clear hb S4 q0 q1 q2 q3 q4
      go_simp
      go_wp2_with fail
      go_ret2
      exact ⟨by rw [HT.out]; rfl, HB.out⟩
     ·have HT : Hid (byT p x = some (k : Int)) := hid (by rw [HT0.out]; show (if takesB (p.s k).st = true then some (k : Int) else none) = _; rw [ht]; rfl)
      rw [ht] at TKS
      dsimp only [Option.getD, Option.isSome]
      go_wp2_with fail
      refine (TKS.out _).mono ?_
      rintro e w5 ⟨rfl, hb⟩
      have HB := hid (then_ S4.out.bl hb)
      clear hb S4 q0 q1 q2 q3 q4
      go_simp
      go_wp2_with fail
      go_ret2
      exact ⟨by rw [HT.out]; rfl, HB.out⟩
theorem wend_any {w : World} {wb n c : Nat} {X : Option Addr} (hC : Ce w wb [.slice X n c, .int .i64 0]) (s : Int) (b : Bool) :
 Calls Tryz.prog 84 #[.pointer (some ⟨wb, 0, none⟩), .agg #[.int .i64 0, .int .i64 s, .bool b, .slice none 0 0]] w fun x w' => x = .returned (ocV 0 s b (.slice X n c)) ∧ Below w.heap.size w w' := by
 unfold ocV
 have HC := hid hC
 have S0 : Hid (HS [] w w []) := hid HS.start
 clear hC
 go_enter Tryz.func84, Tryz.ntmps84
 go_upto_region 1 with (first | ((with_reducible refine wl_id ?_); refine wl_ow rfl (ow_boxC (l := [.int .i64 0, .int .i64 s, .bool b, .slice none 0 0]) rfl rfl (by simp) S0.out ?_); intro T w_ hZ _; have S1 := hid hZ; clear hZ) | ((with_reducible refine wl_id ?_); refine wl_ow rfl (ow_allocC rfl (zOc _) (by simp) S1.out ?_); intro U w_ hZ _; have S2 := hid hZ; clear hZ))
 obtain ⟨c0, c1⟩ := (HC.out.below S2.out.bl).c2
 obtain ⟨f0, f1, f2, f3⟩ := (S2.out.ce 1 rfl).c4
 have g3 := (S2.out.ce 1 rfl).2.2 3
 go_upto_region 4 with (fail)
 have S3 := hid (HS.setC (A := [thC U [.int .i64 0, .int .i64 0, .bool false, .slice none 0 0]]) S2.out 3 (.slice X n c) (by simp))
 simp only [List.set_cons_succ, List.set_cons_zero, List.cons_append, List.nil_append] at S3
 generalize w_.setCell ⟨T, 3, none⟩ (.slice X n c) = w3 at *
 clear S2 S1 S0 f0 f1 f2 f3 c0 c1
 obtain ⟨f0, f1, f2, f3⟩ := (S3.out.ce 1 rfl).c4
 go_wp2_with (((with_reducible refine wl_id ?_); refine wl_ow rfl (ow_storeC (A := []) [.int .i64 0, .int .i64 s, .bool b, .slice X n c] rfl rfl (rfl) S3.out rfl iOc rfl ?_); intro w_ hZ; have S9 := hid hZ; clear hZ; (first | refine end_then ?_ | refine then_norm ?_); apply_assumption; refine wp_ret ?_; (repeat refine ret_then ?_); (show bodyPost _ _ _ _ _ _); exact bodyPost_ret (v := .agg ([.int .i64 0, .int .i64 s, .bool b, .slice X n c] : List Value).toArray) (results_C Tryz.results84 _ rfl (S9.out.ce 0 rfl) Tryz.underlying47 rfl iOc) rfl ⟨rfl, S9.out.bl⟩))
end Go.Proofs.YteapnfdpkjbfhaaGreat
