/- What the laws of packets call, told plainly. -/
import Derived.Test.YtjljaecjnpmdoaaWirMake
import Derived.Test.YtjljaecjnpmdoaaWirKnown
import Derived.Test.YtjljaecjnpmdoaaWirRparse2
import Derived.Test.YtjljaecjnpmdoaaWirRef1
import Derived.Test.YtjljaecjnpmdoaaWirRef2
import Derived.Test.YtjljaecjnpmdoaaWirRef3
import Derived.Test.YtjljaecjnpmdoaaWirNatR
import Derived.BigQuiet
import Derived.Deep.RegionHeld3
import Derived.Deep.Cut
namespace Go.Proofs.Ytjljaecjnpmdoaa
set_option linter.unusedVariables false
set_option linter.unusedSimpArgs false
open Go.RowKit Go.ChangeShapes Go.WideShapes Go.ChangeAt

theorem make_p (p : Pk) (kind : Int) (A1 : Option Addr) (n1 c1 : Nat) (g1 : Nat → Int) (A2 : Option Addr) (n2 c2 : Nat) (g2 : Nat → Int) (hp : p = mkPk kind (nv g1 n1) g2 n2) (hg2 : IsB g2) (hn1 : (n1 : Int) ≤ 9223372036854775807) (hn2 : n2 ≤ c2) (hn3 : (n2 : Int) ≤ 9223372036854775807) (w : World) (hr1 : Is w A1 n1 g1) (hr2 : By w A2 n2 g2) :
    Calls Try.prog 16 #[.int .i64 kind, .slice A1 n1 c1, .slice A2 n2 c2] w fun e w' => ∃ AO cO AD cD, e = .returned (.agg #[.int .i64 p.kind, .int .i64 p.life, .int .i64 p.piece, .int .i64 p.src, .int .i64 p.dst, .int .i64 p.fp, .int .i64 p.tp, .int .i64 p.flags, .int .i64 p.label, .bool p.bare, .int .i64 p.code, .slice AO p.no cO, .slice AD p.nd cD]) ∧ By w' AO p.no p.go ∧ By w' AD p.nd p.gd ∧ Below w.heap.size w w' := by
  subst hp
  refine (make_any kind A1 n1 c1 g1 A2 n2 c2 g2 w hr1 hr2 hg2 hn1 hn2 hn3).mono ?_
  rintro e w' ⟨O, D, rfl, hO, hD, hb⟩
  obtain ⟨AO, cO, rfl, _, _, _⟩ := hO.form_
  obtain ⟨AD, cD, rfl, _, _, _⟩ := hD.form_
  exact ⟨AO, cO, AD, cD, rfl, hO.sl1, hD.sl1, hb⟩
/-- What is known of a packet that Make made, and of what is built of it. -/
structure Mk (p : Pk) (L : Nat) (F : Nat → Int) : Prop where
  E : buildE p = 0
  C : Clean p
  go : IsB p.go
  gd : IsB p.gd
  no : p.no ≤ 1000
  nd : p.nd ≤ 2000
  kd : isK p.kind = true
  L0 : 24 ≤ L
  L1 : L ≤ 1500
  B : IsB F
  P : parseE F L = 0
  w : wholeB F L = true
  pe : Pe (parseR F L) p
theorem mk_any {p : Pk} {L : Nat} {F : Nat → Int} (f1 : buildE p = 0) (f2 : Clean p) (f3 : IsB p.go) (f4 : IsB p.gd) (f5 : p.no ≤ 1000) (f6 : p.nd ≤ 2000) (hL : L = lenP p) (hF : F = builtF p) : Mk p L F := by
  subst hL hF
  have e := buildE_0 f1
  exact ⟨f1, f2, f3, f4, f5, f6, e.1, e.2.2.2.2.2, e.2.2.2.2.1, builtF_B f4 f3 f1, built_parseE f4 f3 f1, built_whole f4 f3 f1, built_parse f4 f3 f1 f2⟩
theorem mk_all {p : Pk} {kind : Int} {v g2 : Nat → Int} {n2 L : Nat} {F : Nat → Int} (hp : p = mkPk kind v g2 n2) (hg : IsB g2) (hL : L = lenP p) (hF : F = builtF p) : Mk p L F := by
  have h := mk_facts kind v g2 n2 hg
  rw [← hp] at h
  obtain ⟨f1, f2, f3, f4, f5, f6⟩ := h
  exact mk_any f1 f2 f3 f4 (by omega) (by omega) hL hF
theorem life_E {p : Pk} {n : Int} (h : buildE p = 0) (h0 : 0 ≤ n) (h1 : n ≤ 255) : buildE { p with life := n } = 0 := by
  have e := buildE_0 h
  obtain ⟨e1, e2, e3, e4, e5, e6⟩ := e
  refine buildE_ok' e1 ?_ (fun k => by have := e3 k.1; have h2 := k.2; dsimp only at h2; omega) (fun k => ?_)
  · unfold rangeB at e2 ⊢
    simp only [Bool.and_eq_true] at e2 ⊢
    exact ⟨⟨⟨⟨by unfold inR; simp; omega, e2.1.1.1.2⟩, e2.1.1.2⟩, e2.1.2⟩, e2.2⟩
  · rcases k with k | k
    · have := e4 k.1; have h2 := k.2; dsimp only at h2; omega
    · have h3 : lenP { p with life := n } = lenP p := rfl
      rw [h3] at k; omega
theorem build_p (p : Pk) (L : Nat) (F : Nat → Int) (hL : L = lenP p) (hF : F = builtF p) (hE : buildE p = 0) (hgo : IsB p.go) (hgd : IsB p.gd) (h1 : p.no ≤ 1000000) (h2 : p.nd ≤ 1000000) (AO : Option Addr) (cO : Nat) (AD : Option Addr) (cD : Nat) (w : World) (HO : By w AO p.no p.go) (HD : By w AD p.nd p.gd) :
    Calls Try.prog 17 #[.agg #[.int .i64 p.kind, .int .i64 p.life, .int .i64 p.piece, .int .i64 p.src, .int .i64 p.dst, .int .i64 p.fp, .int .i64 p.tp, .int .i64 p.flags, .int .i64 p.label, .bool p.bare, .int .i64 p.code, .slice AO p.no cO, .slice AD p.nd cD]] w fun e w' => ∃ A c, e = .returned (.tuple #[.slice A L c, .int .i64 0]) ∧ OB w' w.heap.size (.slice A L c) L F ∧ L ≤ c ∧ Below w.heap.size w w' := by
  subst hL hF
  have h := build_any p AO cO AD cD w HO HD hgo hgd h1 h2
  rw [hE] at h
  exact h.mono fun e w' h => outd_yes h
theorem rbuild_p (p : Pk) (L : Nat) (F : Nat → Int) (hL : L = lenP p) (hF : F = builtF p) (hE : buildE p = 0) (hgo : IsB p.go) (hgd : IsB p.gd) (h1 : p.no ≤ 1000000) (h2 : p.nd ≤ 1000000) (AO : Option Addr) (cO : Nat) (AD : Option Addr) (cD : Nat) (w : World) (HO : By w AO p.no p.go) (HD : By w AD p.nd p.gd) :
    Calls Try.prog 18 #[.agg #[.int .i64 p.kind, .int .i64 p.life, .int .i64 p.piece, .int .i64 p.src, .int .i64 p.dst, .int .i64 p.fp, .int .i64 p.tp, .int .i64 p.flags, .int .i64 p.label, .bool p.bare, .int .i64 p.code, .slice AO p.no cO, .slice AD p.nd cD]] w fun e w' => ∃ A c, e = .returned (.tuple #[.slice A L c, .int .i64 0]) ∧ OB w' w.heap.size (.slice A L c) L F ∧ L ≤ c ∧ Below w.heap.size w w' := by
  subst hL hF
  have h := rbuild_any p AO cO AD cD w HO HD hgo hgd h1 h2 (buildE_0 hE).1
  rw [hE] at h
  exact h.mono fun e w' h => outd_yes h
theorem pkV_pe {p q : Pk} (h : Pe q p) (O D : Value) : pkV q O D = pkV p O D := by
  unfold pkV pkL
  rw [h.kind, h.life, h.piece, h.src, h.dst, h.fp, h.tp, h.flags, h.label, h.bare, h.code]
/-- Parse of what is a packet. -/
theorem parse_p (p : Pk) (g : Nat → Int) (n : Nat) (hg : IsB g) (hn : n ≤ 1000000) (hP : parseE g n = 0) (pe : Pe (parseR g n) p) (A : Option Addr) (c : Nat) (hc : n ≤ c) (w : World) (h : By w A n g) :
    Calls Try.prog 19 #[.slice A n c] w fun e w' => ∃ AO cO AD cD, e = .returned (.tuple #[.agg #[.int .i64 p.kind, .int .i64 p.life, .int .i64 p.piece, .int .i64 p.src, .int .i64 p.dst, .int .i64 p.fp, .int .i64 p.tp, .int .i64 p.flags, .int .i64 p.label, .bool p.bare, .int .i64 p.code, .slice AO p.no cO, .slice AD p.nd cD], .int .i64 0]) ∧ OB w' w.heap.size (.slice AO p.no cO) p.no p.go ∧ OB w' w.heap.size (.slice AD p.nd cD) p.nd p.gd ∧ Below w.heap.size w w' := by
  have h := parse_any A n c g w h hg hc hn
  refine h.mono ?_
  rintro e w' ⟨O, D, rfl, hO, hD, hb⟩
  rw [hP, pkV_pe pe]
  rw [pe.no] at hO
  rw [pe.nd] at hD
  obtain ⟨AO, cO, rfl, _, _, _⟩ := hO.form_
  obtain ⟨AD, cD, rfl, _, _, _⟩ := hD.form_
  exact ⟨AO, cO, AD, cD, rfl, hO.as2 (fun j hj => pe.go j (by rw [pe.no]; exact hj)), hD.as2 (fun j hj => pe.gd j (by rw [pe.nd]; exact hj)), hb⟩
/-- Parse of any bytes. -/
theorem parse_q (p : Pk) (E : Int) (g : Nat → Int) (n : Nat) (hp : p = parseR g n) (hE : E = parseE g n) (hg : IsB g) (hn : n ≤ 1000000) (A : Option Addr) (c : Nat) (hc : n ≤ c) (w : World) (h : By w A n g) :
    Calls Try.prog 19 #[.slice A n c] w fun e w' => ∃ AO cO AD cD, e = .returned (.tuple #[.agg #[.int .i64 p.kind, .int .i64 p.life, .int .i64 p.piece, .int .i64 p.src, .int .i64 p.dst, .int .i64 p.fp, .int .i64 p.tp, .int .i64 p.flags, .int .i64 p.label, .bool p.bare, .int .i64 p.code, .slice AO p.no cO, .slice AD p.nd cD], .int .i64 E]) ∧ OB w' w.heap.size (.slice AO p.no cO) p.no p.go ∧ OB w' w.heap.size (.slice AD p.nd cD) p.nd p.gd ∧ Below w.heap.size w w' := by
  subst hp hE
  refine (parse_any A n c g w h hg hc hn).mono ?_
  rintro e w' ⟨O, D, rfl, hO, hD, hb⟩
  obtain ⟨AO, cO, rfl, _, _, _⟩ := hO.form_
  obtain ⟨AD, cD, rfl, _, _, _⟩ := hD.form_
  exact ⟨AO, cO, AD, cD, rfl, hO, hD, hb⟩
theorem rparse_q (p : Pk) (E : Int) (g : Nat → Int) (n : Nat) (hp : p = parseR g n) (hE : E = parseE g n) (hg : IsB g) (hn : n ≤ 1000000) (A : Option Addr) (c : Nat) (hc : n ≤ c) (w : World) (h : By w A n g) :
    Calls Try.prog 24 #[.slice A n c] w fun e w' => ∃ AO cO AD cD, e = .returned (.tuple #[.agg #[.int .i64 p.kind, .int .i64 p.life, .int .i64 p.piece, .int .i64 p.src, .int .i64 p.dst, .int .i64 p.fp, .int .i64 p.tp, .int .i64 p.flags, .int .i64 p.label, .bool p.bare, .int .i64 p.code, .slice AO p.no cO, .slice AD p.nd cD], .int .i64 E]) ∧ OB w' w.heap.size (.slice AO p.no cO) p.no p.go ∧ OB w' w.heap.size (.slice AD p.nd cD) p.nd p.gd ∧ Below w.heap.size w w' := by
  subst hp hE
  refine (rparse_any A n c g w h hg hc hn).mono ?_
  rintro e w' ⟨O, D, rfl, hO, hD, hb⟩
  obtain ⟨AO, cO, rfl, _, _, _⟩ := hO.form_
  obtain ⟨AD, cD, rfl, _, _, _⟩ := hD.form_
  exact ⟨AO, cO, AD, cD, rfl, hO, hD, hb⟩
theorem same_p (p : Pk) (AO AD AO2 AD2 : Option Addr) (cO cD cO2 cD2 : Nat) (w : World) (h1 : By w AO p.no p.go) (h2 : By w AD p.nd p.gd) (h3 : By w AO2 p.no p.go) (h4 : By w AD2 p.nd p.gd) :
    Calls Try.prog 20 #[.agg #[.int .i64 p.kind, .int .i64 p.life, .int .i64 p.piece, .int .i64 p.src, .int .i64 p.dst, .int .i64 p.fp, .int .i64 p.tp, .int .i64 p.flags, .int .i64 p.label, .bool p.bare, .int .i64 p.code, .slice AO p.no cO, .slice AD p.nd cD], .agg #[.int .i64 p.kind, .int .i64 p.life, .int .i64 p.piece, .int .i64 p.src, .int .i64 p.dst, .int .i64 p.fp, .int .i64 p.tp, .int .i64 p.flags, .int .i64 p.label, .bool p.bare, .int .i64 p.code, .slice AO2 p.no cO2, .slice AD2 p.nd cD2]] w fun e w' => e = .returned (.bool true) ∧ Below w.heap.size w w' :=
  same_any p AO AD AO2 AD2 cO cD cO2 cD2 p.go p.gd w h1 h2 h3 h4 (fun _ _ => rfl) (fun _ _ => rfl)
theorem outd_q {w w' : World} {E : Int} {L n : Nat} {F G : Nat → Int} {e : Ending} (hn : n = if E = 0 then L else 0) (hG : G = F) (h : Outd w E L F e w') : ∃ A c, e = .returned (.tuple #[.slice A n c, .int .i64 E]) ∧ OB w' w.heap.size (.slice A n c) n G ∧ n ≤ c ∧ Below w.heap.size w w' := by
  subst hn hG
  obtain ⟨v, rfl, hO, hb⟩ := h
  obtain ⟨A, c, rfl, hc, _, _⟩ := hO.form_
  exact ⟨A, c, rfl, hO, hc, hb⟩
theorem write_q (g : Nat → Int) (L : Nat) (a m v : Int) (E : Int) (n : Nat) (G : Nat → Int) (hE : E = wrE g L a m v) (hn : n = if E = 0 then L else 0) (hG : G = wrF g L a.toNat m.toNat v) (hg : IsB g) (hL : L ≤ 1000000) (ra : -9223372036854775808 ≤ a ∧ a ≤ 9223372036854775807) (A : Option Addr) (c : Nat) (hc : L ≤ c) (w : World) (h : By w A L g) :
    Calls Try.prog 26 #[.slice A L c, .int .i64 a, .int .i64 m, .int .i64 v] w fun e w' => ∃ A' c', e = .returned (.tuple #[.slice A' n c', .int .i64 E]) ∧ OB w' w.heap.size (.slice A' n c') n G ∧ n ≤ c' ∧ Below w.heap.size w w' := by
  subst hE
  exact (write_any A L c g w h hg hc hL a m v ra).mono fun e w' h => outd_q hn hG h
theorem nat_q (g : Nat → Int) (L : Nat) (s : Bool) (ad po : Int) (E : Int) (n : Nat) (G : Nat → Int) (hE : E = natE g L ad po) (hn : n = if E = 0 then L else 0) (hG : G = natF g L s ad po) (hg : IsB g) (hL : L ≤ 1000000) (A : Option Addr) (c : Nat) (hc : L ≤ c) (w : World) (h : By w A L g) :
    Calls Try.prog 28 #[.slice A L c, .bool s, .int .i64 ad, .int .i64 po] w fun e w' => ∃ A' c', e = .returned (.tuple #[.slice A' n c', .int .i64 E]) ∧ OB w' w.heap.size (.slice A' n c') n G ∧ n ≤ c' ∧ Below w.heap.size w w' := by
  subst hE
  exact (nat_any A L c g w h hg hc hL s ad po).mono fun e w' h => outd_q hn hG h
theorem age_q (g : Nat → Int) (L : Nat) (E : Int) (n : Nat) (G : Nat → Int) (hE : E = ageE g L) (hn : n = if E = 0 then L else 0) (hG : G = ageF g) (hg : IsB g) (hL : L ≤ 1000000) (A : Option Addr) (c : Nat) (hc : L ≤ c) (w : World) (h : By w A L g) :
    Calls Try.prog 30 #[.slice A L c] w fun e w' => ∃ A' c', e = .returned (.tuple #[.slice A' n c', .int .i64 E]) ∧ OB w' w.heap.size (.slice A' n c') n G ∧ n ≤ c' ∧ Below w.heap.size w w' := by
  subst hE
  exact (age_any A L c g w h hg hc hL).mono fun e w' h => outd_q hn hG h
theorem rwrite_q (g : Nat → Int) (L : Nat) (a m v : Int) (E : Int) (n : Nat) (G : Nat → Int) (hE : E = wrE g L a m v) (hn : n = if E = 0 then L else 0) (hG : G = wrF g L a.toNat m.toNat v) (hg : IsB g) (hL : L ≤ 1000000) (ra : -9223372036854775808 ≤ a ∧ a ≤ 9223372036854775807) (A : Option Addr) (c : Nat) (hc : L ≤ c) (w : World) (h : By w A L g) :
    Calls Try.prog 27 #[.slice A L c, .int .i64 a, .int .i64 m, .int .i64 v] w fun e w' => ∃ A' c', e = .returned (.tuple #[.slice A' n c', .int .i64 E]) ∧ OB w' w.heap.size (.slice A' n c') n G ∧ n ≤ c' ∧ Below w.heap.size w w' := by
  subst hE
  exact (rwrite_any A L c g w h hg hc hL a m v ra).mono fun e w' h => outd_q hn hG h
theorem rnat_q (g : Nat → Int) (L : Nat) (s : Bool) (ad po : Int) (E : Int) (n : Nat) (G : Nat → Int) (hE : E = natE g L ad po) (hn : n = if E = 0 then L else 0) (hG : G = natF g L s ad po) (hg : IsB g) (hL : L ≤ 1000000) (A : Option Addr) (c : Nat) (hc : L ≤ c) (w : World) (h : By w A L g) :
    Calls Try.prog 29 #[.slice A L c, .bool s, .int .i64 ad, .int .i64 po] w fun e w' => ∃ A' c', e = .returned (.tuple #[.slice A' n c', .int .i64 E]) ∧ OB w' w.heap.size (.slice A' n c') n G ∧ n ≤ c' ∧ Below w.heap.size w w' := by
  subst hE
  exact (rnat_any A L c g w h hg hc hL s ad po).mono fun e w' h => outd_q hn hG h
theorem rage_q (g : Nat → Int) (L : Nat) (E : Int) (n : Nat) (G : Nat → Int) (hE : E = ageE g L) (hn : n = if E = 0 then L else 0) (hG : G = ageF g) (hg : IsB g) (hL : L ≤ 1000000) (A : Option Addr) (c : Nat) (hc : L ≤ c) (w : World) (h : By w A L g) :
    Calls Try.prog 31 #[.slice A L c] w fun e w' => ∃ A' c', e = .returned (.tuple #[.slice A' n c', .int .i64 E]) ∧ OB w' w.heap.size (.slice A' n c') n G ∧ n ≤ c' ∧ Below w.heap.size w w' := by
  subst hE
  exact (rage_any A L c g w h hg hc hL).mono fun e w' h => outd_q hn hG h
end Go.Proofs.Ytjljaecjnpmdoaa
