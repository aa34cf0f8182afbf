/- Build and Parse of packets that are told by their fields. -/
import Derived.Test.YtjfopkbpaekejaaGreatGa
import Derived.Test.YtjfopkbpaekejaaGreatTopPk
import Derived.Test.YtjfopkbpaekejaaGreatGwd
import Derived.BigQuiet
import Derived.Deep.RegionHeld3
import Derived.Deep.Cut
namespace Go.Proofs.YtjfopkbpaekejaaGreat
set_option linter.unusedVariables false
set_option linter.unusedSimpArgs false
open Go.RowKit Go.ChangeShapes Go.WideShapes Go.ChangeAt
theorem build_p (p : Pk) (L : Nat) (F : Nat → Int) (hL : L = lenP p) (hF : F = builtF p) (hE : buildE p = 0) (hgo : IsB p.go) (hgd : IsB p.gd) (h1 : p.no ≤ 1000000) (h2 : p.nd ≤ 1000000) (AO : Option Addr) (cO : Nat) (AD : Option Addr) (cD : Nat) (w : World) (HO : By w AO p.no p.go) (HD : By w AD p.nd p.gd) :
    Calls Tryz.prog 90 #[.agg #[.int .i64 p.kind, .int .i64 p.life, .int .i64 p.piece, .int .i64 p.src, .int .i64 p.dst, .int .i64 p.fp, .int .i64 p.tp, .int .i64 p.flags, .int .i64 p.label, .bool p.bare, .int .i64 p.code, .slice AO p.no cO, .slice AD p.nd cD]] w fun e w' => ∃ A c, e = .returned (.tuple #[.slice A L c, .int .i64 0]) ∧ OB w' w.heap.size (.slice A L c) L F ∧ L ≤ c ∧ Below w.heap.size w w' := by
  subst hL hF
  have h := build_any p AO cO AD cD w HO HD hgo hgd h1 h2
  rw [hE] at h
  exact h.mono fun e w' h => outd_ok h
theorem pkV_pe {p q : Pk} (h : Pe q p) (O D : Value) : pkV q O D = pkV p O D := by
  unfold pkV pkL
  rw [h.kind, h.life, h.piece, h.src, h.dst, h.fp, h.tp, h.flags, h.label, h.bare, h.code]
theorem parse_p (p : Pk) (g : Nat → Int) (n : Nat) (hg : IsB g) (hn : n ≤ 1000000) (hP : parseE g n = 0) (pe : Pe (parseR g n) p) (A : Option Addr) (c : Nat) (hc : n ≤ c) (w : World) (h : By w A n g) :
    Calls Tryz.prog 37 #[.slice A n c] w fun e w' => ∃ AO cO AD cD, e = .returned (.tuple #[.agg #[.int .i64 p.kind, .int .i64 p.life, .int .i64 p.piece, .int .i64 p.src, .int .i64 p.dst, .int .i64 p.fp, .int .i64 p.tp, .int .i64 p.flags, .int .i64 p.label, .bool p.bare, .int .i64 p.code, .slice AO p.no cO, .slice AD p.nd cD], .int .i64 0]) ∧ OB w' w.heap.size (.slice AO p.no cO) p.no p.go ∧ OB w' w.heap.size (.slice AD p.nd cD) p.nd p.gd ∧ Below w.heap.size w w' := by
  have h := parse_any A n c g w h hg hc hn
  refine h.mono ?_
  rintro e w' ⟨O, D, rfl, hO, hD, hb⟩
  rw [hP, pkV_pe pe]
  rw [pe.no] at hO
  rw [pe.nd] at hD
  obtain ⟨AO, cO, rfl, _, _, _⟩ := hO.form_
  obtain ⟨AD, cD, rfl, _, _, _⟩ := hD.form_
  exact ⟨AO, cO, AD, cD, rfl, hO.as2 (fun j hj => pe.go j (by rw [pe.no]; exact hj)), hD.as2 (fun j hj => pe.gd j (by rw [pe.nd]; exact hj)), hb⟩
end Go.Proofs.YtjfopkbpaekejaaGreat

