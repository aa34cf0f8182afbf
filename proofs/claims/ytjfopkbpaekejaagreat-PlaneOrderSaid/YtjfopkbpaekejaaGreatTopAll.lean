/- What goes on through a unit is whole where it was. -/
import Derived.Test.YtjfopkbpaekejaaGreatGa
import Derived.Test.YtjfopkbpaekejaaGreatTopPk
import Derived.Test.YtjfopkbpaekejaaGreatGz
import Derived.BigQuiet
import Derived.Deep.RegionHeld3
import Derived.Deep.Cut
import Derived.IntWalk
namespace Go.Proofs.YtjfopkbpaekejaaGreat
set_option linter.unusedVariables false
set_option linter.unusedSimpArgs false
open Go.RowKit Go.ChangeShapes Go.WideShapes Go.ChangeAt
/-- A gram's label written over. -/
theorem wr_lab {g : Nat → Int} {L : Nat} {v : Int} (hg : IsB g) (hp : parseE g L = 0) (h2 : g 0 = 2) (hv : 0 ≤ v ∧ v ≤ 65535) : parseE (wrF g L 20 2 v) L = 0 ∧ wholeB (wrF g L 20 2 v) L = wholeB g L ∧ Pe (parseR (wrF g L 20 2 v) L) { parseR g L with label := v } := by
  have hs : sumA (g 0) = 22 := by rw [h2]; decide
  have o : ∀ j, j < 20 ∨ 24 ≤ j → wrF g L 20 2 v j = g j := fun j a => wr_out (by omega) (by omega) (by omega)
  have hi : ∀ j, 20 ≤ j → j < 22 → wrF g L 20 2 v j = by8 v (21 - j) := fun j a b => by
    unfold wrF
    split
    · rw [putF_in a b]
    · rw [fillF_out (by omega), tbody_out (by omega), putF_in a b]
  have e0 : wrF g L 20 2 v 0 = g 0 := o 0 (by omega)
  have hb := wr_bare (L := L) (v := v) (show 16 ≤ 20 by omega) (show 20 + 2 ≤ sumA (g 0) ∨ sumA (g 0) + 2 ≤ 20 by omega)
  obtain ⟨f1, f2, f3, _⟩ := parse_facts hp
  obtain ⟨a1, a2⟩ := parseE_0 hp
  have q : parseE (wrF g L 20 2 v) L = 0 := by
    unfold parseE
    rw [headE_ext (g := g) (fun j hj => o j (by omega)), if_pos a1]
    unfold bodyE at a2 ⊢
    rw [e0, h2, if_neg (by decide), if_neg (by omega), if_neg (fun h => absurd h.1 (by decide))]
  refine ⟨q, wholeB_of hg (wr_B hg _ _ _ _) e0 f3 f1 q hp hb (fun h => wr_sum hg f1 f2 (by omega) (by omega) (by omega) (by omega) h), ?_⟩
  have nm : ∀ a m, a + m ≤ 20 → num (wrF g L 20 2 v) a m = num g a m := fun a m h => num_ext fun j a b => o j (by omega)
  have nl : num (wrF g L 20 2 v) 20 2 = v := num_by2 (hi 20 (by omega) (by omega)) (hi 21 (by omega) (by omega)) hv.1 hv.2
  have hbare : (num (wrF g L 20 2 v) 22 2 == 0) = (num g 22 2 == 0) := by
    unfold bareF at hb
    rw [e0, h2] at hb
    simpa using hb
  unfold parseR
  rw [if_pos q, if_pos hp]
  unfold parseP
  rw [e0, h2, if_neg (by decide), if_pos rfl, if_neg (by decide), if_pos rfl, o 1 (by omega), o 12 (by omega), nm 4 4 (by omega), nm 8 4 (by omega), nm 16 2 (by omega), nm 18 2 (by omega), nl, hbare]
  exact ⟨rfl, rfl, rfl, rfl, rfl, rfl, rfl, rfl, rfl, rfl, rfl, rfl, fun _ _ => rfl, rfl, fun j _ => o _ (by omega)⟩
theorem pe_lab {x y : Pk} (h : Pe x y) (v : Int) : Pe { x with label := v } { y with label := v } :=
  ⟨h.kind, h.life, h.piece, h.src, h.dst, h.fp, h.tp, h.flags, rfl, h.bare, h.code, h.no, h.go, h.nd, h.gd⟩
/-- What is out is whole where it was, as long, from the pool's place. -/
theorem out_all {p : Pl} {nr : Nat → Option Int} {g : Nat → Int} {n s : Nat} {x : Pk} (hp : Pt p) (hnr : Nt32 nr) (hg : IsB g) (hq : parseE g n = 0) (pe : Pe (parseR g n) x) (hk : x.kind = 1 ∨ x.kind = 2) (hl : 1 < x.life) (hgo : IsB x.go) (hlb : 0 ≤ x.label ∧ x.label ≤ 65535) (hs : s < 64) :
    ∃ F nr' go' lb, outT p nr g n x s = ⟨0, -1, false, n, F, nr'⟩ ∧ IsB F ∧ parseE F n = 0 ∧ wholeB F n = wholeB g n ∧ IsB go' ∧ (0 ≤ lb ∧ lb ≤ 65535) ∧ (x.kind = 1 → lb = x.label) ∧ Nt32 nr' ∧ Pe (parseR F n) { moved { x with life := x.life - 1 } true p.a p.p with go := go', label := lb } := by
  have hk3 : x.kind ≠ 3 := by omega
  obtain ⟨q1, q2, q3, q4, q5⟩ := an_read (s := true) (ad := p.a) (po := p.p) hg hq pe hl hk3 hp.2.2.2.1 hp.2.2.2.2
  have e0 : g 0 = x.kind := pe_kind hq pe
  have ob := okC_bd p x s hs
  rcases hk with hk | hk
  · by_cases hst : (stO x).2.2.2 = true
    · obtain ⟨i1, i2, i3⟩ := st_in hst
      obtain ⟨u1, u2⟩ := st_u32 hgo
      have hl24 : 24 + x.no ≤ n := by have := (rd_len hg hq).2.2.2.2.2.2.1 (by rw [e0, hk]); rw [pe.no] at this; exact this
      have hw := wr_opt (i := (stO x).1.toNat) (v := putV (stO x).2.1 (okC p x s)) q1 (by rw [q5, e0, hk]) (by rw [q3.no]; show _ ≤ x.no; omega)
      refine ⟨wrF (natF (ageF g) n true p.a p.p) n (24 + (stO x).1.toNat) 4 (putV (stO x).2.1 (okC p x s)), setN nr s (stO x).2.1, putF x.go (stO x).1.toNat 4 (putV (stO x).2.1 (okC p x s)), x.label, ?_, wr_B q2 _ _ _ _, wr_parse (by omega) q1, ?_, putF_B hgo _ _ _, hlb, fun _ => rfl, ?_, ?_⟩
      · unfold outT
        dsimp only
        rw [if_neg (by omega), if_pos hst]
      · rw [wr_whole q2 (by omega) (by omega) (by omega) q1, q4]
      · intro j v hj
        unfold setN at hj
        split at hj
        · injection hj with hj; rw [← hj]; exact u1
        · exact hnr j v hj
      · exact pe_trans hw (pe_go q3)
    · refine ⟨natF (ageF g) n true p.a p.p, nr, x.go, x.label, ?_, q2, q1, q4, hgo, hlb, fun _ => rfl, hnr, q3⟩
      unfold outT
      dsimp only
      rw [if_neg (by omega), if_neg hst]
  · obtain ⟨w1, w2, w3⟩ := wr_lab (v := okC p x s) q2 q1 (by rw [q5, e0, hk]) (by have := ob.1 hk; omega)
    refine ⟨wrF (natF (ageF g) n true p.a p.p) n 20 2 (okC p x s), nr, x.go, okC p x s, ?_, wr_B q2 _ _ _ _, w1, by rw [w2, q4], hgo, by have := ob.1 hk; omega, fun h => absurd (hk.symm.trans h) (by decide), hnr, ?_⟩
    · unfold outT
      dsimp only
      rw [if_pos hk]
    · exact pe_trans w3 (pe_lab q3 _)
/-- What is in, likewise. -/
theorem in_all {p : Pl} {nr : Nat → Option Int} {g : Nat → Int} {n : Nat} {x : Pk} (hp : Pt p) (hg : IsB g) (hq : parseE g n = 0) (pe : Pe (parseR g n) x) (hk : x.kind = 1 ∨ x.kind = 2) (hl : 1 < x.life) (hgo : IsB x.go) :
    inT p nr g n x = dropT 9 nr ∨ ∃ (k : Nat) (c : Bool) (F go' : Nat → Int), k < 64 ∧ slT p x = k ∧ inT p nr g n x = ⟨0, k, c, n, F, nr⟩ ∧ c = (byT p x).isSome ∧ IsB F ∧ parseE F n = 0 ∧ wholeB F n = wholeB g n ∧ IsB go' ∧ Pe (parseR F n) { moved { x with life := x.life - 1 } false (p.s k).ad (p.s k).po with go := go' } := by
  have hk3 : x.kind ≠ 3 := by omega
  have e0 : g 0 = x.kind := pe_kind hq pe
  rcases sl_bd p x with h | ⟨k, hk64, h⟩
  · left
    unfold inT
    rw [if_pos h]
  · right
    have hsp := hp.1 k hk64
    obtain ⟨q1, q2, q3, q4, q5⟩ := an_read (s := false) (ad := (p.s k).ad) (po := (p.s k).po) hg hq pe hl hk3 hsp.1 hsp.2.1
    have hI : inT p nr g n x = ⟨0, k, (byT p x).isSome, n, inG p nr g n x k, nr⟩ := by
      unfold inT
      rw [h, if_neg (by omega)]
      rfl
    by_cases hst : (stO x).2.2.2 = true ∧ (stO x).2.2.1 ≠ 0
    · have hk1 : x.kind = 1 := by
        rcases hk with hk | hk
        · exact hk
        · have h0 := (rd_len hg hq).2.2.2.2.2.1 (by rw [e0, hk])
          rw [pe.no] at h0
          have := (st_in hst.1).2.1
          omega
      obtain ⟨i1, i2, i3⟩ := st_in hst.1
      have hl24 : 24 + x.no ≤ n := by have := (rd_len hg hq).2.2.2.2.2.2.1 (by rw [e0, hk1]); rw [pe.no] at this; exact this
      obtain ⟨b, hb⟩ : ∃ b, b = backT nr k (stO x).2.2.1 := ⟨_, rfl⟩
      have hw := wr_opt (i := 4 + (stO x).1.toNat) (v := b) q1 (by rw [q5, e0, hk1]) (by rw [q3.no]; show _ ≤ x.no; omega)
      refine ⟨k, (byT p x).isSome, wrF (natF (ageF g) n false (p.s k).ad (p.s k).po) n (24 + (4 + (stO x).1.toNat)) 4 b, putF x.go (4 + (stO x).1.toNat) 4 b, hk64, h, ?_, rfl, wr_B q2 _ _ _ _, wr_parse (by omega) q1, ?_, putF_B hgo _ _ _, ?_⟩
      · rw [hI]
        unfold inG
        dsimp only
        rw [if_pos hst, ← hb, show 28 + (stO x).1.toNat = 24 + (4 + (stO x).1.toNat) from by omega]
      · rw [wr_whole q2 (by omega) (by omega) (by omega) q1, q4]
      · exact pe_trans hw (pe_go q3)
    · refine ⟨k, (byT p x).isSome, natF (ageF g) n false (p.s k).ad (p.s k).po, x.go, hk64, h, ?_, rfl, q2, q1, q4, hgo, q3⟩
      rw [hI]
      unfold inG
      dsimp only
      rw [if_neg hst]
end Go.Proofs.YtjfopkbpaekejaaGreat

