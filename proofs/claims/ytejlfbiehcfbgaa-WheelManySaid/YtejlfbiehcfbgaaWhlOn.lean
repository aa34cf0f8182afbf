/- A course goes on; its next place. -/
import Derived.Test.YtejlfbiehcfbgaaWhlAsk
import Derived.Deep.LoopGhost
import Derived.BigQuiet
import Derived.Deep.RegionHeld3
import Derived.Deep.Cut
namespace Go.Proofs.Ytejlfbiehcfbgaa
set_option linter.unusedVariables false
set_option linter.unusedSimpArgs false
open Go.RowKit Go.ChangeShapes Go.WideShapes Go.ChangeAt

set_option maxRecDepth 100000 in
set_option maxHeartbeats 4000000 in
theorem on_any (C o : Nat) (ho : o + 1 < 128) (g : Nat → Int) (a : Int) (h0 : 0 ≤ g o ∧ g o < 127) (h1 : 1 ≤ g (o + 1) ∧ g (o + 1) ≤ 126) (he : (g o + g (o + 1)).tmod 127 = a) (w : World) (h : IA w C 128 g) :
    Calls Try.prog 43 #[.pointer (some ⟨C, o, none⟩)] w fun e w' => e = .returned (.tuple #[]) ∧ IA w' C 128 (putW g o a) ∧ w.grownBy w' (some C) := by
  obtain ⟨h01, h02⟩ := h0
  obtain ⟨h11, h12⟩ := h1
  have HI := hid h
  have HE := hid he
  have hw : IntKind.i64.wrap (g o + g (o + 1)) = g o + g (o + 1) := IntWalk.i64_in _ (by omega)
  have c0 := h.2.1 o (by omega)
  have c1 := h.2.1 (o + 1) (by omega)
  have z0 := h.2.2 o
  generalize g o = x at *
  generalize g (o + 1) = y at *
  clear h
  go_enter Try.func43, Try.ntmps43
  go_upto_region 0 with (fail)
  go_region
  all_goals
    go_wp2_with fail
    go_end0
    refine ⟨rfl, ?_, ?_⟩
    · exact HI.out.drew.set o (by omega) a
    · exact grown_set (grown_drew w _)
theorem pos_succ (a b t : Nat) : ((posW a b t : Nat) : Int) + b = ((posW a b t + b : Nat) : Int) ∧ (((posW a b t : Nat) : Int) + b).tmod 127 = (posW a b (t + 1) : Nat) := by
  refine ⟨by omega, ?_⟩
  have h : (posW a b t + b) % 127 = posW a b (t + 1) := by unfold posW; rw [Nat.mod_add_mod, Nat.add_assoc, ← Nat.succ_mul]
  rw [show ((posW a b t : Nat) : Int) + b = ((posW a b t + b : Nat) : Int) by omega, Int.tmod_eq_emod_of_nonneg (by omega), ← h]
  omega
theorem putW_same (g : Nat → Int) (o : Nat) (x : Int) : putW g o x o = x := by unfold putW; simp
theorem putW_ne (g : Nat → Int) {o j : Nat} (x : Int) (h : j ≠ o) : putW g o x j = g j := by unfold putW; rw [if_neg h]
theorem putW_put (g : Nat → Int) (o : Nat) (x y : Int) : putW (putW g o x) o y = putW g o y := by
  funext j
  unfold putW
  split <;> rfl
set_option maxRecDepth 100000 in
set_option maxHeartbeats 4000000 in
theorem next_any_w (C o B c a b k F : Nat) (ho : o + 1 < 128) (hne : C ≠ B) (hb : 1 ≤ b ∧ b ≤ 126) (g f : Nat → Int) (g0 : g o = (posW a b k : Nat)) (g1 : g (o + 1) = b) (HK : Hid (∀ j, j < k → f (posW a b j) ≠ -1))
    (hF : f (posW a b F) = -1) (hno : ∀ j, j < F → f (posW a b j) ≠ -1) (w : World) (h : IA w C 128 g) (hB : IA w B 127 f) :
    Calls Try.prog 32 #[.pointer (some ⟨C, o, none⟩), .slice (some ⟨B, 0, none⟩) 127 c] w fun e w' => e = .returned (.int .i64 (posW a b F : Nat)) ∧ IA w' C 128 (putW g o (posW a b (F + 1) : Nat)) ∧ w.grownBy w' (some C) := by
  have HF := hid hF
  have HN := hid hno
  have HB := hid hB
  clear hno hB
  have b1 : 1 ≤ (b : Int) := by omega
  have b2 : (b : Int) ≤ 126 := by omega
  have hge : k ≤ F := by
    rcases Nat.lt_or_ge F k with h | h
    · exact absurd hF (HK.out F h)
    · exact h
  have ho' : o + 1 < 128 := ho
  have h0 := hid (show IA w C 128 (putW g o (posW a b k : Nat)) from h.as_ (fun j _ => by by_cases e : j = o; (subst e; rw [putW_same, g0]); (rw [putW_ne _ _ e])))
  have G1 := hid g1
  clear h g0 g1 hF
  go_enter Try.func32, Try.ntmps32
  go_wp2_with fail
  go_loopg [] (F - k) (fun gh wr => ∃ t, k ≤ t ∧ gh = F - t ∧ t ≤ F ∧ IA wr C 128 (putW g o (posW a b t : Nat)) ∧ w.grownBy wr (some C))
  case atStart => exact ⟨k, Nat.le_refl _, rfl, hge, h0.out, World.grownBy.refl w _⟩
  case round =>
    obtain ⟨t, ht, rfl, htF, hC, hg⟩ := hrel
    have HC := hid hC
    have HG := hid hg
    clear hC hg h0
    have hp := pos_lt a b t
    have hBr := HB.out.grown HG.out (fun e => hne (by injection e))
    have c0 := HC.out.2.1 o (by omega)
    rw [putW_same] at c0
    have cb := hBr.2.1 (posW a b t) hp
    clear hBr
    have p0 : (0 : Int) ≤ (posW a b t : Nat) := by omega
    have p1 : ((posW a b t : Nat) : Int) < 127 := by omega
    have p2 : ((posW a b t : Nat) : Int) ≤ 127 := by omega
    by_cases hlt : t < F
    · have hf := HN.out t hlt
      have bf : (f (posW a b t) != -1) = true := by simpa using hf
      clear hf
      have ON := hid (fun (w0 : World) (h : IA w0 C 128 (putW g o (posW a b t : Nat))) => on_any C o ho' (putW g o (posW a b t : Nat)) (posW a b (t + 1) : Nat) (by rw [putW_same]; omega) (by rw [putW_ne _ _ (by omega), G1.out]; omega) (by rw [putW_same, putW_ne _ _ (by omega), G1.out]; exact (pos_succ a b t).2) w0 h)
      generalize hq : posW a b t = q at *
      have HQ := hid hq
      clear hq
      go_wp2_with fail
      refine (ON.out _ HC.out).mono ?_
      rintro e w2 ⟨rfl, h2, hg2⟩
      have H2 := hid h2
      have HG2 := hid (HG.out.trans hg2)
      clear h2 hg2 HG ON c0 cb
      go_wp2_with fail
      go_roundg (F - (t + 1))
      case measure => omega
      case rel => exact ⟨t + 1, by omega, rfl, hlt, by have := H2.out; rw [putW_put] at this; exact this, HG2.out⟩
    · have e : t = F := by omega
      subst e
      have bf : (f (posW a b t) != -1) = false := by rw [HF.out]; rfl
      have ON := hid (fun (w0 : World) (h : IA w0 C 128 (putW g o (posW a b t : Nat))) => on_any C o ho' (putW g o (posW a b t : Nat)) (posW a b (t + 1) : Nat) (by rw [putW_same]; omega) (by rw [putW_ne _ _ (by omega), G1.out]; omega) (by rw [putW_same, putW_ne _ _ (by omega), G1.out]; exact (pos_succ a b t).2) w0 h)
      generalize hq : posW a b t = q at *
      have HQ := hid hq
      clear hq
      go_wp2_with fail
      refine (ON.out _ HC.out).mono ?_
      rintro e w2 ⟨rfl, h2, hg2⟩
      have H2 := hid h2
      have HG2 := hid (HG.out.trans hg2)
      clear h2 hg2 HG ON c0 cb
      go_wp2_with fail
      go_ret
      exact ⟨by rw [HQ.out]; rfl, by have := H2.out; rw [putW_put] at this; exact this, HG2.out⟩
end Go.Proofs.Ytejlfbiehcfbgaa
