/- What laws of heads share; the chapter's example, plainly. -/
import Derived.Test.YtomlpkojnipkhaaGreatGa
import Derived.Test.YtomlpkojnipkhaaGreatHdHear
import Derived.Test.YtomlpkojnipkhaaGreatHdWish
import Derived.Test.YtomlpkojnipkhaaGreatHdSend
import Derived.Test.YtomlpkojnipkhaaGreatGr
import Derived.BigQuiet
import Derived.Deep.RegionHeld3
import Derived.Deep.Cut
import Derived.IntWalk
namespace Go.Proofs.YtomlpkojnipkhaaGreat
set_option linter.unusedVariables false
set_option linter.unusedSimpArgs false
open Go.RowKit Go.ChangeShapes Go.WideShapes Go.ChangeAt

section
variable {S : List Nat} {W w w' : World} {L A B : List Th} {t t' : Th}
theorem HS.addH {b c m n : Nat} {h : Hd} (hS : HS S W w L) (hH : HeadAt w' b c m n h) (g1 : w.heap.size ≤ b) (g2 : w.heap.size ≤ c) (g3 : w.heap.size ≤ m) (hB : Below w.heap.size w w') : HS S W w' (thH b c m n h :: L) :=
  hS.new (thH b c m n h) hB hH hH.nd (fun x hx => by simp [thH] at hx; rcases hx with rfl | rfl | rfl <;> assumption)
theorem HS.updNew (h : HS S W w (A ++ t :: B)) (t' : Th) (hbs : t'.bs = t.bs) (hc : Ch t.bs w w') (ht : t'.at_ w') {b n : Nat} {f : Nat → Value} (hF : Fb w' b n f) (hb : w.heap.size ≤ b) : HS S W w' (thB b n f :: (A ++ t' :: B)) := by
  have h2 := h.upd t' hbs hc ht
  have hW := h.wsize
  refine ⟨fun x hx => ?_, h2.2.1, ?_, fun x hx => ?_⟩
  · rcases List.mem_cons.1 hx with rfl | hx
    · exact hF
    · exact h2.1 x hx
  · rw [List.flatMap_cons, List.nodup_append]
    refine ⟨by simp [thB], h2.2.2.1, fun a ha x hx e => ?_⟩
    subst e
    simp [thB] at ha
    subst ha
    obtain ⟨y, hy, hya⟩ := List.mem_flatMap.1 hx
    have h3 : ∃ z, z ∈ A ++ t :: B ∧ a ∈ z.bs := by
      rcases List.mem_append.1 hy with hy | hy
      · exact ⟨y, List.mem_append.2 (.inl hy), hya⟩
      · rcases List.mem_cons.1 hy with rfl | hy
        · exact ⟨t, by simp, hbs ▸ hya⟩
        · exact ⟨y, List.mem_append.2 (.inr (List.mem_cons_of_mem _ hy)), hya⟩
    obtain ⟨z, hz, hza⟩ := h3
    have := z.lt w (h.1 z hz) a hza
    omega
  · rw [List.flatMap_cons] at hx
    rcases List.mem_append.1 hx with h1 | h1
    · simp [thB] at h1; subst h1; exact .inr (Nat.le_trans hW hb)
    · exact h2.2.2.2 x h1
end
theorem hnew_fa (p : Pl) (u : Nat) (hu : 1 ≤ u ∧ u ≤ 16) (w : World) : Calls Tryz.prog 40 #[.agg (FA 330 (pc p)), .int .i64 (u : Int)] w (NewOk w p u) := hnew_ok p u hu w
theorem pool_fa {w : World} {b c m n : Nat} {h : Hd} (hH : HeadAt w b c m n h) : Calls Tryz.prog 46 #[.pointer (some ⟨b, 0, none⟩)] w fun x w' => x = .returned (.agg (FA 330 (pc h.pl))) ∧ Below w.heap.size w w' := pool_any hH
theorem send_fa {w : World} {b c m n : Nat} {h : Hd} (hH : HeadAt w b c m n h) (hu : h.un ≤ 16) (hp : PB h.pl) (hv2 : 0 ≤ (sendH h).pl.v ∧ (sendH h).pl.v ≤ 1000000000) (h' : Hd) (l : List Nt) (he : sendH h = h') (hl : notesK h' h.un = l) :
    Calls Tryz.prog 45 #[.pointer (some ⟨b, 0, none⟩)] w fun x w' => ∃ (A : Option Addr) (cc : Nat), x = .returned (.slice A l.length cc) ∧ l.length ≤ cc ∧ HeadAt w' b c m n h' ∧ Ch [b, c, m] w w' ∧ (0 < l.length → ∃ g : Nat, A = some ⟨g, 0, none⟩ ∧ w.heap.size ≤ g ∧ Fb w' g (l.length * 342) (ntf l)) := by
  subst he; subst hl
  exact send_any hH hu hp hv2
theorem heard_fa {w : World} {b c m n : Nat} {h : Hd} (hH : HeadAt w b c m n h) (nt : Nt) (hun : h.un ≤ 16) (hn : n ≤ 1000000) (h' : Hd) (he : heardH h nt = h') : Calls Tryz.prog 41 #[.pointer (some ⟨b, 0, none⟩), .agg (FA 342 (ntc nt))] w fun x w' => x = .returned (.tuple #[]) ∧ HeadAt w' b c m (n + 1) h' ∧ Ch [b, c, m] w w' := by
  subst he
  cases e : earB h nt with
  | true => exact heard_yes hH nt e hun hn
  | false =>
    refine (heard_no hH nt e).mono fun x w' ⟨h1, h2, h3⟩ => ⟨h1, ?_, h3⟩
    have : heardH h nt = h := by unfold heardH; rw [e]; rfl
    rw [this]
    exact h2.mono
theorem nt_k (l : List Nt) (i : Nat) (x : Nt) (hx : l[i]? = some x) (j : Nat) (hj : j < 342) : ntf l (i * 342 + j) = ntc x j := by
  unfold ntf
  rw [show (i * 342 + j) / 342 = i by omega, show (i * 342 + j) % 342 = j by omega]
  simp [List.getD, hx]
theorem Fb.ntk {w : World} {g n : Nat} {l : List Nt} (h : Fb w g n (ntf l)) (i : Nat) (x : Nt) (hx : l[i]? = some x) (hn : i * 342 + 342 ≤ n) (j : Nat) (hj : j < 342) : w.cell? ⟨g, i * 342 + j, none⟩ = some (ntc x j) := by
  rw [h.2.1 _ (by omega), nt_k l i x hx j hj]
end Go.Proofs.YtomlpkojnipkhaaGreat

