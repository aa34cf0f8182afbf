/- A client's packet. -/
import Derived.Test.YteapnfdpkjbfhaaGreatGa
import Derived.Test.YteapnfdpkjbfhaaGreatTopTh
import Derived.Test.YteapnfdpkjbfhaaGreatTopChM
import Derived.Test.YteapnfdpkjbfhaaGreatGu
import Derived.Deep.CutBlock
import Derived.Deep.CutRange
import Derived.BigQuiet
import Derived.Deep.RegionHeld3
import Derived.Deep.Cut
import Derived.IntWalk
namespace Go.Proofs.YteapnfdpkjbfhaaGreat
set_option linter.unusedVariables false
set_option linter.unusedSimpArgs false
open Go.RowKit Go.ChangeShapes Go.WideShapes Go.ChangeAt
set_option maxRecDepth 100000
/-- A client's packet. -/
structure Inn (p : Pl) (x : Pk) : Prop where
 md : Mkd x
 lf : 1 ≤ x.life ∧ x.life ≤ 9
 pc : x.piece = 0
 src : 0 ≤ x.src ∧ x.src ≤ 4294967295
 dst : x.dst = p.a
 fp : 0 ≤ x.fp ∧ x.fp ≤ 65535
 tp : x.tp = p.p
theorem within_any9 (a n : Int) (w : World) (hb : 0 < n) (hb' : n ≤ 4611686018427387904) :
 Calls Tryz.prog 31 #[.int .i64 a, .int .i64 n] w fun e w' => e = .returned (.int .i64 (wi a n)) ∧ w = w' := by
 have ht := tmod_bd a n hb
 have hn := hid (tmod_neg a n hb)
 have hp := hid (tmod_pos a n hb)
 obtain ⟨h1, h2⟩ := ht
 go_enter Tryz.func31, Tryz.ntmps31
 go_wp2
 ·go_ret
  exact ⟨ret_i64 (hn.out (by assumption)), rfl⟩
 ·go_ret
  exact ⟨ret_i64 (hp.out (by assumption)), rfl⟩
theorem u8_bd (x : Int) : 0 ≤ IntKind.u8.wrap x ∧ IntKind.u8.wrap x ≤ 255 := by
 show 0 ≤ x % 256 ∧ x % 256 ≤ 255
 omega
theorem u32_w (x : Int) : U32 (IntKind.u32.wrap x) := by
 unfold U32
 show 0 ≤ x % 4294967296 ∧ x % 4294967296 < 4294967296
 omega
theorem HS.nilY {S : List Nat} {W w : World} {L : List Th} {f : Nat → Int} (h : HS S W w L) : HS S W w (thY (.slice none 0 0) 0 f :: L) := h.newY (Below.refl _ _) OB.nil
theorem HS.sub {S : List Nat} {W w : World} {L M : List Th} (h : HS S W w L) (hs : M.Sublist L) : HS S W w M := by
 obtain ⟨h1, h2, h3, h4⟩ := h
 have hm : ∀ b, b ∈ M.flatMap Th.bs → b ∈ L.flatMap Th.bs := fun b hb => by
  obtain ⟨x, hx, hxb⟩ := List.mem_flatMap.1 hb
  exact List.mem_flatMap.2 ⟨x, hs.subset hx, hxb⟩
 refine ⟨fun x hx => h1 x (hs.subset hx), h2, h3.sublist ?_, fun b hb => h4 b (hm b hb)⟩
 clear h1 h2 h3 h4 hm
 induction hs with
 | slnil => exact List.Sublist.refl _
 | cons a _ ih => rw [List.flatMap_cons]; exact ih.trans (List.sublist_append_right _ _)
 | cons_cons a _ ih => rw [List.flatMap_cons, List.flatMap_cons]; exact List.Sublist.append (List.Sublist.refl _) ih
theorem HS.join {S : List Nat} {W w w' : World} {L M : List Th} (h : HS S W w L) (k : HS [] w w' M) : HS S W w' (M ++ L) := by
 have hL := h.below k.bl
 refine ⟨fun x hx => ?_, hL.2.1, ?_, fun b hb => ?_⟩
 ·rcases List.mem_append.1 hx with hx | hx
  ·exact k.1 x hx
  ·exact hL.1 x hx
 ·rw [List.flatMap_append, List.nodup_append]
  refine ⟨k.2.2.1, hL.2.2.1, fun a ha b hb e => ?_⟩
  subst e
  obtain ⟨x, hx, hxa⟩ := List.mem_flatMap.1 hb
  have h1 := x.lt w (h.1 x hx) a hxa
  rcases k.2.2.2 a ha with h2 | h2
  ·cases h2
  ·omega
 ·rw [List.flatMap_append] at hb
  rcases List.mem_append.1 hb with hb | hb
  ·rcases k.2.2.2 b hb with h2 | h2
   ·cases h2
   ·exact .inr (Nat.le_trans h.wsize h2)
  ·exact hL.2.2.2 b hb
/-- A row that is read, in a block. -/
def thR (b : Nat) (A : Option Addr) (n : Nat) (f : Nat → Int) : Th := ⟨fun w => b < w.heap.size ∧ (0 < n → ∃ off, A = some ⟨b, off, none⟩ ∧ ∀ j, j < n → w.cell? ⟨b, off + j, none⟩ = some (.int .u8 (f j))), [b],
 fun w w' h e => ⟨lt_of_same h.1 (e b (by simp)), fun hn => by
  obtain ⟨off, rfl, hc⟩ := h.2 hn
  exact ⟨off, rfl, fun j hj => (World.cell?_of_block (a := ⟨b, off + j, none⟩) (e b (by simp))).trans (hc j hj)⟩⟩,
 fun _ h x hx => by simp at hx; subst hx; exact h.1⟩
theorem HS.byR {S : List Nat} {W w : World} {L : List Th} {b n : Nat} {A : Option Addr} {f : Nat → Int} (h : HS S W w L) (k : Nat) (hk : L[k]? = some (thR b A n f)) : By w A n f := fun hn => by
 obtain ⟨h1, h2⟩ := (show (thR b A n f).at_ w from h.nth k hk)
 obtain ⟨off, rfl, hc⟩ := h2 hn
 exact ⟨b, off, rfl, h1, hc⟩
attribute [local irreducible] FA FL mkBO
end Go.Proofs.YteapnfdpkjbfhaaGreat

