/- What laws of heads share; the chapter's example, plainly. -/
import Derived.Test.YtlfionfnpieoiaaGreatHdHear
import Derived.Test.YtlfionfnpieoiaaGreatHdWish
import Derived.Test.YtlfionfnpieoiaaGreatHdSend
import Derived.Test.YtlfionfnpieoiaaGreatPolKnown
import Derived.BigQuiet
import Derived.Deep.RegionHeld3
import Derived.Deep.Cut
import Derived.IntWalk
namespace Go.Proofs.YtlfionfnpieoiaaGreat
set_option linter.unusedVariables false
set_option linter.unusedSimpArgs false
open Go.RowKit Go.ChangeShapes Go.WideShapes Go.ChangeAt
section
variable {S : List Nat} {W w w' : World} {L A B : List Th} {t t' : Th}
theorem HS.addH {b c m n : Nat} {h : Hd} (hS : HS S W w L) (hH : HeadAt w' b c m n h) (g1 : w.heap.size ≤ b) (g2 : w.heap.size ≤ c) (g3 : w.heap.size ≤ m) (hB : Below w.heap.size w w') : HS S W w' (thH b c m n h :: L) :=
 hS.new (thH b c m n h) hB hH hH.nd (fun x hx => by simp [thH] at hx; rcases hx with rfl | rfl | rfl <;> assumption)
theorem HS.updNew (h : HS S W w (A ++ t :: B)) (t' : Th) (hbs : t'.bs = t.bs) (hc : Ch t.bs w w') (ht : t'.at_ w') {b n : Nat} {f : Nat → Value} (hF : Fb w' b n f) (hb : w.heap.size ≤ b) : HS S W w' (thB b n f :: (A ++ t' :: B)) := by
 have h2 := h.upd t' hbs hc ht
 have hW := h.wsize
 refine ⟨fun x hx => ?_, h2.2.1, ?_, fun x hx => ?_⟩
 ·rcases List.mem_cons.1 hx with rfl | hx
  ·exact hF
  ·exact h2.1 x hx
 ·rw [List.flatMap_cons, List.nodup_append]
  refine ⟨by simp [thB], h2.2.2.1, fun a ha x hx e => ?_⟩
  subst e
  simp [thB] at ha
  subst ha
  obtain ⟨y, hy, hya⟩ := List.mem_flatMap.1 hx
  have h3 : ∃ z, z ∈ A ++ t :: B ∧ a ∈ z.bs := by
   rcases List.mem_append.1 hy with hy | hy
   ·exact ⟨y, List.mem_append.2 (.inl hy), hya⟩
   ·rcases List.mem_cons.1 hy with rfl | hy
    ·exact ⟨t, by simp, hbs ▸ hya⟩
    ·exact ⟨y, List.mem_append.2 (.inr (List.mem_cons_of_mem _ hy)), hya⟩
  obtain ⟨z, hz, hza⟩ := h3
  have := z.lt w (h.1 z hz) a hza
  omega
 ·rw [List.flatMap_cons] at hx
  rcases List.mem_append.1 hx with h1 | h1
  ·simp [thB] at h1; subst h1; exact .inr (Nat.le_trans hW hb)
  ·exact h2.2.2.2 x h1
end
theorem hnew_fa (p : Pl) (u : Nat) (hu : 1 ≤ u ∧ u ≤ 16) (w : World) : Calls Tryz.prog 19 #[.agg (FA 330 (pc p)), .int .i64 (u : Int)] w (NewOk w p u) := hnew_ok p u hu w
theorem hnew_nf (p : Pl) (u : Int) (hu : u < 1 ∨ 16 < u) (w : World) : Calls Tryz.prog 19 #[.agg (FA 330 (pc p)), .int .i64 u] w fun x w' => x = .returned (.tuple #[.pointer none, .int .i64 14]) ∧ Below w.heap.size w w' := hnew_no p u hu w
theorem pool_fa {w : World} {b c m n : Nat} {h : Hd} (hH : HeadAt w b c m n h) : Calls Tryz.prog 33 #[.pointer (some ⟨b, 0, none⟩)] w fun x w' => x = .returned (.agg (FA 330 (pc h.pl))) ∧ Below w.heap.size w w' := pool_any hH
theorem make_fa (W : World) (A1 : Option Addr) (n1 c1 : Nat) (g1 : Nat → Int) (hr1 : Is W A1 n1 g1) (hl1 : ∀ ad, A1 = some ad → 0 < n1 → ad.block < W.heap.size) (hnm : (n1 : Int) ≤ 9223372036854775807) (m : Nat) (hm : m ≤ 1000) :
 Calls Tryz.prog 5 #[.slice A1 n1 c1, .int .i64 (m : Int)] W fun x w' => x = .returned (.agg (FA 330 (pc (mkP g1 (min n1 m))))) ∧ Below W.heap.size W w' := make_any W A1 n1 c1 g1 hr1 hl1 hnm m hm
theorem rnew_fa (w : World) : Calls Tryz.prog 12 #[.int .i64 10, .int .i64 80, .agg #[.int .u64 0, .int .u64 0], .agg #[.int .u64 0, .int .u64 0]] w fun x w' => x = .returned (.tuple #[.agg (FA 330 (pc ⟨0, 10, 80, fun _ => zSp, ⟨1, zKy, zKy, zKy⟩⟩)), .int .i64 0]) ∧ Below w.heap.size w w' :=
 re_v (rnew_any 10 80 zKy zKy w) (by rw [nwR_in ⟨by omega, by omega⟩ ⟨by omega, by omega⟩]; rfl)
def kp0 : Pl := ⟨0, 10, 80, fun _ => zSp, ⟨1, zKy, zKy, zKy⟩⟩
theorem kpi : Pinv kp0 0 := nwR_inv 10 80 _ _
end Go.Proofs.YtlfionfnpieoiaaGreat
