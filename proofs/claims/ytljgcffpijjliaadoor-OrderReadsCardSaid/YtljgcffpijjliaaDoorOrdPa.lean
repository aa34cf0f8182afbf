/- The example's text, read. -/
import Derived.Test.YtljgcffpijjliaaDoorOrdKn
import Derived.BigQuiet
import Derived.Deep.RegionHeld3
import Derived.Deep.Cut
namespace Go.Proofs.YtljgcffpijjliaaDoor
set_option linter.unusedVariables false
set_option linter.unusedSimpArgs false
open Go.RowKit Go.ChangeShapes Go.WideShapes Go.ChangeAt

theorem wp_scope_lead {P : Program} {a : Act} {w : World} {Q : Exit → Act → World → Prop} {c X : Code} (l : Nat) (J : Act → World → Prop) (μ : Act → World → Nat) (hf : findLabel c l = some (Code.skip.seq X))
    (start : ∀ Q' : Exit → Act → World → Prop, (∀ a w, J a w → X.wp P Q' a w) → c.wp P Q' a w)
    (pass : ∀ a w, J a w → X.wp P (Exit.jump l (fun a' w' => J a' w' ∧ μ a' w' < μ a w) Q) a w) : (Code.scope c).wp P Q a w :=
  wp_scope_jumps l J μ hf (start _ (fun a w hJ => wp_mono (pass a w hJ) (by
    intro e a w h
    cases e with
    | goto l' => exact ⟨h.1, h.2.1⟩
    | _ => exact h))) (fun a w hJ => wp_seq (wp_skip (pass a w hJ)))
theorem sp_open3 : Lib.splitB ⟨#[32]⟩ 0 (min 6 ((⟨#[111, 112, 101, 110, 32, 51]⟩ : ByteArray).size + 1) - 1) ⟨#[111, 112, 101, 110, 32, 51]⟩ = [⟨#[111, 112, 101, 110]⟩, ⟨#[51]⟩] := by decide +kernel
def PArs (w : World) (a' : Act) (w' : World) : Prop :=
  ∃ (k S : Nat) (u1 u6 u7 u8 u9 u10 u11 u12 u13 u14 u15 u16 u17 u18 u19 u20 u21 u22 u23 u24 u25 u26 u27 u28 u29 u30 u31 u32 u33 u34 u35 u36 u37 u38 u39 u40 u41 u42 u43 u44 u45 : Value), (k = 1 ∨ k = 2) ∧ Ce w' w.heap.size [.int .i64 0, .int .i64 0, .int .i64 0, .int .i64 0, .int .i64 0, .int .u64 0, .int .u64 0] ∧ Ce w' S [.string ⟨#[111, 112, 101, 110]⟩, .string ⟨#[51]⟩] ∧ Below w.heap.size w w' ∧
    a' = { tmps := #[.string ⟨#[111, 112, 101, 110, 32, 51]⟩, u1, .pointer (some ⟨w.heap.size, 0, none⟩), .bool false, .slice (some ⟨S, 0, none⟩) 2 6, .int .i64 (k : Int), u6, u7, u8, u9, u10, u11, u12, u13, u14, u15, u16, u17, u18, u19, u20, u21, u22, u23, u24, u25, u26, u27, u28, u29, u30, u31, u32, u33, u34, u35, u36, u37, u38, u39, u40, u41, u42, u43, u44, u45], defers := [] }
theorem elem_s : Tryd.prog.underlying 64 = some (.slice (Tryd.prog.elem 64)) := by kernel_rfl
theorem size_s (W : World) : (sizeOf (Tryd.prog.elem 64)).run Tryd.prog W = .ok 1 W := by kernel_rfl
set_option maxRecDepth 100000 in
set_option maxHeartbeats 4000000 in
theorem parse3 (m : Int) (w : World) (hm : w.cell? ⟨1, 0, none⟩ = some (.int .i64 m)) : Calls Tryd.prog 32 #[.string ⟨#[111, 112, 101, 110, 32, 51]⟩] w fun e w' => e = .returned (.tuple #[.agg #[.int .i64 2, .int .i64 3, .int .i64 0, .int .i64 0, .int .i64 0, .int .u64 0, .int .u64 0], .bool true]) ∧ Below w.heap.size w w' := by
  have CK := hid (fun w => (show Calls Tryd.prog 37 #[.agg #[.int .i64 2, .int .i64 3, .int .i64 0, .int .i64 0, .int .i64 0, .int .u64 0, .int .u64 0]] w fun x w' => x = .returned (.int .i64 0) ∧ Below w.heap.size w w' from re_i64 (check_any ⟨2, 3, 0, 0, 0, zKy⟩ w) (by decide)))
  have SPL := hid (show ∀ w', w'.cell? ⟨1, 0, none⟩ = some (.int .i64 m) → Calls Tryd.prog 49 #[.string ⟨#[111, 112, 101, 110, 32, 51]⟩, .string ⟨#[32]⟩, .int .i64 6] w' fun e w2 => e = .returned (.slice (some ⟨w'.heap.size, 0, none⟩) 2 6) ∧ w2 = w'.alloc (.cells #[.string ⟨#[111, 112, 101, 110]⟩, .string ⟨#[51]⟩, .string ByteArray.empty, .string ByteArray.empty, .string ByteArray.empty, .string ByteArray.empty] 9) from fun w' h => by
    have := Tryd.strings_SplitN ⟨#[111, 112, 101, 110, 32, 51]⟩ ⟨#[32]⟩ 6 m w' (by decide) h (by decide) (by decide) (by decide)
    rw [sp_open3] at this
    exact this)
  have HM := hid hm
  clear hm
  go_enter Tryd.func32, Tryd.ntmps32
  go_wp2_with fail
  have CR := hid (Ce.made (w := w) (l := [.int .i64 0, .int .i64 0, .int .i64 0, .int .i64 0, .int .i64 0, .int .u64 0, .int .u64 0]) (T := 56) (g := w.heap.size) rfl)
  have HB := hid ((Below.refl w.heap.size w).alloc (Nat.le_refl _) (.cells #[.int .i64 0, .int .i64 0, .int .i64 0, .int .i64 0, .int .i64 0, .int .u64 0, .int .u64 0] 56))
  have M1 := hid ((World.cell?_of_block (a := ⟨1, 0, none⟩) (HB.out.block 1 (World.block_lt_of_cell? _ _ HM.out))).trans HM.out)
  simp only [List.toArray] at CR
  generalize w.alloc (.cells #[.int .i64 0, .int .i64 0, .int .i64 0, .int .i64 0, .int .i64 0, .int .u64 0, .int .u64 0] 56) = w1 at *
  refine wp_scope_lead 0 (PArs w) (fun a' _ => 2 - (intOf (a'.tmps.getD 5 undef)).toNat) rfl ?_ ?_
  · intro Q' hQ
    have HQ := hid hQ
    clear hQ
    go_wp2_with fail
    refine (SPL.out _ M1.out).mono ?_
    rintro x w2 ⟨rfl, hw⟩
    have hS : Ce w2 w1.heap.size [.string ⟨#[111, 112, 101, 110]⟩, .string ⟨#[51]⟩] := by
      rw [hw]
      have h := Ce.made (w := w1) (l := [.string ⟨#[111, 112, 101, 110]⟩, .string ⟨#[51]⟩, .string ByteArray.empty, .string ByteArray.empty, .string ByteArray.empty, .string ByteArray.empty]) (T := 9) (g := w1.heap.size) rfl
      exact ⟨h.1, fun j v hj => h.2.1 j v (by rcases j with _ | _ | j; exact hj; exact hj; simp at hj), h.2.2⟩
    have hb : Below w1.heap.size w1 w2 := by rw [hw]; exact (Below.refl _ _).alloc (Nat.le_refl _) _
    have CS := hid hS
    have CR2 := hid (CR.out.below hb)
    have HB2 := hid (HB.out.trans (hb.mono HB.out.size))
    clear hw hS hb CR HB M1
    obtain ⟨S, hSz⟩ : ∃ S, S = w1.heap.size := ⟨_, rfl⟩
    rw [← hSz] at CS ⊢
    clear hSz
    go_wp2_with fail
    go_step3
    simp only [Exit.then]
    refine (by assumption : ∀ a w, _ → _) _ _ ?_
    exact HQ.out _ _ ⟨1, S, undef, _, _, _, _, _, _, _, _, _, _, _, _, _, _, _, _, _, _, _, _, _, _, _, _, _, _, _, _, _, _, _, _, _, _, _, _, _, _, _, _, .inl rfl, CR2.out, CS.out, HB2.out, rfl⟩
  · rintro a' w3 ⟨k, S', u1, u6, u7, u8, u9, u10, u11, u12, u13, u14, u15, u16, u17, u18, u19, u20, u21, u22, u23, u24, u25, u26, u27, u28, u29, u30, u31, u32, u33, u34, u35, u36, u37, u38, u39, u40, u41, u42, u43, u44, u45, hk, hr, hs, hb, rfl⟩
    have CR3 := hid hr
    have CS3 := hid hs
    have HB3 := hid hb
    clear hr hs hb CR HB SPL HM M1
    rcases hk with rfl | rfl
    · have c0 := CS3.out.2.1 0 _ rfl
      go_wp2
      go_quiet ((go_at_call 45; exact q0p (word1 _)))
      go_wp2
      go_step3
      refine ⟨rfl, ⟨2, S', _, _, _, _, _, _, _, _, _, _, _, _, _, _, _, _, _, _, _, _, _, _, _, _, _, _, _, _, _, _, _, _, _, _, _, _, _, _, _, _, _, .inr rfl, CR3.out, CS3.out, below_drewN HB3.out _, rfl⟩, ?_⟩
      simp [intOf]
    · have c0 := CS3.out.2.1 0 _ rfl
      go_wp2
      go_quiet ((go_at_call 45; exact q0p (word2 _)))
      clear c0
      obtain ⟨w4, hw4⟩ : ∃ x, x = w3.drewN nq := ⟨_, rfl⟩
      have CR4 := hid (show Ce w4 w.heap.size [.int .i64 0, .int .i64 0, .int .i64 0, .int .i64 0, .int .i64 0, .int .u64 0, .int .u64 0] from by rw [hw4]; exact CR3.out)
      have CS4 := hid (show Ce w4 S' [.string ⟨#[111, 112, 101, 110]⟩, .string ⟨#[51]⟩] from by rw [hw4]; exact CS3.out)
      have HB4 := hid (show Below w.heap.size w w4 from by rw [hw4]; exact below_drewN HB3.out _)
      rw [← hw4]
      clear hw4 CR3 CS3 HB3
      go_wp2_with fail
      refine (pall3 S' 1 5 _ (CS4.out.2.1 1 _ rfl) CS4.out.1 (by omega)).mono ?_
      rintro x w5 ⟨B, d, hd1, rfl, hc, hb⟩
      have CB5 := hid hc
      have CR5 := hid (CR4.out.below hb)
      have HB5 := hid (HB4.out.trans (hb.mono HB4.out.size))
      clear hb hc CR4 CS4 HB4
      go_wp2_with fail
      refine (entry3 B d hd1 _ CB5.out).mono ?_
      rintro x w6 ⟨rfl, hb⟩
      have CR6 := hid (CR5.out.below hb)
      have HB6 := hid (HB5.out.trans (hb.mono HB5.out.size))
      clear hb CR5 CB5 HB5
      go_upto_region 11 with (fail)
      have CE7 := hid (Ce.made (w := w6) (l := [.int .i64 2, .int .i64 3, .int .i64 0, .int .i64 0, .int .i64 0, .int .u64 0, .int .u64 0]) (T := 56) (g := w6.heap.size) rfl)
      have CR7 := hid (CR6.out.alloc (.cells #[.int .i64 2, .int .i64 3, .int .i64 0, .int .i64 0, .int .i64 0, .int .u64 0, .int .u64 0] 56))
      have HB7 := hid (HB6.out.alloc HB6.out.size (.cells #[.int .i64 2, .int .i64 3, .int .i64 0, .int .i64 0, .int .i64 0, .int .u64 0, .int .u64 0] 56))
      simp only [List.toArray] at CE7
      generalize w6.alloc (.cells #[.int .i64 2, .int .i64 3, .int .i64 0, .int .i64 0, .int .i64 0, .int .u64 0, .int .u64 0] 56) = w7 at *
      generalize w6.heap.size = E at *
      have e0 := CE7.out.2.1 0 _ rfl
      have e1 := CE7.out.2.1 1 _ rfl
      have e2 := CE7.out.2.1 2 _ rfl
      have e3 := CE7.out.2.1 3 _ rfl
      have e4 := CE7.out.2.1 4 _ rfl
      have e5 := CE7.out.2.1 5 _ rfl
      have e6 := CE7.out.2.1 6 _ rfl
      have ef := CE7.out.2.2
      go_wp2_with fail
      clear e0 e1 e2 e3 e4 e5 e6 ef
      refine (CK.out _).mono ?_
      rintro x w8 ⟨rfl, hb⟩
      have CE8 := hid (CE7.out.below hb)
      have CR8 := hid (CR7.out.below hb)
      have HB8 := hid (HB7.out.trans (hb.mono HB7.out.size))
      clear hb CE7 CR7 HB7 CR6 HB6
      have e0 := CE8.out.2.1 0 _ rfl
      have e1 := CE8.out.2.1 1 _ rfl
      have e2 := CE8.out.2.1 2 _ rfl
      have e3 := CE8.out.2.1 3 _ rfl
      have e4 := CE8.out.2.1 4 _ rfl
      have e5 := CE8.out.2.1 5 _ rfl
      have e6 := CE8.out.2.1 6 _ rfl
      have ef := CE8.out.2.2
      have r0 := CR8.out.2.1 0 _ rfl
      have r1 := CR8.out.2.1 1 _ rfl
      have r2 := CR8.out.2.1 2 _ rfl
      have r3 := CR8.out.2.1 3 _ rfl
      have r4 := CR8.out.2.1 4 _ rfl
      have r5 := CR8.out.2.1 5 _ rfl
      have r6 := CR8.out.2.1 6 _ rfl
      have rf := CR8.out.2.2
      go_wp2_with fail
      clear e0 e1 e2 e3 e4 e5 e6 ef r0 r1 r2 r3 r4 r5 r6 rf
      have CF := hid (Ce.s7 CR8.out (.int .i64 2) (.int .i64 3) (.int .i64 0) (.int .i64 0) (.int .i64 0) (.int .u64 0) (.int .u64 0))
      have BF := hid (below_s7 HB8.out (Nat.le_refl _) (.int .i64 2) (.int .i64 3) (.int .i64 0) (.int .i64 0) (.int .i64 0) (.int .u64 0) (.int .u64 0))
      unfold S7 at CF BF
      simp only [Exit.jump]
      refine at_world (fun w' => Ce w' w.heap.size [.int .i64 2, .int .i64 3, .int .i64 0, .int .i64 0, .int .i64 0, .int .u64 0, .int .u64 0] ∧ Below w.heap.size w w') ⟨CF.out, BF.out⟩ (fun wf hwf => ?_)
      obtain ⟨hc2, hbf⟩ := hwf
      have x0 := hc2.2.1 0 _ rfl
      have x1 := hc2.2.1 1 _ rfl
      have x2 := hc2.2.1 2 _ rfl
      have x3 := hc2.2.1 3 _ rfl
      have x4 := hc2.2.1 4 _ rfl
      have x5 := hc2.2.1 5 _ rfl
      have x6 := hc2.2.1 6 _ rfl
      refine bodyPost_ret (v := .tuple #[.agg #[.int .i64 2, .int .i64 3, .int .i64 0, .int .i64 0, .int .i64 0, .int .u64 0, .int .u64 0], .bool true]) (by simp [results, Tryd.results32, go_sem, x0, x1, x2, x3, x4, x5, x6]) rfl ?_
      exact ⟨rfl, hbf⟩
end Go.Proofs.YtljgcffpijjliaaDoor
