/- The laws' helper known, of chapter 5; cookies of either kind. -/
import Derived.Test.YtfokkmemjkfifabCook6
import Derived.Test.YtfokkmemjkfifabCook8
import Derived.Test.YtfokkmemjkfifabRing3
import Derived.Test.YtfokkmemjkfifabStamp1
namespace Go.Proofs.Ytfokkmemjkfifab
set_option linter.unusedVariables false
set_option linter.unusedSimpArgs false
open Go.RowKit Go.ChangeShapes Go.WideShapes Go.ChangeAt

set_option maxRecDepth 100000 in
theorem known_any (w : World) : Calls Try.prog 4 #[] w fun e w' => e = .returned (.bool true) ∧ Below w.heap.size w w' := by
  obtain ⟨c, hc⟩ : ∃ c, c = cok 4096 ⟨1, 2⟩ 1 (⟨1, 0, 0, 0⟩ : Fl) 9 1 := ⟨_, rfl⟩
  have hp := cok_parts 4096 ⟨1, 2⟩ 1 (⟨1, 0, 0, 0⟩ : Fl) 9 1 (.inl rfl) (by omega) (by omega)
  rw [← hc] at hp
  obtain ⟨hp1, _, _, hp4, hp5⟩ := hp
  have hfI : Fl.I (⟨1, 0, 0, 0⟩ : Fl) := ⟨⟨by simp, by simp⟩, ⟨by simp, by simp⟩, ⟨by simp, by simp⟩, ⟨by simp, by simp⟩⟩
  have MK := fun w => cmake1 (⟨1, ⟨0, 0⟩, ⟨1, 2⟩, ⟨3, 4⟩⟩ : Rg) (⟨1, 0, 0, 0⟩ : Fl) 9 hfI (by omega) w
  have RD := fun w => read1 (⟨1, ⟨0, 0⟩, ⟨1, 2⟩, ⟨3, 4⟩⟩ : Rg) (⟨1, 0, 0, 0⟩ : Fl) c hfI ⟨by simp, by simp⟩ w
  have hrd : readC 4096 (⟨1, ⟨0, 0⟩, ⟨1, 2⟩, ⟨3, 4⟩⟩ : Rg) 1 (⟨1, 0, 0, 0⟩ : Fl) c = some 9 := by
    rw [hc]
    exact read_cok 4096 _ _ 1 _ 9 1 (.inl rfl) (by omega) (by omega) (keyOf_now _)
  have NX := fun w => next_any (⟨1, ⟨0, 0⟩, ⟨1, 2⟩, ⟨3, 4⟩⟩ : Rg) ⟨9, 0⟩ ⟨by simp, by simp⟩ w
  rw [hrd] at RD
  replace MK := fun w => re_i64 (MK w) hc.symm
  unfold rgV flV rdO kyV at *
  simp only [Option.getD_some, Option.isSome_some] at RD
  replace MK := hid MK
  replace RD := hid RD
  replace NX := hid NX
  have d1 : (c / 262144 == 1) = true := by rw [beq_iff_eq]; omega
  have d2 : c / 262144 = 1 := by omega
  clear hc hp1 hrd hfI
  go_enter Try.func4, Try.ntmps4
  go_wp2_with fail
  refine (get_any 0 ⟨by omega, by omega⟩ _).mono ?_
  rintro e' w1 ⟨rfl, hb1⟩
  go_wp2_with fail
  have B := hb1
  have hN : w.heap.size ≤ w1.heap.size := hb1.size
  clear hb1
  have CX := Ce.made (w := w1) (l := [.int .u64 0, .int .u64 0, .int .u64 1, .int .u64 2, .int .u64 3, .int .u64 4]) (T := 25) (g := w1.heap.size) rfl
  replace B := B.alloc hN (.cells #[.int .u64 0, .int .u64 0, .int .u64 1, .int .u64 2, .int .u64 3, .int .u64 4] 25)
  generalize w1.alloc (.cells #[.int .u64 0, .int .u64 0, .int .u64 1, .int .u64 2, .int .u64 3, .int .u64 4] 25) = w2 at *
  generalize hX : w1.heap.size = X at *
  refine (re_v (cring_any 1 (some ⟨X, 0, none⟩) 3 3 _ w2 (Ce.slu [0, 0, 1, 2, 3, 4] CX) (by omega)) (b := .agg #[.int .i64 1, .int .u64 0, .int .u64 0, .int .u64 1, .int .u64 2, .int .u64 3, .int .u64 4]) rfl).mono ?_
  rintro e' w3 ⟨rfl, hb⟩
  have hX2 : X < w2.heap.size := CX.1
  replace B := B.trans (hb.mono (by omega))
  replace CX := CX.below hb
  clear hb
  go_wp2_with fail
  have CA := Ce.made (w := w3) (l := [.int .i64 1, .int .u64 0, .int .u64 0, .int .u64 1, .int .u64 2, .int .u64 3, .int .u64 4]) (T := 27) (g := w3.heap.size) rfl
  replace B := B.alloc (by have := CX.1; omega) (.cells #[.int .i64 1, .int .u64 0, .int .u64 0, .int .u64 1, .int .u64 2, .int .u64 3, .int .u64 4] 27)
  replace CX := CX.alloc (.cells #[.int .i64 1, .int .u64 0, .int .u64 0, .int .u64 1, .int .u64 2, .int .u64 3, .int .u64 4] 27)
  generalize w3.alloc (.cells #[.int .i64 1, .int .u64 0, .int .u64 0, .int .u64 1, .int .u64 2, .int .u64 3, .int .u64 4] 27) = w4 at *
  generalize w3.heap.size = A at *
  obtain ⟨kA, qA, zA⟩ := id CA
  have cA0 := qA 0 _ rfl
  have cA1 := qA 1 _ rfl
  have cA2 := qA 2 _ rfl
  have cA3 := qA 3 _ rfl
  have cA4 := qA 4 _ rfl
  have cA5 := qA 5 _ rfl
  have cA6 := qA 6 _ rfl
  clear qA zA
  refine (MK.out _).mono ?_
  rintro e' w5 ⟨rfl, hb⟩
  replace B := B.trans (hb.mono (by have := CX.1; omega))
  replace CX := CX.below hb
  replace CA := CA.below hb
  clear hb
  clear kA cA0 cA1 cA2 cA3 cA4 cA5 cA6
  obtain ⟨kA, qA, zA⟩ := id CA
  have cA0 := qA 0 _ rfl
  have cA1 := qA 1 _ rfl
  have cA2 := qA 2 _ rfl
  have cA3 := qA 3 _ rfl
  have cA4 := qA 4 _ rfl
  have cA5 := qA 5 _ rfl
  have cA6 := qA 6 _ rfl
  clear qA zA
  go_wp2_with fail
  refine (RD.out _).mono ?_
  rintro e' w6 ⟨rfl, hb⟩
  replace B := B.trans (hb.mono (by have := CX.1; omega))
  replace CX := CX.below hb
  replace CA := CA.below hb
  clear hb
  clear kA cA0 cA1 cA2 cA3 cA4 cA5 cA6
  obtain ⟨kA, qA, zA⟩ := id CA
  have cA0 := qA 0 _ rfl
  have cA1 := qA 1 _ rfl
  have cA2 := qA 2 _ rfl
  have cA3 := qA 3 _ rfl
  have cA4 := qA 4 _ rfl
  have cA5 := qA 5 _ rfl
  have cA6 := qA 6 _ rfl
  clear qA zA
  go_wp2_with fail
  refine (put_any 305419896 5 ⟨by omega, by omega⟩ (by omega) _).mono ?_
  rintro e' w7 ⟨rfl, hb⟩
  replace B := B.trans (hb.mono (by have := CX.1; omega))
  replace CX := CX.below hb
  replace CA := CA.below hb
  clear hb
  clear kA cA0 cA1 cA2 cA3 cA4 cA5 cA6
  obtain ⟨kA, qA, zA⟩ := id CA
  have cA0 := qA 0 _ rfl
  have cA1 := qA 1 _ rfl
  have cA2 := qA 2 _ rfl
  have cA3 := qA 3 _ rfl
  have cA4 := qA 4 _ rfl
  have cA5 := qA 5 _ rfl
  have cA6 := qA 6 _ rfl
  clear qA zA
  have hput : putV 305419896 5 = 1163919365 := by decide
  rw [hput]
  go_wp2_with fail
  refine (NX.out _).mono ?_
  rintro e' w8 ⟨rfl, hb⟩
  replace B := B.trans (hb.mono (by have := CX.1; omega))
  replace CX := CX.below hb
  replace CA := CA.below hb
  clear hb
  clear kA cA0 cA1 cA2 cA3 cA4 cA5 cA6
  obtain ⟨kA, qA, zA⟩ := id CA
  have cA0 := qA 0 _ rfl
  have cA1 := qA 1 _ rfl
  have cA2 := qA 2 _ rfl
  have cA3 := qA 3 _ rfl
  have cA4 := qA 4 _ rfl
  have cA5 := qA 5 _ rfl
  have cA6 := qA 6 _ rfl
  clear qA zA
  have hfd : ∀ w : World, (Instr.field 27 (.agg #[.int .i64 2, .int .u64 1, .int .u64 2, .int .u64 3, .int .u64 4, .int .u64 9, .int .u64 0]) 0).run Try.prog w = .ok (.int .i64 2) w := fun w => by
    simp [Instr.field, run_underlying Try.underlying27, asAgg, go_sem]
  go_wp2_with fail
  go_ret
  exact ⟨rfl, B⟩
/-- Of a stream, of a gram. -/
def kdB (b : Bool) : Int := if b then 1 else 2
def tB (b : Bool) : Int := if b then 4096 else 256
theorem tB_T (b : Bool) : tB b = 4096 ∨ tB b = 256 := by cases b <;> simp [tB]
theorem make_b (b : Bool) (r : Rg) (f : Fl) (s : Int) (hf : f.I) (hs : 0 ≤ s ∧ s < 64) (w : World) :
    Calls Try.prog 8 #[rgV r, .int .i64 (kdB b), flV f, .int .i64 s] w fun e' w' => e' = .returned (.int .i64 (cok (tB b) r.c (kdB b) f s (r.e % 4))) ∧ Below w.heap.size w w' := by
  cases b
  · exact cmake2 r f s hf hs w
  · exact cmake1 r f s hf hs w
theorem rmake_b (b : Bool) (r : Rg) (f : Fl) (s : Int) (hf : f.I) (hs : 0 ≤ s ∧ s < 64) (w : World) :
    Calls Try.prog 11 #[rgV r, .int .i64 (kdB b), flV f, .int .i64 s] w fun e' w' => e' = .returned (.int .i64 (cok (tB b) r.c (kdB b) f s (r.e % 4))) ∧ Below w.heap.size w w' := by
  cases b
  · exact rmake2 r f s hf hs w
  · exact rmake1 r f s hf hs w
theorem read_b (b : Bool) (r : Rg) (f : Fl) (c : Int) (hf : f.I) (hr : Ep r.e) (w : World) :
    Calls Try.prog 9 #[rgV r, .int .i64 (kdB b), flV f, .int .i64 c] w fun e' w' => e' = .returned (rdO (readC (tB b) r (kdB b) f c)) ∧ Below w.heap.size w w' := by
  cases b
  · exact read2 r f c hf hr w
  · exact read1 r f c hf hr w
theorem rread_b (b : Bool) (r : Rg) (f : Fl) (c : Int) (hf : f.I) (hr : Ep r.e) (w : World) :
    Calls Try.prog 10 #[rgV r, .int .i64 (kdB b), flV f, .int .i64 c] w fun e' w' => e' = .returned (rdO (readC (tB b) r (kdB b) f c)) ∧ Below w.heap.size w w' := by
  cases b
  · exact rread2 r f c hf hr w
  · exact rread1 r f c hf hr w
theorem flN_I (a b : Int) : (flN a b).I := by
  have h1 := wi_bd a 4294967296 (by omega)
  have h2 := wi_bd (a.tdiv 7) 65536 (by omega)
  have h3 := wi_bd b 4294967296 (by omega)
  have h4 := wi_bd (b.tdiv 7) 65536 (by omega)
  unfold Fl.I I64 flN
  simp only
  omega

end Go.Proofs.Ytfokkmemjkfifab
