/- What is wished: added. -/
import Derived.Test.YtljgcffpijjliaaDoorOrdFind
import Derived.Test.YtljgcffpijjliaaDoorPolSh
import Derived.Test.YtljgcffpijjliaaDoorPolHeld
import Derived.BigQuiet
import Derived.Deep.RegionHeld3
import Derived.Deep.Cut
namespace Go.Proofs.YtljgcffpijjliaaDoor
set_option linter.unusedVariables false
set_option linter.unusedSimpArgs false
open Go.RowKit Go.ChangeShapes Go.WideShapes Go.ChangeAt

theorem find_min {f : Nat → Bool} {k : Nat} (h : (List.range 64).find? f = some k) : k < 64 ∧ f k = true ∧ ∀ j, j < k → f j = false := by
  have h1 : f k = true := List.find?_some h
  have h2 : k < 64 := by have := List.mem_of_find?_eq_some h; simpa using this
  refine ⟨h2, h1, fun j hj => ?_⟩
  cases hf : f j
  · rfl
  · exfalso
    have key : ∀ n, n ≤ 64 → ∀ m, (∀ i, i < m → f i = false) → f m = true → m < 64 → (List.range 64).find? f = some m := fun n _ m h3 h4 h5 => find_yes m h5 h3 h4
    obtain ⟨m, hm1, hm2, hm3⟩ : ∃ m, m ≤ j ∧ f m = true ∧ ∀ i, i < m → f i = false := by
      induction j using Nat.strongRecOn with
      | ind j ih =>
        by_cases hx : ∃ i, i < j ∧ f i = true
        · obtain ⟨i, hi, hfi⟩ := hx
          obtain ⟨m, q1, q2, q3⟩ := ih i hi (by omega) hfi
          exact ⟨m, by omega, q2, q3⟩
        · exact ⟨j, Nat.le_refl _, hf, fun i hi => by cases h8 : f i; rfl; exact absurd ⟨i, hi, h8⟩ hx⟩
    have h6 := key 64 (Nat.le_refl _) m hm3 hm2 (by omega)
    rw [h] at h6
    injection h6 with h6
    omega
theorem free_some {p : Pl} {k : Nat} (h : freeO p = some k) : k < 64 ∧ ((p.s k).st == 0) = true ∧ ∀ j, j < k → ((p.s j).st == 0) = false := find_min h
theorem free_none {p : Pl} (h : freeO p = none) (j : Nat) (hj : j < 64) : ((p.s j).st == 0) = false := by
  unfold freeO at h
  rw [List.find?_eq_none] at h
  have := h j (by simpa using hj)
  simpa [frS] using this
/-- What a call tells: a row of entries of its own. -/
def Lst (w : World) (l : List En) (no : Int) (e : Ending) (w' : World) : Prop := ∃ (A : Option Addr) (c : Nat), e = .returned (.tuple #[.slice A l.length c, .int .i64 no]) ∧ OwE w' w.heap.size (.slice A l.length c) l.length (gl l) ∧ Below w.heap.size w w'
def Ls1 (w : World) (l : List En) (e : Ending) (w' : World) : Prop := ∃ (A : Option Addr) (c : Nat), e = .returned (.slice A l.length c) ∧ OwE w' w.heap.size (.slice A l.length c) l.length (gl l) ∧ Below w.heap.size w w'
theorem flat_len : ∀ l : List En, (l.flatMap enL).length = l.length * 7
  | [] => rfl
  | e :: l => by rw [List.flatMap_cons, List.length_append, flat_len l, List.length_cons]; simp [enL]; omega
theorem owe_lit {w : World} (l : List En) {cs : Array Value} {n : Nat} (hcs : cs = (l.flatMap enL).toArray) (hn : n = l.length) {g B : Nat} (hg : w.heap.size = g) (hB : B ≤ g) (hm : l.length ≤ 1000) :
    OwE (w.alloc (.cells cs 56)) B (.slice (some ⟨g, 0, none⟩) n n) n (gl l) := by
  subst hcs; subst hn; subst hg
  have := World.ownsRow_lit (size := 7) (e := 56) (base := B) w (l.flatMap enL).toArray l.length hB (by simp only [maxLen]; omega) (by rw [List.size_toArray, flat_len])
  unfold OwE Ow
  rw [show (List.range (l.length * 7)).map (fun j => enc (gl l (j / 7)) (j % 7)) = l.flatMap enL from by
    apply List.ext_getElem?
    intro i
    by_cases h : i < l.length * 7
    · rw [flat_at l i h]; simp [h]
    · rw [List.getElem?_eq_none (by simp; omega), List.getElem?_eq_none (by rw [flat_len]; omega)]]
  exact this
theorem OwE.base {w : World} {B B' m : Nat} {v : Value} {g : Nat → En} (h : OwE w B v m g) (hB : B' ≤ B) : OwE w B' v m g := by
  unfold OwE Ow World.ownsRow at h ⊢
  refine ⟨h.1, ?_⟩
  rcases h.2 with h | ⟨gg, c, cs, h1, h2, h3⟩
  · exact .inl h
  · exact .inr ⟨gg, c, cs, h1, Nat.le_trans hB h2, h3⟩
theorem Ls1.nil {w w' : World} (h : Below w.heap.size w w') : Ls1 w [] (.returned (.slice none 0 0)) w' := ⟨none, 0, rfl, OwE.nil, h⟩
theorem Lst.nil {w w' : World} {no : Int} (h : Below w.heap.size w w') : Lst w [] no (.returned (.tuple #[.slice none 0 0, .int .i64 no])) w' := ⟨none, 0, rfl, OwE.nil, h⟩
theorem Ls1.lit {w w' : World} (l : List En) {cs : Array Value} {n : Nat} (hcs : cs = (l.flatMap enL).toArray) (hn : n = l.length) (hm : l.length ≤ 1000) {g : Nat} (hg : w'.heap.size = g) (h : Below w.heap.size w w') :
    Ls1 w l (.returned (.slice (some ⟨g, 0, none⟩) n n)) (w'.alloc (.cells cs 56)) := by
  subst hn; subst hg
  exact ⟨_, _, rfl, owe_lit l hcs rfl rfl h.size hm, h.alloc h.size _⟩
theorem Lst.lit {w w' : World} (l : List En) {no : Int} {cs : Array Value} {n : Nat} (hcs : cs = (l.flatMap enL).toArray) (hn : n = l.length) (hm : l.length ≤ 1000) {g : Nat} (hg : w'.heap.size = g) (h : Below w.heap.size w w') :
    Lst w l no (.returned (.tuple #[.slice (some ⟨g, 0, none⟩) n n, .int .i64 no])) (w'.alloc (.cells cs 56)) := by
  subst hn; subst hg
  exact ⟨_, _, rfl, owe_lit l hcs rfl rfl h.size hm, h.alloc h.size _⟩
theorem bt {w a b : World} {P : Nat} (hk : w.heap.size = P) (h : Below P w a) (hb : Below a.heap.size a b) : Below P w b := h.trans (hb.mono (by have := h.size; omega))
theorem ba {w a : World} {P : Nat} (hk : w.heap.size = P) (h : Below P w a) (o : Obj) : Below P w (a.alloc o) := h.alloc (by have := h.size; omega) o
attribute [local irreducible] PA
set_option maxRecDepth 100000 in
set_option maxHeartbeats 4000000 in
theorem add_any (p : Pl) (a q m : Int) (w : World) : Calls Tryd.prog 17 #[plV p, .int .i64 a, .int .i64 q, .int .i64 m] w (Lst w (addR p a q m).1 (addR p a q m).2) := by
  have CK0 := fun w => check_any (adE a q m) w
  have TK := hid (fun w => istaken_any p a q w)
  have LF := hid (fun w => least_any p w)
  unfold plV at TK LF ⊢
  rcases ad_chk a q m with hc | hc
  · have CK := hid (fun w => re_i64 (CK0 w) hc)
    clear CK0
    unfold enV adE at CK
    simp only at CK
    cases hh : heldB p a q
    · replace TK := hid (fun w => re_bool (TK.out w) hh)
      cases hf : freeO p
      · have HR : addR p a q m = ([], 9) := by unfold addR; rw [if_neg (by rw [hc]; decide), hh, hf]; rfl
        rw [HR]
        rw [hf] at LF
        unfold fdV at LF
        replace LF := hid LF
        clear HR hc hh hf
        go_enter Tryd.func17, Tryd.ntmps17
        go_upto_region 1 with (fail)
        have P1 := hid (PoolAt.made (w := w) (p := p) (T := 33) rfl)
        have B1 := hid ((Below.refl w.heap.size w).alloc (Nat.le_refl _) (.cells (PA p) 33))
        generalize w.alloc (.cells (PA p) 33) = w1 at *
        generalize hK : w.heap.size = P at *
        have HK := hid hK
        clear hK
        have C2 := hid (Ce.made (w := w1) (l := enL (adE a q m)) (T := 56) (g := w1.heap.size) rfl)
        unfold adE enL zKy at C2
        simp only [List.toArray] at C2
        have P2 := hid (P1.out.alloc (.cells #[.int .i64 1, .int .i64 0, .int .i64 a, .int .i64 q, .int .i64 m, .int .u64 0, .int .u64 0] 56))
        have B2 := hid (ba HK.out B1.out (.cells #[.int .i64 1, .int .i64 0, .int .i64 a, .int .i64 q, .int .i64 m, .int .u64 0, .int .u64 0] 56))
        have HPE := hid (show P ≤ w1.heap.size from by have := B1.out.size; rw [HK.out] at this; exact this)
        clear P1 B1
        go_upto_region 2 with (fail)
        generalize w1.alloc (.cells #[.int .i64 1, .int .i64 0, .int .i64 a, .int .i64 q, .int .i64 m, .int .u64 0, .int .u64 0] 56) = w2 at *
        generalize w1.heap.size = E at *
        have e0 := C2.out.2.1 0 _ rfl
        have e1 := C2.out.2.1 1 _ rfl
        have e2 := C2.out.2.1 2 _ rfl
        have e3 := C2.out.2.1 3 _ rfl
        have e4 := C2.out.2.1 4 _ rfl
        have e5 := C2.out.2.1 5 _ rfl
        have e6 := C2.out.2.1 6 _ rfl
        have ef := C2.out.2.2
        go_wp2_with fail
        clear e0 e1 e2 e3 e4 e5 e6 ef
        refine (CK.out _).mono ?_
        rintro x w3 ⟨rfl, hb⟩
        have P3 := hid (P2.out.below hb)
        have C3 := hid (C2.out.below hb)
        have B3 := hid (bt HK.out B2.out hb)
        clear hb P2 B2 C2
        go_upto_region 5 with (fail)
        have LP := P3.out.loadA
        go_wp2_with ((with_reducible refine wl_id ?_); refine wl_load rfl rfl rfl LP ?_)
        clear LP
        refine (TK.out _).mono ?_
        rintro x w4 ⟨rfl, hb⟩
        have P4 := hid (P3.out.below hb)
        have C4 := hid (C3.out.below hb)
        have B4 := hid (bt HK.out B3.out hb)
        clear hb P3 B3 C3
        go_upto_region 7 with (fail)
        have LP := P4.out.loadA
        go_wp2_with ((with_reducible refine wl_id ?_); refine wl_load rfl rfl rfl LP ?_)
        clear LP
        refine (LF.out _).mono ?_
        rintro x w5 ⟨rfl, hb⟩
        have P5 := hid (P4.out.below hb)
        have C5 := hid (C4.out.below hb)
        have B5 := hid (bt HK.out B4.out hb)
        clear hb P4 B4 C4
        go_wp2_with fail
        go_ret2
        exact Lst.nil (by rw [HK.out]; exact B5.out)
      · rename_i k
        have HR : addR p a q m = ([⟨1, (k : Int), a, q, m, zKy⟩, ⟨2, (k : Int), 0, 0, 0, zKy⟩], 0) := by unfold addR; rw [if_neg (by rw [hc]; decide), hh, hf]; rfl
        rw [HR]
        rw [hf] at LF
        unfold fdV at LF
        replace LF := hid LF
        clear HR hc hh hf
        go_enter Tryd.func17, Tryd.ntmps17
        go_upto_region 1 with (fail)
        have P1 := hid (PoolAt.made (w := w) (p := p) (T := 33) rfl)
        have B1 := hid ((Below.refl w.heap.size w).alloc (Nat.le_refl _) (.cells (PA p) 33))
        generalize w.alloc (.cells (PA p) 33) = w1 at *
        generalize hK : w.heap.size = P at *
        have HK := hid hK
        clear hK
        have C2 := hid (Ce.made (w := w1) (l := enL (adE a q m)) (T := 56) (g := w1.heap.size) rfl)
        unfold adE enL zKy at C2
        simp only [List.toArray] at C2
        have P2 := hid (P1.out.alloc (.cells #[.int .i64 1, .int .i64 0, .int .i64 a, .int .i64 q, .int .i64 m, .int .u64 0, .int .u64 0] 56))
        have B2 := hid (ba HK.out B1.out (.cells #[.int .i64 1, .int .i64 0, .int .i64 a, .int .i64 q, .int .i64 m, .int .u64 0, .int .u64 0] 56))
        have HPE := hid (show P ≤ w1.heap.size from by have := B1.out.size; rw [HK.out] at this; exact this)
        clear P1 B1
        go_upto_region 2 with (fail)
        generalize w1.alloc (.cells #[.int .i64 1, .int .i64 0, .int .i64 a, .int .i64 q, .int .i64 m, .int .u64 0, .int .u64 0] 56) = w2 at *
        generalize w1.heap.size = E at *
        have e0 := C2.out.2.1 0 _ rfl
        have e1 := C2.out.2.1 1 _ rfl
        have e2 := C2.out.2.1 2 _ rfl
        have e3 := C2.out.2.1 3 _ rfl
        have e4 := C2.out.2.1 4 _ rfl
        have e5 := C2.out.2.1 5 _ rfl
        have e6 := C2.out.2.1 6 _ rfl
        have ef := C2.out.2.2
        go_wp2_with fail
        clear e0 e1 e2 e3 e4 e5 e6 ef
        refine (CK.out _).mono ?_
        rintro x w3 ⟨rfl, hb⟩
        have P3 := hid (P2.out.below hb)
        have C3 := hid (C2.out.below hb)
        have B3 := hid (bt HK.out B2.out hb)
        clear hb P2 B2 C2
        go_upto_region 5 with (fail)
        have LP := P3.out.loadA
        go_wp2_with ((with_reducible refine wl_id ?_); refine wl_load rfl rfl rfl LP ?_)
        clear LP
        refine (TK.out _).mono ?_
        rintro x w4 ⟨rfl, hb⟩
        have P4 := hid (P3.out.below hb)
        have C4 := hid (C3.out.below hb)
        have B4 := hid (bt HK.out B3.out hb)
        clear hb P3 B3 C3
        go_upto_region 7 with (fail)
        have LP := P4.out.loadA
        go_wp2_with ((with_reducible refine wl_id ?_); refine wl_load rfl rfl rfl LP ?_)
        clear LP
        refine (LF.out _).mono ?_
        rintro x w5 ⟨rfl, hb⟩
        have P5 := hid (P4.out.below hb)
        have C5 := hid (C4.out.below hb)
        have B5 := hid (bt HK.out B4.out hb)
        clear hb P4 B4 C4
        have e0 := C5.out.2.1 0 _ rfl
        have e1 := C5.out.2.1 1 _ rfl
        have e2 := C5.out.2.1 2 _ rfl
        have e3 := C5.out.2.1 3 _ rfl
        have e4 := C5.out.2.1 4 _ rfl
        have e5 := C5.out.2.1 5 _ rfl
        have e6 := C5.out.2.1 6 _ rfl
        have ef := C5.out.2.2
        go_upto_region 11 with (fail)
        clear e0 e1 e2 e3 e4 e5 e6 ef
        have C6 := hid (C5.out.set 1 (.int .i64 (k : Int)) (by simp))
        simp only [List.set_cons_succ, List.set_cons_zero] at C6
        have B6 := hid (B5.out.setCell (p := ⟨E, 1, none⟩) HPE.out (.int .i64 (k : Int)))
        generalize w5.setCell ⟨E, 1, none⟩ (.int .i64 (k : Int)) = w6 at *
        have e0 := C6.out.2.1 0 _ rfl
        have e1 := C6.out.2.1 1 _ rfl
        have e2 := C6.out.2.1 2 _ rfl
        have e3 := C6.out.2.1 3 _ rfl
        have e4 := C6.out.2.1 4 _ rfl
        have e5 := C6.out.2.1 5 _ rfl
        have e6 := C6.out.2.1 6 _ rfl
        have ef := C6.out.2.2
        go_wp2_with fail
        clear e0 e1 e2 e3 e4 e5 e6 ef
        go_ret2
        exact Lst.lit [⟨1, (k : Int), a, q, m, zKy⟩, ⟨2, (k : Int), 0, 0, 0, zKy⟩] rfl rfl (by simp) rfl (by rw [HK.out]; exact B6.out)
    · replace TK := hid (fun w => re_bool (TK.out w) hh)
      have HR : addR p a q m = ([], 12) := by unfold addR; rw [if_neg (by rw [hc]; decide), hh]; rfl
      rw [HR]
      clear HR hc hh
      go_enter Tryd.func17, Tryd.ntmps17
      go_upto_region 1 with (fail)
      have P1 := hid (PoolAt.made (w := w) (p := p) (T := 33) rfl)
      have B1 := hid ((Below.refl w.heap.size w).alloc (Nat.le_refl _) (.cells (PA p) 33))
      generalize w.alloc (.cells (PA p) 33) = w1 at *
      generalize hK : w.heap.size = P at *
      have HK := hid hK
      clear hK
      have C2 := hid (Ce.made (w := w1) (l := enL (adE a q m)) (T := 56) (g := w1.heap.size) rfl)
      unfold adE enL zKy at C2
      simp only [List.toArray] at C2
      have P2 := hid (P1.out.alloc (.cells #[.int .i64 1, .int .i64 0, .int .i64 a, .int .i64 q, .int .i64 m, .int .u64 0, .int .u64 0] 56))
      have B2 := hid (ba HK.out B1.out (.cells #[.int .i64 1, .int .i64 0, .int .i64 a, .int .i64 q, .int .i64 m, .int .u64 0, .int .u64 0] 56))
      have HPE := hid (show P ≤ w1.heap.size from by have := B1.out.size; rw [HK.out] at this; exact this)
      clear P1 B1
      go_upto_region 2 with (fail)
      generalize w1.alloc (.cells #[.int .i64 1, .int .i64 0, .int .i64 a, .int .i64 q, .int .i64 m, .int .u64 0, .int .u64 0] 56) = w2 at *
      generalize w1.heap.size = E at *
      have e0 := C2.out.2.1 0 _ rfl
      have e1 := C2.out.2.1 1 _ rfl
      have e2 := C2.out.2.1 2 _ rfl
      have e3 := C2.out.2.1 3 _ rfl
      have e4 := C2.out.2.1 4 _ rfl
      have e5 := C2.out.2.1 5 _ rfl
      have e6 := C2.out.2.1 6 _ rfl
      have ef := C2.out.2.2
      go_wp2_with fail
      clear e0 e1 e2 e3 e4 e5 e6 ef
      refine (CK.out _).mono ?_
      rintro x w3 ⟨rfl, hb⟩
      have P3 := hid (P2.out.below hb)
      have C3 := hid (C2.out.below hb)
      have B3 := hid (bt HK.out B2.out hb)
      clear hb P2 B2 C2
      go_upto_region 5 with (fail)
      have LP := P3.out.loadA
      go_wp2_with ((with_reducible refine wl_id ?_); refine wl_load rfl rfl rfl LP ?_)
      clear LP
      refine (TK.out _).mono ?_
      rintro x w4 ⟨rfl, hb⟩
      have P4 := hid (P3.out.below hb)
      have C4 := hid (C3.out.below hb)
      have B4 := hid (bt HK.out B3.out hb)
      clear hb P3 B3 C3
      go_wp2_with fail
      go_ret2
      exact Lst.nil (by rw [HK.out]; exact B4.out)
  · have CK := hid (fun w => re_i64 (CK0 w) hc)
    clear CK0
    unfold enV adE at CK
    simp only at CK
    have HR : addR p a q m = ([], 14) := by unfold addR; rw [if_pos (by rw [hc]; decide)]
    rw [HR]
    clear HR hc
    go_enter Tryd.func17, Tryd.ntmps17
    go_upto_region 1 with (fail)
    have P1 := hid (PoolAt.made (w := w) (p := p) (T := 33) rfl)
    have B1 := hid ((Below.refl w.heap.size w).alloc (Nat.le_refl _) (.cells (PA p) 33))
    generalize w.alloc (.cells (PA p) 33) = w1 at *
    generalize hK : w.heap.size = P at *
    have HK := hid hK
    clear hK
    have C2 := hid (Ce.made (w := w1) (l := enL (adE a q m)) (T := 56) (g := w1.heap.size) rfl)
    unfold adE enL zKy at C2
    simp only [List.toArray] at C2
    have P2 := hid (P1.out.alloc (.cells #[.int .i64 1, .int .i64 0, .int .i64 a, .int .i64 q, .int .i64 m, .int .u64 0, .int .u64 0] 56))
    have B2 := hid (ba HK.out B1.out (.cells #[.int .i64 1, .int .i64 0, .int .i64 a, .int .i64 q, .int .i64 m, .int .u64 0, .int .u64 0] 56))
    have HPE := hid (show P ≤ w1.heap.size from by have := B1.out.size; rw [HK.out] at this; exact this)
    clear P1 B1
    go_upto_region 2 with (fail)
    generalize w1.alloc (.cells #[.int .i64 1, .int .i64 0, .int .i64 a, .int .i64 q, .int .i64 m, .int .u64 0, .int .u64 0] 56) = w2 at *
    generalize w1.heap.size = E at *
    have e0 := C2.out.2.1 0 _ rfl
    have e1 := C2.out.2.1 1 _ rfl
    have e2 := C2.out.2.1 2 _ rfl
    have e3 := C2.out.2.1 3 _ rfl
    have e4 := C2.out.2.1 4 _ rfl
    have e5 := C2.out.2.1 5 _ rfl
    have e6 := C2.out.2.1 6 _ rfl
    have ef := C2.out.2.2
    go_wp2_with fail
    clear e0 e1 e2 e3 e4 e5 e6 ef
    refine (CK.out _).mono ?_
    rintro x w3 ⟨rfl, hb⟩
    have P3 := hid (P2.out.below hb)
    have C3 := hid (C2.out.below hb)
    have B3 := hid (bt HK.out B2.out hb)
    clear hb P2 B2 C2
    go_wp2_with fail
    go_ret2
    exact Lst.nil (by rw [HK.out]; exact B3.out)
end Go.Proofs.YtljgcffpijjliaaDoor
