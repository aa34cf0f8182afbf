/- package opts: all options, one behind the other. -/
import Derived.Test.YtdbfpoplhmonhaaOptOne
import Derived.ScopeJumps
import Derived.WalkMore
namespace Go.Proofs.Ytdbfpoplhmonhaa
set_option linter.unusedVariables false
set_option linter.unusedSimpArgs false
open Go.RowKit Go.ChangeShapes Go.WideShapes Go.ChangeAt

/-- A block's cells: they are there and may be written. -/
def Ce (w : World) (b : Nat) (l : List Value) : Prop := b < w.heap.size ∧ (∀ j v, l[j]? = some v → w.cell? ⟨b, j, none⟩ = some v) ∧ ∀ j, w.frozen? ⟨b, j, none⟩ = false
theorem Ce.below {w w' : World} {b : Nat} {l : List Value} (h : Ce w b l) (hb : Below w.heap.size w w') : Ce w' b l :=
  ⟨Nat.lt_of_lt_of_le h.1 hb.size, fun j v hj => (hb.cell (p := ⟨b, j, none⟩) h.1).trans (h.2.1 j v hj), fun j => (World.frozen?_of_block (a := ⟨b, j, none⟩) (hb.block b h.1)).trans (h.2.2 j)⟩
theorem Ce.alloc {w : World} {b : Nat} {l : List Value} (h : Ce w b l) (o : Obj) : Ce (w.alloc o) b l := h.below ((Below.refl _ _).alloc (Nat.le_refl _) o)
theorem Ce.made {w : World} {l : List Value} {T : TypeId} {g : Nat} (hg : w.heap.size = g) : Ce (w.alloc (.cells l.toArray T)) g l := by
  subst hg
  have h : (w.alloc (.cells l.toArray T)).heap[w.heap.size]? = some (.cells l.toArray T (0, 0)) := heap_alloc_new w _
  refine ⟨by simp, fun j v hj => ?_, fun j => frozen_of_row _ _ _ _ _ h⟩
  rw [cell_of_row _ w.heap.size j l.toArray T (0, 0) h]
  simpa using hj
theorem Ce.grown {w w' : World} {b : Nat} {l : List Value} {row : Option Nat} (h : Ce w b l) (hg : w.grownBy w' row) (hne : row ≠ some b) : Ce w' b l :=
  have hb := hg.block b h.1 (fun e => hne e.symm)
  ⟨Nat.lt_of_lt_of_le h.1 hg.size, fun j v hj => (World.cell?_of_block (a := ⟨b, j, none⟩) hb).trans (h.2.1 j v hj), fun j => (World.frozen?_of_block (a := ⟨b, j, none⟩) hb).trans (h.2.2 j)⟩

theorem wp_scope_lead {P : Program} {a : Act} {w : World} {Q : Exit → Act → World → Prop} {c X : Code} (l : Nat) (J : Act → World → Prop) (μ : Act → World → Nat) (hf : findLabel c l = some (Code.skip.seq X))
    (start : ∀ Q' : Exit → Act → World → Prop, (∀ a w, J a w → X.wp P Q' a w) → c.wp P Q' a w)
    (pass : ∀ a w, J a w → X.wp P (Exit.jump l (fun a' w' => J a' w' ∧ μ a' w' < μ a w) Q) a w) : (Code.scope c).wp P Q a w :=
  wp_scope_jumps l J μ hf (start _ (fun a w hJ => wp_mono (pass a w hJ) (by
    intro e a w h
    cases e with
    | goto l' => exact ⟨h.1, h.2.1⟩
    | _ => exact h))) (fun a w hJ => wp_seq (wp_skip (pass a w hJ)))

/-- A row of options of the call's own. -/
def OwO (E : TypeId) (w : World) (B : Nat) (v : Value) (l : List (Int × Int × Int)) : Prop := Ow w B E 3 v l.length (fun j => .int .i64 (lc l j))
theorem OwO.block_ne {E : TypeId} {w : World} {B : Nat} {v : Value} {l : List (Int × Int × Int)} (h : OwO E w B v l) {k : Nat} (hk : w.heap.size ≤ k) : v.ownBlock ≠ some k := by
  intro e
  have := (World.ownsRow.lt h k e).2
  omega
theorem OwO.block_ge {E : TypeId} {w : World} {B : Nat} {v : Value} {l : List (Int × Int × Int)} (h : OwO E w B v l) {k : Nat} (hk : k < B) : v.ownBlock ≠ some k := by
  intro e
  have := (World.ownsRow.lt h k e).1
  omega
theorem info_o (E : TypeId) (hE : E = 42 ∨ E = 57) : (Try.prog.info? E).map (fun i => (i.zero, i.size, i.bytes)) = some (some (.agg #[.int .i64 0, .int .i64 0, .int .i64 0]), 3, 24) := by
  rcases hE with rfl | rfl <;> kernel_rfl

section
variable {w : World} {ops : Array Oper} {rest : List Oper} {o : Oper} {a : Act} {Q : Exit → Act → World → Prop}
/-- append of an option onto a row of the call's own. -/
theorem wp_app_o (hgd : o.guard = none) (s x : Operand) (T E : TypeId) (ho : o.op = .call { callee := .builtin .append, args := #[s, x], argTypes := #[T, T] })
    (hT : Try.prog.underlying T = some (.slice E)) (hE : E = 42 ∨ E = 57)
    (base : Nat) (v : Value) (l : List (Int × Int × Int)) (m : Nat) (hm : m = l.length) (hs : a.eval s = v) (hown : OwO E w base v l)
    (g c : Nat) (p : Int × Int × Int) (hx : a.eval x = .slice (some ⟨g, 0, none⟩) 1 c) (hr : Ce w g [.int .i64 p.1, .int .i64 p.2.1, .int .i64 p.2.2]) (hsz : l.length ≤ 1000000) (hbase : base ≤ w.heap.size)
    (h : ∀ A' c' w', OwO E w' base (.slice A' (m + 1) c') (l ++ [p]) → Below base w w' → w.grownBy w' v.ownBlock → wpList Try.prog ops Q rest (a.put o.dst (.slice A' (m + 1) c')) w') : wpList Try.prog ops Q (o :: rest) a w := by
  subst hm
  obtain ⟨i0, hi, hz0, hz1, hz2⟩ := info_parts (info_o E hE)
  refine wp_app w hgd s x T ho base E i0 (.agg #[.int .i64 0, .int .i64 0, .int .i64 0]) 3 24 hT hi hz0 hz1 hz2 rfl (by decide) v l.length _ hs hown (some ⟨g, 0, none⟩) 1 c (fun j => .int .i64 (oc p j)) hx ?_ (fun _ _ => rfl) (by simp only [maxLen]; omega) (by omega) hbase ?_
  · refine Sl.mk hr.1 fun j hj => ?_
    rw [Nat.zero_add]
    rcases (by omega : j = 0 ∨ j = 1 ∨ j = 2) with rfl | rfl | rfl
    · exact hr.2.1 0 _ rfl
    · exact hr.2.1 1 _ rfl
    · exact hr.2.1 2 _ rfl
  · intro A' c' w' h1 h2 h3 h4 h5 h6
    have e : l.length + 1 = (l ++ [p]).length := by simp
    refine h A' c' w' ?_ h4 h5
    unfold OwO
    rw [← e]
    exact h1.as_ fun j hj => lc_snoc l p j (by simpa using hj)
end

/-- What a walk answers. -/
def wl (g : Nat → Int) (n : Nat) : List (Int × Int × Int) := (walk g n 0).getD []
def we (g : Nat → Int) (n : Nat) : Int := if (walk g n 0).isSome then 0 else 5
def Walked (E : TypeId) (g : Nat → Int) (n : Nat) (w : World) (e : Ending) (w' : World) : Prop :=
  ∃ (A' : Option Addr) (c' : Nat), e = .returned (.tuple #[.slice A' (wl g n).length c', .int .i64 (we g n)]) ∧ OwO E w' w.heap.size (.slice A' (wl g n).length c') (wl g n) ∧ Below w.heap.size w w'
theorem walked_none {E : TypeId} {g : Nat → Int} {n : Nat} {w w' : World} (h : walk g n 0 = none) (hb : Below w.heap.size w w') : Walked E g n w (.returned (.tuple #[.slice none 0 0, .int .i64 5])) w' := by
  refine ⟨none, 0, ?_, ?_, hb⟩
  · unfold wl we; rw [h]; rfl
  · have : wl g n = [] := by unfold wl; rw [h]; rfl
    rw [this]; exact Ow.none_
theorem walked_some {E : TypeId} {g : Nat → Int} {n : Nat} {w w' : World} {l : List (Int × Int × Int)} {A' : Option Addr} {c' m : Nat} (h : walk g n 0 = some l) (hm : m = l.length) (ho : OwO E w' w.heap.size (.slice A' m c') l) (hb : Below w.heap.size w w') :
    Walked E g n w (.returned (.tuple #[.slice A' m c', .int .i64 0])) w' := by
  subst hm
  have e : wl g n = l := by unfold wl; rw [h]; rfl
  refine ⟨A', c', ?_, ?_, hb⟩
  · rw [e]; unfold we; rw [h]; rfl
  · rw [e]; exact ho

def WalkAt (w : World) (A : Option Addr) (n c : Nat) (g : Nat → Int) (a' : Act) (w' : World) : Prop :=
  ∃ (p : Nat) (l : List (Int × Int × Int)) (L : Option Addr) (d m : Nat) (u6 u7 u8 u9 u10 u11 u12 u13 u14 u15 u16 u17 u18 u19 u20 u21 u22 u23 u24 u25 u26 u27 u28 u29 u30 u31 u32 : Value), m = l.length ∧ Sofar g n l p ∧ Below w.heap.size w w' ∧ OwO 42 w' w.heap.size (.slice L m d) l ∧
    a' = { tmps := #[.slice A n c, undef, .slice none 0 0, .int .i64 0, .slice L m d, .int .i64 (p : Int), u6, u7, u8, u9, u10, u11, u12, u13, u14, u15, u16, u17, u18, u19, u20, u21, u22, u23, u24, u25, u26, u27, u28, u29, u30, u31, u32], defers := [] }

set_option maxHeartbeats 1000000 in
theorem walk_any (A : Option Addr) (n c : Nat) (g : Nat → Int) (w : World) (h : By w A n g) (hg : IsB g) (hn : n ≤ 1000000) :
    Calls Try.prog 16 #[.slice A n c] w (Walked 42 g n w) := by
  go_enter Try.func16, Try.ntmps16
  go_wp2
  refine wp_scope_lead 0 (WalkAt w A n c g) (fun a' _ => n - (intOf (a'.tmps.getD 5 undef)).toNat) rfl ?_ ?_
  · intro Q' hQ
    have HQ := hid hQ
    clear hQ
    go_wp2
    go_step3
    simp only [Exit.then]
    refine (by assumption : ∀ a w, _ → _) _ _ ?_
    exact HQ.out _ _ ⟨0, [], none, 0, 0, undef, undef, undef, undef, undef, undef, undef, undef, undef, undef, undef, undef, undef, undef, undef, undef, undef, undef, undef, undef, undef, undef, undef, undef, undef, undef, undef, rfl, sofar0 g n, Below.refl _ _, Ow.none_, rfl⟩
  · rintro a' w1 ⟨p, l, L, d, m, u6, u7, u8, u9, u10, u11, u12, u13, u14, u15, u16, u17, u18, u19, u20, u21, u22, u23, u24, u25, u26, u27, u28, u29, u30, u31, u32, hm, hs, hb, ho, rfl⟩
    have hs' := hs
    obtain ⟨_, hlp, hpn⟩ := hs'
    rw [← hm] at hlp
    have HM := hid hm
    clear hm
    have HS := hid hs
    clear hs
    have HB := hid hb
    have HO := hid ho
    have h1 := h.below hb (Nat.le_refl _)
    have H1 := hid h1
    clear h h1 ho hb
    by_cases hlt : p < n
    · have t0 : ((p : Int) == n) = false := by simp; omega
      have HC := one_any c p H1.out hg hlt (by omega)
      cases hon : oneO g n p with
      | none =>
        have hbad := hid (sofar_bad HS.out hlt hon)
        rw [hon] at HC
        simp only [Option.getD_none, Option.isSome_none, oV] at HC
        replace HC := hid HC
        clear hon hg
        go_wp2_with fail
        refine HC.out.mono ?_
        rintro e w2 ⟨rfl, hb2⟩
        have HB2 := hid (HB.out.trans (hb2.mono HB.out.size))
        clear hb2
        go_wp2
        simp only [Exit.jump]
        go_ret2
        refine walked_none hbad.out (HB2.out.alloc HB2.out.size _)
      | some o =>
        obtain ⟨ok, oa, ol⟩ := o
        have hon' := one_is hon hlt
        simp only at hon'
        obtain ⟨rfl, rfl, o1, o2, o3, o4⟩ := hon'
        rw [hon] at HC
        simp only [Option.getD_some, Option.isSome_some, oV] at HC
        replace HC := hid HC
        have hlast := hid (fun hk => sofar_last HS.out hlt hon hk)
        have hmore := hid (fun hk => sofar_more HS.out hlt hon hk)
        clear hon HS
        simp only at hlast hmore
        go_wp2_with fail
        refine HC.out.mono ?_
        rintro e w2 ⟨rfl, hb2⟩
        have HB2 := hid (HB.out.trans (hb2.mono HB.out.size))
        have HO2 := hid (Ow.keep HO.out hb2 (Nat.le_refl _))
        clear hb2 HB HO HC
        have C := (Ce.made (w := w2) (l := [.int .i64 (g p), .int .i64 (p : Int), .int .i64 ol]) (T := 42) (g := w2.heap.size) rfl).alloc (.cells #[.int .i64 (g p), .int .i64 (p : Int), .int .i64 ol] 42)
        have HB3 := hid ((HB2.out.alloc HB2.out.size (.cells #[.int .i64 (g p), .int .i64 (p : Int), .int .i64 ol] 42)).alloc (by simp; have := HB2.out.size; omega) (.cells #[.int .i64 (g p), .int .i64 (p : Int), .int .i64 ol] 42))
        have hne := OwO.block_ne HO2.out (Nat.le_refl w2.heap.size)
        have hz := HB2.out.size
        have hne' := hid hne
        clear hne
        have hC := hid C
        clear C
        have e3 : (p : Int) + ol = ((p + ol.toNat : Nat) : Int) := by omega
        have E3 := hid e3
        clear e3
        by_cases hk : g p = 0
        · have hL := hid (hlast.out (by omega))
          have t1 : (g p != 0) = false := by simp [hk]
          clear hlast hmore hk
          go_wp2_with (at_builtin; refine wp_app_o rfl (.tmp 21) (.tmp 23) 28 42 rfl Try.underlying28 (.inl rfl) w.heap.size _ l m HM.out rfl (Ow.alloc (Ow.alloc HO2.out _) _) (w2.heap.size + 1) 1 (g p, (p : Int), ol) rfl (Ce.made (w := w2.alloc (.cells #[.int .i64 (g p), .int .i64 (p : Int), .int .i64 ol] 42)) (l := [.int .i64 (g p), .int .i64 (p : Int), .int .i64 ol]) (by simp)) (by have := HM.out; omega) (by simp; omega) ?_; intro A' c' w3 hown hbel hgr; have HB4 := hid (HB3.out.trans hbel); have C3 := hC.out.grown hgr hne'.out; have c0 := C3.2.1 0 _ rfl; have c1 := C3.2.1 1 _ rfl; have c2 := C3.2.1 2 _ rfl; have HO4 := hid hown; clear C3 hC hgr hne' hown hbel HB3 HO2 HB2 H1)
          simp only [Exit.jump]
          go_ret2
          exact walked_some hL.out (by rw [HM.out]; simp) HO4.out HB4.out
        · have hL := hid (hmore.out (by omega))
          have t1 : (g p != 0) = true := by simp [hk]
          clear hlast hmore hk
          go_wp2_with (at_builtin; refine wp_app_o rfl (.tmp 21) (.tmp 23) 28 42 rfl Try.underlying28 (.inl rfl) w.heap.size _ l m HM.out rfl (Ow.alloc (Ow.alloc HO2.out _) _) (w2.heap.size + 1) 1 (g p, (p : Int), ol) rfl (Ce.made (w := w2.alloc (.cells #[.int .i64 (g p), .int .i64 (p : Int), .int .i64 ol] 42)) (l := [.int .i64 (g p), .int .i64 (p : Int), .int .i64 ol]) (by simp)) (by have := HM.out; omega) (by simp; omega) ?_; intro A' c' w3 hown hbel hgr; have HB4 := hid (HB3.out.trans hbel); have C3 := hC.out.grown hgr hne'.out; have c0 := C3.2.1 0 _ rfl; have c1 := C3.2.1 1 _ rfl; have c2 := C3.2.1 2 _ rfl; have HO4 := hid hown; clear C3 hC hgr hne' hown hbel HB3 HO2 HB2 H1)
          go_step3
          rw [E3.out]
          refine ⟨rfl, ⟨p + ol.toNat, l ++ [(g p, (p : Int), ol)], A', c', m + 1, _, _, _, _, _, _, _, _, _, _, _, _, _, _, _, _, _, _, _, _, _, _, _, _, _, _, _, (by rw [HM.out]; simp), hL.out, HB4.out, HO4.out, rfl⟩, ?_⟩
          simp [intOf]
          omega
    · have e1 : p = n := by omega
      have hend := hid (sofar_end HS.out (show n ≤ p by omega))
      have t0 : ((p : Int) == n) = true := by simp; omega
      go_wp2
      simp only [Exit.jump]
      go_ret2
      exact walked_some hend.out HM.out HO.out HB.out
end Go.Proofs.Ytdbfpoplhmonhaa
