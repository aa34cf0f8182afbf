/- roundhouselaw4.OptsKnown answers true for all numbers; no condition. -/
import Derived.Test.YtdbfpoplhmonhaaOptTile
import Derived.Deep.RegionWith
import Derived.Deep.Cut
import Derived.BigQuiet
namespace Go.Proofs.Ytdbfpoplhmonhaa.optsKnown
set_option linter.unusedVariables false
set_option linter.unusedSimpArgs false
open Go.RowKit Go.ChangeShapes Go.WideShapes Go.ChangeAt

theorem at_calls {P : Program} {F : FuncId} {args : Array Value} {W : World} {post : Ending → World → Prop} (Q : World → Prop) (hQ : Q W) (h : ∀ w, Q w → Calls P F args w post) : Calls P F args W post := h W hQ
def allocs : World → List (List Value × TypeId) → World
  | w, [] => w
  | w, o :: l => allocs (w.alloc (.cells o.1.toArray o.2)) l
theorem allocs_below : ∀ (l : List (List Value × TypeId)) (w : World) (B : Nat), B ≤ w.heap.size → Below B w (allocs w l)
  | [], w, B, _ => Below.refl _ _
  | o :: l, w, B, h => ((Below.refl B w).alloc h _).trans (allocs_below l _ B (by simp; omega))
theorem allocs_ce : ∀ (l : List (List Value × TypeId)) (w : World) (i : Nat) (o : List Value × TypeId), l[i]? = some o → Ce (allocs w l) (w.heap.size + i) o.1
  | [], w, i, o, h => by simp at h
  | x :: l, w, 0, o, h => by
    simp at h
    subst h
    exact (Ce.made (w := w) (l := x.1) (T := x.2) (g := w.heap.size) rfl).below (allocs_below l _ _ (Nat.le_refl _))
  | x :: l, w, i + 1, o, h => by
    have := allocs_ce l (w.alloc (.cells x.1.toArray x.2)) i o (by simpa using h)
    rw [show w.heap.size + (i + 1) = (w.alloc (.cells x.1.toArray x.2)).heap.size + i from by simp; omega]
    exact this
theorem Ce.by_ {w : World} {b : Nat} (l : List Int) (h : Ce w b (l.map (Value.int .u8))) : By w (some ⟨b, 0, none⟩) l.length (fun j => l.getD j 0) := by
  refine Sl.mk h.1 fun j hj => ?_
  rw [Nat.zero_add]
  exact h.2.1 j _ (by simp [List.getD, hj])
def lb : List (List Int) := [[], [0], [1, 1, 1], [0, 1, 1], [2], [2, 0], [2, 1], [2, 2], [2, 3], [2, 3, 9], [1, 0, 255], [8, 10, 0, 0, 0, 1, 0, 0, 0], [8, 10, 0, 0, 0, 1, 0, 0, 0, 2], [8, 4, 1, 1, 8, 10, 0, 0, 0, 1, 0, 0, 0, 2], [255, 2, 0]]
def nn : List Int := [0, 1, 3, 1, -1, -1, -1, 1, -1, 1, 2, -1, 1, 2, 2]
def iss : List Bool := [false, false, false, false, false, false, false, false, false, false, false, false, true, true, false]
def rowB (r : Nat) : List Int := lb.getD r []
def gB (r j : Nat) : Int := (rowB r).getD j 0
def sB (s r : Nat) : Value := .slice (some ⟨s + r, 0, none⟩) (rowB r).length (rowB r).length
def LL (s : Nat) : List (List Value × TypeId) := lb.map (fun b => (b.map (Value.int .u8), 5)) ++ [((List.range 15).map (sB s), 23), (nn.map (Value.int .i64), 3), (iss.map Value.bool, 4)]
theorem tabs : ∀ r, r < 15 → (∀ x ∈ rowB r, 0 ≤ x ∧ x ≤ 255) ∧ (rowB r).length ≤ 14 ∧ (0 ≤ nn.getD r 0 → we (gB r) (rowB r).length = 0 ∧ ((wl (gB r) (rowB r).length).length : Int) = nn.getD r 0) ∧ (nn.getD r 0 < 0 → we (gB r) (rowB r).length = 5 ∧ (wl (gB r) (rowB r).length).length = 0) ∧ (stamp (gB r) (rowB r).length).2.2.2 = iss.getD r false := by decide +kernel
/-- What lies in memory behind the rows. -/
def Laid (s : Nat) (w0 w : World) : Prop := Below s w0 w ∧ ∀ (i : Nat) (o : List Value × TypeId), (LL s)[i]? = some o → Ce w (s + i) o.1

set_option maxRecDepth 100000 in
set_option maxHeartbeats 4000000 in
theorem walk (W : World) (a0 : Int) (r0 : -9223372036854775808 ≤ a0 ∧ a0 ≤ 9223372036854775807) :
    Calls Try.prog 7 #[.int .i64 a0] W fun e w' => e = .returned (.bool true) ∧ Below W.heap.size W w' := by
  have wb := wi_bd a0 15 (by omega)
  obtain ⟨r, hr⟩ := Int.eq_ofNat_of_zero_le wb.1
  have hr15 : r < 15 := by omega
  have WS := hid (fun w => re_i64 (within_any a0 15 w (by omega) (by omega)) hr)
  clear hr wb
  go_enter Try.func7, Try.ntmps7
  go_wp2_with fail
  refine (known_any _).mono ?_
  rintro e w ⟨rfl, hb1⟩
  have B := hid hb1
  clear hb1
  go_wp2_with fail
  refine at_calls (Laid w.heap.size w) ⟨allocs_below (LL w.heap.size) w w.heap.size (Nat.le_refl _), fun i o h => allocs_ce (LL w.heap.size) w i o h⟩ ?_
  rintro w1 ⟨hb, hC⟩
  have C15 : Ce w1 (w.heap.size + 1 + 1 + 1 + 1 + 1 + 1 + 1 + 1 + 1 + 1 + 1 + 1 + 1 + 1 + 1) ((List.range 15).map (sB w.heap.size)) := hC 15 _ rfl
  have C16 : Ce w1 (w.heap.size + 1 + 1 + 1 + 1 + 1 + 1 + 1 + 1 + 1 + 1 + 1 + 1 + 1 + 1 + 1 + 1) (nn.map (Value.int .i64)) := hC 16 _ rfl
  have C17 : Ce w1 (w.heap.size + 1 + 1 + 1 + 1 + 1 + 1 + 1 + 1 + 1 + 1 + 1 + 1 + 1 + 1 + 1 + 1 + 1) (iss.map Value.bool) := hC 17 _ rfl
  have hby : By w1 (some ⟨w.heap.size + r, 0, none⟩) (rowB r).length (gB r) := by
    refine Ce.by_ (rowB r) (hC r ((rowB r).map (Value.int .u8), 5) ?_)
    rcases (by omega : r = 0 ∨ r = 1 ∨ r = 2 ∨ r = 3 ∨ r = 4 ∨ r = 5 ∨ r = 6 ∨ r = 7 ∨ r = 8 ∨ r = 9 ∨ r = 10 ∨ r = 11 ∨ r = 12 ∨ r = 13 ∨ r = 14) with rfl | rfl | rfl | rfl | rfl | rfl | rfl | rfl | rfl | rfl | rfl | rfl | rfl | rfl | rfl <;> rfl
  have B1 := hid (B.out.trans (hb.mono B.out.size))
  clear hC hb
  generalize w.heap.size + 1 + 1 + 1 + 1 + 1 + 1 + 1 + 1 + 1 + 1 + 1 + 1 + 1 + 1 + 1 + 1 + 1 = R17 at *
  generalize w.heap.size + 1 + 1 + 1 + 1 + 1 + 1 + 1 + 1 + 1 + 1 + 1 + 1 + 1 + 1 + 1 + 1 = R16 at *
  generalize w.heap.size + 1 + 1 + 1 + 1 + 1 + 1 + 1 + 1 + 1 + 1 + 1 + 1 + 1 + 1 + 1 = R15 at *
  have c15 : w1.cell? ⟨R15, r, none⟩ = some (sB w.heap.size r) := C15.2.1 r _ (by simp [hr15])
  have c16 : w1.cell? ⟨R16, r, none⟩ = some (.int .i64 (nn.getD r 0)) := C16.2.1 r _ (by
    rcases (by omega : r = 0 ∨ r = 1 ∨ r = 2 ∨ r = 3 ∨ r = 4 ∨ r = 5 ∨ r = 6 ∨ r = 7 ∨ r = 8 ∨ r = 9 ∨ r = 10 ∨ r = 11 ∨ r = 12 ∨ r = 13 ∨ r = 14) with rfl | rfl | rfl | rfl | rfl | rfl | rfl | rfl | rfl | rfl | rfl | rfl | rfl | rfl | rfl <;> rfl)
  have c17 : w1.cell? ⟨R17, r, none⟩ = some (.bool (iss.getD r false)) := C17.2.1 r _ (by
    rcases (by omega : r = 0 ∨ r = 1 ∨ r = 2 ∨ r = 3 ∨ r = 4 ∨ r = 5 ∨ r = 6 ∨ r = 7 ∨ r = 8 ∨ r = 9 ∨ r = 10 ∨ r = 11 ∨ r = 12 ∨ r = 13 ∨ r = 14) with rfl | rfl | rfl | rfl | rfl | rfl | rfl | rfl | rfl | rfl | rfl | rfl | rfl | rfl | rfl <;> rfl)
  unfold sB at c15
  obtain ⟨t1, t2, t3, t4, t5⟩ := tabs r hr15
  have hgb : IsB (gB r) := lit_b (rowB r) t1
  have z15 := C15.1
  have z16 := C16.1
  have z17 := C17.1
  generalize gB r = g at *
  generalize (rowB r).length = n at *
  generalize nn.getD r 0 = y at *
  generalize iss.getD r false = u at *
  clear C15 C16 C17 t1
  generalize w.heap.size + r = Rr at *
  have Ql := walk_any (some ⟨Rr, 0, none⟩) n n g w1 hby hgb (by omega)
  unfold Walked at Ql
  obtain ⟨l, hl⟩ : ∃ x, x = wl g n := ⟨_, rfl⟩
  obtain ⟨er, her⟩ : ∃ x, x = we g n := ⟨_, rfl⟩
  obtain ⟨kl, hkl⟩ : ∃ k, k = l.length := ⟨_, rfl⟩
  have bl := wl_len g n
  rw [← hl] at Ql bl
  rw [← her] at Ql
  rw [← hkl] at Ql bl
  have Ll := hid hl
  have El := hid her
  have Kl := hid hkl
  have Ql' := hid Ql
  clear Ql hl her hkl
  have Qs := (fun w2 (h : By w2 (some ⟨Rr, 0, none⟩) n g) => stamp_any (some ⟨Rr, 0, none⟩) n n g w2 h hgb (by omega) (Nat.le_refl _))
  obtain ⟨⟨s1, s2, s3, s4⟩, hs⟩ : ∃ x, x = stamp g n := ⟨_, rfl⟩
  rw [← hs] at Qs
  unfold StV at Qs
  simp only at Qs
  have Es := hid hs
  have Qs' := hid Qs
  clear Qs hs
  rw [← Ll.out, ← El.out] at t3 t4
  rw [← Kl.out] at t3 t4
  rw [← Es.out] at t5
  simp only at t5
  have T3 := hid t3
  have T4 := hid t4
  have T5 := hid t5
  have HY := hid hby
  clear t3 t4 t5 hby hgb
  have i0 : (0 : Int) ≤ r := by omega
  have i1 : (r : Int) < 15 := by omega
  refine (WS.out _).mono ?_
  rintro e w2 ⟨rfl, rfl⟩
  go_wp2_with fail
  refine Ql'.out.mono ?_
  rintro e w3 ⟨A4, c4, rfl, ho, hb⟩
  have d15 := (hb.cell (p := ⟨R15, r, none⟩) z15).trans c15
  have d16 := hid ((hb.cell (p := ⟨R16, r, none⟩) z16).trans c16)
  have d17 := hid ((hb.cell (p := ⟨R17, r, none⟩) z17).trans c17)
  have y16 := Nat.lt_of_lt_of_le z16 hb.size
  have y17 := Nat.lt_of_lt_of_le z17 hb.size
  have HY3 := hid (HY.out.below hb (Nat.le_refl _))
  have B3 := hid (B1.out.trans (hb.mono B1.out.size))
  clear c15 c16 c17 z15 z16 z17 HY B1 hb ho Ql'
  go_wp2_with fail
  refine (Qs'.out _ HY3.out).mono ?_
  rintro e w4 ⟨rfl, hb⟩
  have e16 := (hb.cell (p := ⟨R16, r, none⟩) y16).trans d16.out
  have e17 := (hb.cell (p := ⟨R17, r, none⟩) y17).trans d17.out
  have B4 := hid (B3.out.trans (hb.mono B3.out.size))
  have hu := T5.out
  subst hu
  clear d15 d16 d17 y16 y17 HY3 B3 hb T5
  by_cases hy : 0 ≤ y
  · obtain ⟨h1, h2⟩ := T3.out hy
    subst h1
    subst h2
    have d1 : decide ((0 : Int) ≤ kl) = true := by simp
    clear T3 T4
    go_wp2_with fail
    go_ret
    exact ⟨rfl, B4.out⟩
  · obtain ⟨h1, h2⟩ := T4.out (by omega)
    subst h1
    subst h2
    have d1 : decide ((0 : Int) ≤ y) = false := by simp; omega
    clear T3 T4
    go_wp2_with fail
    go_ret
    exact ⟨rfl, B4.out⟩

set_option maxRecDepth 100000 in
theorem lifted (os : Os) (started : os.Started) (H : Type) (enc : TypeId × Value → H) :
    ReturnsInHanded {} Try.checked os 7 .any (Rows.optsKnownSpec.pre6 enc Try.prog Try.f7 [] false) (Rows.optsKnownSpec.post enc Try.prog Try.f7 false true false false) :=
  law_step (s := Rows.optsKnownSpec) started (by kernel_rfl) Try.func7
    (ChangeSpec.witness6 (s := Rows.optsKnownSpec) (enc := enc) (C := Try.checked) false ⟨#[], #[.int .i64 0], []⟩ 8 (by kernel_rfl) (by kernel_rfl) (by kernel_rfl) (by kernel_rfl))
    rfl (by rw [Try.params7]; decide +kernel) rfl Try.underlying4
    (fun ds h => by
      rw [Try.params7] at h
      match ds, h with
      | [_], _ => rfl)
    (fun W base args ds ps hval hA hsz => by
      rw [Try.params7] at hA hval hsz
      obtain ⟨v0, vs0, d0, ds0, p0, q0, hargs, rfl, rfl, h0, r0⟩ := trodAll_cons hA
      obtain ⟨rfl, rfl, rfl⟩ := trodAll_nil r0
      obtain rfl : args = #[v0] := by cases args; simp_all
      obtain ⟨a0, rfl, rfl, rfl, w0⟩ := open_int Try.underlying3 (hval 0 3 v0 rfl rfl) h0
      exact walk W a0 (bounds_i64 w0))

theorem proved : Rows.OptsKnownSaid :=
  OpenClaim.holds_of_wide 7 Try.f7 rfl rfl rfl rfl rfl rfl rfl ⟨rfl, rfl, rfl, rfl, rfl⟩ rfl rfl rfl rfl rfl (by kernel_rfl) Try.func7 (by kernel_rfl)
    (of_decide_eq_true (by kernel_rfl)) (by unfold Func.isWrapper; first | (rw [if_pos (by decide +kernel)]; kernel_rfl) | (rw [if_neg (by decide +kernel)]; exact ⟨rfl, rfl⟩))
    (fun os started H enc _ => lifted os started H enc)
end Go.Proofs.Ytdbfpoplhmonhaa.optsKnown
