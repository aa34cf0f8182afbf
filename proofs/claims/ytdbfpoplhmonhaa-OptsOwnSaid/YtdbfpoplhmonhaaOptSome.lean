/- The laws' helper Some: some bytes. -/
import Derived.Test.YtdbfpoplhmonhaaOptKn
import Derived.Test.YtdbfpoplhmonhaaZeros
namespace Go.Proofs.Ytdbfpoplhmonhaa
set_option linter.unusedVariables false
set_option linter.unusedSimpArgs false
open Go.RowKit Go.ChangeShapes Go.WideShapes Go.ChangeAt

/-- A row of bytes of the call's own, whichever. -/
def OwX (w : World) (B : Nat) (v : Value) (n : Nat) : Prop := ∃ f : Nat → Int, IsB f ∧ Ow w B 5 1 v n (fun j => .int .u8 (f j))
def AllB (l : List Value) : Prop := ∀ v ∈ l, ∃ x : Int, v = .int .u8 x ∧ 0 ≤ x ∧ x ≤ 255
theorem allB_row : ∀ (l : List Value), AllB l → ∃ xs : List Int, l = xs.map (Value.int .u8) ∧ ∀ x ∈ xs, 0 ≤ x ∧ x ≤ 255
  | [], _ => ⟨[], rfl, fun _ h => by cases h⟩
  | v :: l, h => by
    obtain ⟨x, rfl, hx⟩ := h v (List.mem_cons.2 (.inl rfl))
    obtain ⟨xs, rfl, hxs⟩ := allB_row l (fun u hu => h u (List.mem_cons.2 (.inr hu)))
    exact ⟨x :: xs, rfl, fun y hy => by
      rcases List.mem_cons.1 hy with rfl | hy
      · exact hx
      · exact hxs y hy⟩
section
variable {w : World} {ops : Array Oper} {rest : List Oper} {o : Oper} {a : Act} {Q : Exit → Act → World → Prop}
theorem wp_app_x (hgd : o.guard = none) (s x : Operand) (ho : o.op = .call { callee := .builtin .append, args := #[s, x], argTypes := #[23, 23] })
    (base : Nat) (v : Value) (n m : Nat) (hs : a.eval s = v) (hown : OwX w base v n) (w0 : World) (l : List Value) (hw : w = w0.alloc (.cells l.toArray 5)) (hl : l.length = m) (hb : AllB l)
    (hx : a.eval x = .slice (some ⟨w0.heap.size, 0, none⟩) m m) (hn : n + m ≤ 1000) (hbase : base ≤ w.heap.size)
    (h : ∀ A' c' w', OwX w' base (.slice A' (n + m) c') (n + m) → Below base w w' → wpList Try.prog ops Q rest (a.put o.dst (.slice A' (n + m) c')) w') : wpList Try.prog ops Q (o :: rest) a w := by
  obtain ⟨f, hf, hown⟩ := hown
  obtain ⟨xs, rfl, hxs⟩ := allB_row l hb
  subst hw
  rw [List.length_map] at hl
  refine wp_app_b hgd s x ho base v n f hs hown (some ⟨w0.heap.size, 0, none⟩) m m (fun j => xs.getD j 0) hx (row_at0 .u8 xs rfl hl.symm rfl) (by omega) hbase ?_
  intro A' c' w' h1 h2 h3 h4 h5 h6
  exact h A' c' w' ⟨_, by
    intro j
    dsimp only
    split
    · exact hf j
    · exact lit_b xs hxs _, h1⟩ h4
theorem wp_zer_x (hgd : o.guard = none) (s x : Operand) (ho : o.op = .call { callee := .builtin .append, args := #[s, x], argTypes := #[23, 3] })
    (base : Nat) (v : Value) (n m : Nat) (hs : a.eval s = v) (hown : OwX w base v n)
    (Lx : Int) (hx : a.eval x = .int .i64 Lx) (hL : Lx = (m : Int)) (hn : n + m ≤ 1000) (hbase : base ≤ w.heap.size)
    (h : ∀ A' c' w', OwX w' base (.slice A' (n + m) c') (n + m) → Below base w w' → wpList Try.prog ops Q rest (a.put o.dst (.slice A' (n + m) c')) w') : wpList Try.prog ops Q (o :: rest) a w := by
  subst hL
  obtain ⟨f, hf, hown⟩ := hown
  refine wp_zeros hgd s x ho base v n f hs hown m hx (by omega) hbase ?_
  intro A' c' w' h1 h2 h3 h4 h5 h6
  exact h A' c' w' ⟨_, by
    intro j
    dsimp only
    split
    · exact hf j
    · omega, h1⟩ h4
end
theorem OwX.none_ {w : World} {B : Nat} : OwX w B (.slice none 0 0) 0 := ⟨fun _ => 0, fun _ => by dsimp only; omega, Ow.none_⟩
theorem OwX.alloc {w : World} {B n : Nat} {v : Value} (h : OwX w B v n) (o : Obj) : OwX (w.alloc o) B v n := by
  obtain ⟨f, hf, h⟩ := h
  exact ⟨f, hf, Ow.alloc h o⟩
def SomeAt (w : World) (n : Nat) (v i : Value) (wr : World) : Prop :=
  ∃ (k : Nat) (L : Option Addr) (d m : Nat), k ≤ n ∧ m ≤ 39 ∧ v = .slice L m d ∧ i = .int .i64 (k : Int) ∧ Below w.heap.size w wr ∧ OwX wr w.heap.size (.slice L m d) m
/-- Some answers some bytes. -/
def Somed (w : World) (e : Ending) (w' : World) : Prop :=
  ∃ (A' : Option Addr) (m c' : Nat), e = .returned (.slice A' m c') ∧ m ≤ 39 ∧ OwX w' w.heap.size (.slice A' m c') m ∧ Below w.heap.size w w'

set_option maxRecDepth 100000 in
set_option maxHeartbeats 8000000 in
theorem some_any (A : Option Addr) (n c : Nat) (g : Nat → Int) (w : World) (h : Is w A n g) (hg : IsI g) (hn : n ≤ 140737488355328) :
    Calls Try.prog 14 #[.slice A n c] w (Somed w) := by
  have HY := hid h
  clear h
  go_enter Try.func14, Try.ntmps14
  go_wp2
  go_loopw [3, 4] (fun v i wr => SomeAt w n v i wr) (fun _ i _ => n - (intOf i).toNat)
  case atStart => exact ⟨0, none, 0, 0, Nat.zero_le _, by omega, rfl, rfl, Below.refl _ _, OwX.none_⟩
  case round =>
    obtain ⟨k, L, d, m, hk, hm, rfl, rfl, hb, ho⟩ := hrel
    have HB := hid hb
    have HO := hid ho
    clear hb ho
    by_cases hlt : k < n
    · by_cases h30 : m < 30
      · have hy := HY.out.below HB.out (Nat.le_refl _)
        obtain ⟨b, off, rfl, hbw, hc⟩ := hy (by omega)
        have c0 : wr.cell? ⟨b, off + k, none⟩ = some (.int .i64 (g k)) := hc k hlt
        clear hc hy
        have wb := wi_bd (g k) 1099511627776 (by omega)
        obtain ⟨N, hN⟩ : ∃ N, N = wi (g k) 1099511627776 := ⟨_, rfl⟩
        rw [← hN] at wb
        have gk := hg k
        have WS := hid (fun w => re_i64 (within_any (g k) 1099511627776 w (by omega) (by omega)) hN.symm)
        obtain ⟨wb1, wb2⟩ := wb
        have d1 : decide ((k : Int) < n) = true := by simp; omega
        have d2 : decide ((m : Int) < 30) = true := by simp; omega
        have hz := HB.out.size
        have i0 : (0 : Int) ≤ k := by omega
        have i1 : (k : Int) < n := by omega
        generalize g k = gk0 at *
        clear hN HY
        obtain ⟨r, hr, hr0, hr8⟩ : ∃ r : Int, N % 8 = r ∧ 0 ≤ r ∧ r < 8 := ⟨_, rfl, by omega, by omega⟩
        rcases (by omega : r = 0 ∨ r = 1 ∨ r = 2 ∨ r = 3 ∨ r = 4 ∨ r = 5 ∨ r = 6 ∨ r = 7) with rfl | rfl | rfl | rfl | rfl | rfl | rfl | rfl
        · have HR := hid hr
          go_wp2_with fail
          refine (WS.out _).mono ?_
          rintro e w' ⟨rfl, rfl⟩
          have hr2 := HR.out
          go_wp2_with (at_builtin; refine wp_app_x rfl (.tmp 28) (.tmp 29) rfl w.heap.size _ m 1 rfl (OwX.alloc HO.out _) wr _ rfl rfl (by repeat (first | exact List.forall_mem_nil _ | refine List.forall_mem_cons.2 ⟨⟨_, rfl, by omega, by omega⟩, ?_⟩)) rfl (by omega) (by simp; omega) ?_; intro A' c' w3 hown hbel; have HB4 := hid ((HB.out.alloc HB.out.size _).trans hbel); have HO4 := hid hown; clear hown hbel HB HO)
          go_roundw
          case rel => exact ⟨k + 1, A', c', m + 1, by omega, by omega, rfl, by go_num, HB4.out, HO4.out⟩
          case measure => simp [intOf]; omega
        · have HR := hid hr
          go_wp2_with fail
          refine (WS.out _).mono ?_
          rintro e w' ⟨rfl, rfl⟩
          have hr2 := HR.out
          go_wp2_with (at_builtin; refine wp_app_x rfl (.tmp 28) (.tmp 29) rfl w.heap.size _ m 1 rfl (OwX.alloc HO.out _) wr _ rfl rfl (by repeat (first | exact List.forall_mem_nil _ | refine List.forall_mem_cons.2 ⟨⟨_, rfl, by omega, by omega⟩, ?_⟩)) rfl (by omega) (by simp; omega) ?_; intro A' c' w3 hown hbel; have HB4 := hid ((HB.out.alloc HB.out.size _).trans hbel); have HO4 := hid hown; clear hown hbel HB HO)
          go_roundw
          case rel => exact ⟨k + 1, A', c', m + 1, by omega, by omega, rfl, by go_num, HB4.out, HO4.out⟩
          case measure => simp [intOf]; omega
        · have HR := hid hr
          go_wp2_with fail
          refine (WS.out _).mono ?_
          rintro e w' ⟨rfl, rfl⟩
          have hr2 := HR.out
          go_wp2_with (at_builtin; refine wp_app_x rfl (.tmp 34) (.tmp 50) rfl w.heap.size _ m 10 rfl (OwX.alloc HO.out _) wr _ rfl rfl (by repeat (first | exact List.forall_mem_nil _ | refine List.forall_mem_cons.2 ⟨⟨_, rfl, by omega, by omega⟩, ?_⟩)) rfl (by omega) (by simp; omega) ?_; intro A' c' w3 hown hbel; have HB4 := hid ((HB.out.alloc HB.out.size _).trans hbel); have HO4 := hid hown; clear hown hbel HB HO)
          go_roundw
          case rel => exact ⟨k + 1, A', c', m + 10, by omega, by omega, rfl, by go_num, HB4.out, HO4.out⟩
          case measure => simp [intOf]; omega
        · have HR := hid hr
          go_wp2_with fail
          refine (WS.out _).mono ?_
          rintro e w' ⟨rfl, rfl⟩
          have hr2 := HR.out
          go_wp2_with (at_builtin; refine wp_app_x rfl (.tmp 34) (.tmp 50) rfl w.heap.size _ m 10 rfl (OwX.alloc HO.out _) wr _ rfl rfl (by repeat (first | exact List.forall_mem_nil _ | refine List.forall_mem_cons.2 ⟨⟨_, rfl, by omega, by omega⟩, ?_⟩)) rfl (by omega) (by simp; omega) ?_; intro A' c' w3 hown hbel; have HB4 := hid ((HB.out.alloc HB.out.size _).trans hbel); have HO4 := hid hown; clear hown hbel HB HO)
          go_roundw
          case rel => exact ⟨k + 1, A', c', m + 10, by omega, by omega, rfl, by go_num, HB4.out, HO4.out⟩
          case measure => simp [intOf]; omega
        · have HR := hid hr
          obtain ⟨q, hq⟩ := Int.eq_ofNat_of_zero_le (show 0 ≤ N / 8 % 6 by omega)
          have hq6 : q < 6 := by omega
          have HQ := hid hq
          clear hq
          go_wp2_with fail
          refine (WS.out _).mono ?_
          rintro e w' ⟨rfl, rfl⟩
          have hr2 := HR.out
          have hq := HQ.out
          go_wp2_with (first | (at_builtin; refine wp_app_x rfl (.tmp 58) (.tmp 66) rfl w.heap.size _ m 2 rfl (OwX.alloc HO.out _) wr _ rfl rfl (by repeat (first | exact List.forall_mem_nil _ | refine List.forall_mem_cons.2 ⟨⟨_, rfl, by omega, by omega⟩, ?_⟩)) rfl (by omega) (by simp; omega) ?_; intro A' c' w3 hown hbel; have HB4 := hid ((HB.out.alloc HB.out.size _).trans hbel); have HO4 := hid hown; clear hown hbel HB HO) | (at_builtin; refine wp_zer_x rfl (.tmp 67) (.tmp 69) rfl w.heap.size _ (m + 2) q rfl HO4.out _ rfl (by first | omega | (unfold wrap64; omega)) (by omega) HB4.out.size ?_; intro A5 c5 w5 hown hbel; have HB5 := hid (HB4.out.trans hbel); have HO5 := hid hown; clear hown hbel HB4 HO4))
          go_roundw
          case rel => exact ⟨k + 1, A5, c5, m + 2 + q, by omega, by omega, rfl, by go_num, HB5.out, HO5.out⟩
          case measure => simp [intOf]; omega
        · have HR := hid hr
          go_wp2_with fail
          refine (WS.out _).mono ?_
          rintro e w' ⟨rfl, rfl⟩
          have hr2 := HR.out
          go_wp2_with (at_builtin; refine wp_app_x rfl (.tmp 73) (.tmp 78) rfl w.heap.size _ m 2 rfl (OwX.alloc HO.out _) wr _ rfl rfl (by repeat (first | exact List.forall_mem_nil _ | refine List.forall_mem_cons.2 ⟨⟨_, rfl, by omega, by omega⟩, ?_⟩)) rfl (by omega) (by simp; omega) ?_; intro A' c' w3 hown hbel; have HB4 := hid ((HB.out.alloc HB.out.size _).trans hbel); have HO4 := hid hown; clear hown hbel HB HO)
          go_roundw
          case rel => exact ⟨k + 1, A', c', m + 2, by omega, by omega, rfl, by go_num, HB4.out, HO4.out⟩
          case measure => simp [intOf]; omega
        · have HR := hid hr
          go_wp2_with fail
          refine (WS.out _).mono ?_
          rintro e w' ⟨rfl, rfl⟩
          have hr2 := HR.out
          go_wp2_with (at_builtin; refine wp_app_x rfl (.tmp 82) (.tmp 91) rfl w.heap.size _ m 2 rfl (OwX.alloc HO.out _) wr _ rfl rfl (by repeat (first | exact List.forall_mem_nil _ | refine List.forall_mem_cons.2 ⟨⟨_, rfl, by omega, by omega⟩, ?_⟩)) rfl (by omega) (by simp; omega) ?_; intro A' c' w3 hown hbel; have HB4 := hid ((HB.out.alloc HB.out.size _).trans hbel); have HO4 := hid hown; clear hown hbel HB HO)
          go_roundw
          case rel => exact ⟨k + 1, A', c', m + 2, by omega, by omega, rfl, by go_num, HB4.out, HO4.out⟩
          case measure => simp [intOf]; omega
        · have HR := hid hr
          go_wp2_with fail
          refine (WS.out _).mono ?_
          rintro e w' ⟨rfl, rfl⟩
          have hr2 := HR.out
          by_cases h3 : N / 8 % 3 = 0
          · go_wp2_with (at_builtin; refine wp_app_x rfl (.tmp 99) (.tmp 100) rfl w.heap.size _ m 1 rfl (OwX.alloc HO.out _) wr _ rfl rfl (by repeat (first | exact List.forall_mem_nil _ | refine List.forall_mem_cons.2 ⟨⟨_, rfl, by omega, by omega⟩, ?_⟩)) rfl (by omega) (by simp; omega) ?_; intro A' c' w3 hown hbel; have HB4 := hid ((HB.out.alloc HB.out.size _).trans hbel); have HO4 := hid hown; clear hown hbel HB HO)
            go_roundw
            case rel => exact ⟨k + 1, A', c', m + 1, by omega, by omega, rfl, by go_num, HB4.out, HO4.out⟩
            case measure => simp [intOf]; omega
          · have t3 : (N / 8 % 3 == 0) = false := by simpa using h3
            clear h3
            go_wp2_with fail
            go_roundw
            case rel => exact ⟨k + 1, L, d, m, by omega, by omega, rfl, by go_num, HB.out, HO.out⟩
            case measure => simp [intOf]; omega
      · have d1 : decide ((k : Int) < n) = true := by simp; omega
        have d2 : decide ((m : Int) < 30) = false := by simp; omega
        go_wp2
        go_ret
        exact ⟨L, m, d, rfl, hm, HO.out, HB.out⟩
    · have d1 : decide ((k : Int) < n) = false := by simp; omega
      go_wp2
      go_ret
      exact ⟨L, m, d, rfl, hm, HO.out, HB.out⟩
end Go.Proofs.Ytdbfpoplhmonhaa
