/- An entry's text, written. -/
import Derived.Test.YtljgcffpijjliaaDoorOrdWd
import Derived.Test.YtljgcffpijjliaaDoorOrdFu
import Derived.BigQuiet
import Derived.Deep.RegionHeld3
import Derived.Deep.Cut
namespace Go.Proofs.YtljgcffpijjliaaDoor
set_option linter.unusedVariables false
set_option linter.unusedSimpArgs false
open Go.RowKit Go.ChangeShapes Go.WideShapes Go.ChangeAt

def wrds (e : En) : List (List UInt8) := wdL e.k :: (nmL e).map fun x => Lib.decDigits x.toNat
theorem Ce.grown {w w' : World} {b : Nat} {l : List Value} {row : Option Nat} (h : Ce w b l) (hg : w.grownBy w' row) (hne : row ≠ some b) : Ce w' b l :=
  have hb := hg.block b h.1 (fun e => hne e.symm)
  ⟨Nat.lt_of_lt_of_le h.1 hg.size, fun j v hj => (World.cell?_of_block (a := ⟨b, j, none⟩) hb).trans (h.2.1 j v hj), fun j => (World.frozen?_of_block (a := ⟨b, j, none⟩) hb).trans (h.2.2 j)⟩
def txtL (e : En) : List UInt8 := Lib.join (wrds e) [32]
def wrdF (e : En) (j : Nat) : Value := .string ⟨((wrds e).getD j []).toArray⟩
section
variable {w : World} {ops : Array Oper} {rest : List Oper} {o : Oper} {a : Act} {Q : Exit → Act → World → Prop}
theorem wp_app_sl (hgd : o.guard = none) (s x : Operand) (ho : o.op = .call { callee := .builtin .append, args := #[s, x], argTypes := #[64, 64] })
    (base : Nat) (v : Value) (m : Nat) (f : Nat → Value) (hf : (f m).oneCell' = true) (hs : a.eval s = v) (hown : Ow w base 9 1 v m f)
    (g c : Nat) (hx : a.eval x = .slice (some ⟨g, 0, none⟩) 1 c) (hr : Ce w g [f m]) (hsz : m ≤ 1000000) (hbase : base ≤ w.heap.size)
    (h : ∀ A' c' w', Ow w' base 9 1 (.slice A' (m + 1) c') (m + 1) f → Below base w w' → w.grownBy w' v.ownBlock → (∀ b, (Value.slice A' (m + 1) c').ownBlock = some b → v.ownBlock = some b ∨ b = w.heap.size) → wpList Tryd.prog ops Q rest (a.put o.dst (.slice A' (m + 1) c')) w') : wpList Tryd.prog ops Q (o :: rest) a w := by
  obtain ⟨i0, hi, hz0, hz1, hz2⟩ := info_parts info_s
  refine wp_app w hgd s x 64 ho base 9 i0 (.string ⟨#[]⟩) 1 16 Tryd.underlying64 hi hz0 hz1 hz2 rfl (by decide) v m _ hs hown (some ⟨g, 0, none⟩) 1 c (fun _ => f m) hx ?_ (fun _ _ => hf) (by simp only [maxLen]; omega) (by omega) hbase ?_
  · refine Sl.mk hr.1 fun j hj => ?_
    rw [Nat.zero_add]
    obtain rfl : j = 0 := by omega
    exact hr.2.1 0 _ rfl
  · intro A' c' w' h1 h2 h3 h4 h5 h6
    refine h A' c' w' ?_ h4 h5 h6
    refine h1.as_ fun j hj => ?_
    unfold two
    by_cases hjm : j < m * 1
    · rw [if_pos hjm]
    · rw [if_neg hjm, show j = m by omega]
end
theorem Ow.ceF {w : World} {B c n : Nat} {T : TypeId} {A : Option Addr} {f : Nat → Value} (h : Ow w B T 1 (.slice A n c) n f) (h0 : 0 < n) : ∃ g, A = some ⟨g, 0, none⟩ ∧ n ≤ c ∧ g < w.heap.size ∧ ∀ j, j < n → w.cell? ⟨g, j, none⟩ = some (f j) := by
  obtain ⟨A', c', hv, hcc, _⟩ := Ow.form_ h
  injection hv with _ _ h3
  obtain ⟨g, e, _, hg, hc, hf⟩ := Ow.block_ h h0
  exact ⟨g, e, by omega, hg, fun j hj => hc j (by omega)⟩
theorem join_any (e : En) (g d : Nat) (w : World) (hd : (wrds e).length ≤ d) (hg : g < w.heap.size) (h : ∀ j, j < (wrds e).length → w.cell? ⟨g, j, none⟩ = some (wrdF e j)) (hN : (wrds e).length ≤ 1000) (hlen : (txtL e).length ≤ 1000) : Calls Tryd.prog 48 #[.slice (some ⟨g, 0, none⟩) (wrds e).length d, .string ⟨#[32]⟩] w fun r w' => r = .returned (.string ⟨(txtL e).toArray⟩) ∧ Below w.heap.size w w' := by
  have key : ∀ l : List (List UInt8), (l.map fun l => (⟨l.toArray⟩ : ByteArray)).map (fun x => x.data.toList) = l := fun l => by
    induction l with
    | nil => rfl
    | cons x l ih => rw [List.map_cons, List.map_cons, ih]
  have e1 := key (wrds e)
  have e2 : (⟨#[32]⟩ : ByteArray).data.toList = [32] := rfl
  have := Tryd.strings_Join g 0 d ((wrds e).map fun l => (⟨l.toArray⟩ : ByteArray)) ⟨#[32]⟩ w (fun j x hj => by
    rw [Nat.zero_add]
    rw [List.getElem?_map] at hj
    obtain ⟨l, hl, rfl⟩ := Option.map_eq_some_iff.1 hj
    have hj' : j < (wrds e).length := (List.getElem?_eq_some_iff.1 hl).1
    rw [h j hj']
    unfold wrdF
    rw [List.getD_eq_getElem?_getD, hl]
    rfl) hg (by simp; omega) (by simp; omega) (by rw [e1, e2]; exact Nat.le_trans hlen (by decide))
  rw [e1, e2, List.length_map] at this
  exact this
theorem dec_len {u : Nat} (h : u < 18446744073709551616) : (Lib.decDigits u).length ≤ 20 := by
  rw [Lib.decDigits_length]
  by_cases h0 : u = 0
  · subst h0; decide +kernel
  · have := Lib.numDigits_eq u (by omega) h
    split at this <;> omega
theorem nm_len (e : En) : (nmL e).length ≤ 4 := by unfold nmL; split; simp; split <;> simp
theorem wd_len (k : Int) : (wdL k).length ≤ 6 := by unfold wdL; split; simp; split; simp; split; simp; split; simp; split <;> simp
theorem lens_le {f : Int → List UInt8} : ∀ {l : List Int}, (∀ x ∈ l, (f x).length ≤ 20) → Lib.lens (l.map f) ≤ 20 * l.length
  | [], _ => by simp [Lib.lens]
  | x :: l, h => by
    have ih := lens_le (l := l) (fun y hy => h y (List.mem_cons_of_mem _ hy))
    have hx := h x (List.mem_cons_self ..)
    simp only [List.map_cons, List.length_cons, Lib.lens] at ih ⊢
    simp at ih ⊢
    omega
theorem txt_len {e : En} (h : ∀ x ∈ nmL e, U64 x) : (txtL e).length ≤ 1000 := by
  unfold txtL wrds
  rw [Lib.join_length]
  have h1 := lens_le (f := fun x => Lib.decDigits x.toNat) (l := nmL e) (fun x hx => dec_len (by have := h x hx; unfold U64 at this; omega))
  have h2 := nm_len e
  have h3 := wd_len e.k
  simp only [List.length_map, Lib.lens] at h1 ⊢
  simp at h1 ⊢
  omega
theorem nm_at (e : En) (hu : ∀ x ∈ nmL e, U64 x) {k : Nat} (hk : k < (nmL e).length) : ∃ u : Nat, u < 18446744073709551616 ∧ ((nmL e).map fun x => Value.int .u64 x)[k]? = some (.int .u64 (u : Int)) ∧ wrdF e (k + 1) = .string ⟨(Lib.decDigits u).toArray⟩ := by
  obtain ⟨x, hx⟩ : ∃ x, (nmL e)[k]? = some x := ⟨_, List.getElem?_eq_getElem hk⟩
  have hm := hu x (List.mem_of_getElem? hx)
  unfold U64 at hm
  refine ⟨x.toNat, by omega, ?_, ?_⟩
  · rw [List.getElem?_map, hx]
    show some (Value.int .u64 x) = some (.int .u64 (x.toNat : Int))
    rw [Int.toNat_of_nonneg hm.1]
  · unfold wrdF wrds
    rw [List.getD_eq_getElem?_getD, List.getElem?_cons_succ, List.getElem?_map, hx]
    rfl
theorem Ow.one_ {w : World} {B g : Nat} {T : TypeId} {f : Nat → Value} {v : Value} (hv : f 0 = v) (hg : w.heap.size = g) (hB : B ≤ g) : Ow (w.alloc (.cells #[v] T)) B T 1 (.slice (some ⟨g, 0, none⟩) 1 1) 1 f := by
  subst hg; subst hv
  have := World.ownsRow_lit (size := 1) (e := T) (base := B) w #[f 0] 1 hB (by decide) (by simp)
  unfold Ow
  simpa using this
set_option maxRecDepth 100000 in
set_option maxHeartbeats 4000000 in
theorem text_any (e : En) (hc : chk e = 0) (hu : ∀ x ∈ nmL e, U64 x) (w : World) (hT : Lib.TabBelow Tryd.prog w.heap.size w "internal/strconv.uint64pow10" .u64 Lib.pow10Tab) : Calls Tryd.prog 31 #[enV e] w fun r w' => r = .returned (.string ⟨(txtL e).toArray⟩) ∧ Below w.heap.size w w' := by
  obtain ⟨n, hn⟩ : ∃ n, n = (nmL e).length := ⟨_, rfl⟩
  have hWn : (wrds e).length = n + 1 := by unfold wrds; rw [List.length_cons, List.length_map, hn]
  have hn4 : n ≤ 4 := by rw [hn]; exact nm_len e
  have CK := hid (fun w => re_i64 (check_any e w) hc)
  have NU := hid (nums_any e hu)
  have WD := hid (word_any e.k)
  have HL := txt_len hu
  have HF := hid (fun k (hk : k < n) => nm_at e hu (by omega : k < (nmL e).length))
  have HJ := hid (fun g d w h1 h2 h3 => join_any e g d w h1 h2 h3 (by omega) HL)
  have HFO : ∀ j, (wrdF e j).oneCell' = true := fun _ => rfl
  have HF0 := hid (show wrdF e 0 = .string ⟨(wdL e.k).toArray⟩ from rfl)
  rw [hWn] at HJ
  rw [← hn] at NU
  obtain ⟨cs, hcs⟩ : ∃ cs, cs = (nmL e).map fun x => Value.int .u64 x := ⟨_, rfl⟩
  rw [← hcs] at NU HF
  obtain ⟨F, hF⟩ : ∃ F, F = wrdF e := ⟨_, rfl⟩
  rw [← hF] at HF HJ HFO HF0
  obtain ⟨tx, htx⟩ : ∃ l, l = (txtL e).toArray := ⟨_, rfl⟩
  rw [← htx] at HJ ⊢
  obtain ⟨wd, hwd⟩ : ∃ l, l = (wdL e.k).toArray := ⟨_, rfl⟩
  rw [← hwd] at WD HF0
  have HT := hid hT
  have HFI := hid HFO
  clear hc hu hWn HL hcs hF htx hwd hn hT HFO
  obtain ⟨k, s, a, q, m, ya, yb⟩ := e
  unfold enV at CK NU ⊢
  simp only at CK NU WD
  go_enter Tryd.func31, Tryd.ntmps31
  go_upto_region 1 with (fail)
  have CE := hid (Ce.made (w := w) (l := [.int .i64 k, .int .i64 s, .int .i64 a, .int .i64 q, .int .i64 m, .int .u64 ya, .int .u64 yb]) (T := 56) (g := w.heap.size) rfl)
  have HB := hid ((Below.refl w.heap.size w).alloc (Nat.le_refl _) (.cells #[.int .i64 k, .int .i64 s, .int .i64 a, .int .i64 q, .int .i64 m, .int .u64 ya, .int .u64 yb] 56))
  simp only [List.toArray] at CE
  generalize w.alloc (.cells #[.int .i64 k, .int .i64 s, .int .i64 a, .int .i64 q, .int .i64 m, .int .u64 ya, .int .u64 yb] 56) = w1 at *
  have e0 := CE.out.2.1 0 _ rfl
  have e1 := CE.out.2.1 1 _ rfl
  have e2 := CE.out.2.1 2 _ rfl
  have e3 := CE.out.2.1 3 _ rfl
  have e4 := CE.out.2.1 4 _ rfl
  have e5 := CE.out.2.1 5 _ rfl
  have e6 := CE.out.2.1 6 _ rfl
  have ef := CE.out.2.2
  go_wp2_with fail
  clear e0 e1 e2 e3 e4 e5 e6 ef
  refine (CK.out _).mono ?_
  rintro x w2 ⟨rfl, hb⟩
  have CE2 := hid (CE.out.below hb)
  have HB2 := hid (HB.out.trans (hb.mono HB.out.size))
  clear hb CE HB CK
  have e0 := CE2.out.2.1 0 _ rfl
  have e1 := CE2.out.2.1 1 _ rfl
  have e2 := CE2.out.2.1 2 _ rfl
  have e3 := CE2.out.2.1 3 _ rfl
  have e4 := CE2.out.2.1 4 _ rfl
  have e5 := CE2.out.2.1 5 _ rfl
  have e6 := CE2.out.2.1 6 _ rfl
  have ef := CE2.out.2.2
  go_wp2_with fail
  refine (WD.out _).mono ?_
  rintro x w' ⟨rfl, rfl⟩
  go_upto_region 4 with (fail)
  clear e0 e1 e2 e3 e4 e5 e6 ef WD
  have l2 := HB2.out.size
  have O3 := hid (Ow.one_ (w := w2) (B := w.heap.size) (g := w2.heap.size) (T := 9) (f := F) HF0.out rfl l2)
  have CE3 := hid (CE2.out.alloc (.cells #[.string ⟨wd⟩] 9))
  have HB3 := hid (HB2.out.alloc l2 (.cells #[.string ⟨wd⟩] 9))
  clear CE2 HB2
  have lR : w2.heap.size < (w2.alloc (.cells #[.string ⟨wd⟩] 9)).heap.size := by simp
  generalize w2.alloc (.cells #[.string ⟨wd⟩] 9) = w3 at *
  generalize w2.heap.size = R at *
  have e0 := CE3.out.2.1 0 _ rfl
  have e1 := CE3.out.2.1 1 _ rfl
  have e2 := CE3.out.2.1 2 _ rfl
  have e3 := CE3.out.2.1 3 _ rfl
  have e4 := CE3.out.2.1 4 _ rfl
  have e5 := CE3.out.2.1 5 _ rfl
  have e6 := CE3.out.2.1 6 _ rfl
  have ef := CE3.out.2.2
  go_wp2_with fail
  clear e0 e1 e2 e3 e4 e5 e6 ef
  refine (NU.out _).mono ?_
  rintro x w4 ⟨N, rfl, hNl, hn, hb⟩
  have CN4 := hid hn
  have O4 := hid (O3.out.keep hb (Nat.le_refl _))
  have HB4 := hid (HB3.out.trans (hb.mono HB3.out.size))
  have hRN : R ≠ N := by omega
  clear hn hb CE3 O3 HB3 NU
  go_wp2_with fail
  go_loopw [3, 16] (fun l i wr => ∃ (k : Nat) (A : Option Addr) (d : Nat), k ≤ n ∧ l = .slice A (k + 1) d ∧ i = .int .i64 (k : Int) ∧ Ow wr w.heap.size 9 1 (.slice A (k + 1) d) (k + 1) F ∧ (Value.slice A (k + 1) d).ownBlock ≠ some N ∧ Ce wr N cs ∧ Below w.heap.size w wr) (fun _ i _ => n - (intOf i).toNat)
  case atStart => exact ⟨0, _, _, by omega, rfl, rfl, O4.out, fun e => hRN (by injection e), CN4.out, HB4.out⟩
  case round =>
    clear O4 CN4 HB4
    obtain ⟨j, A, d, hk, rfl, rfl, ho, hne, hn, hbl⟩ := hrel
    have HO := hid ho
    have HN := hid hn
    have HB := hid hbl
    have HNE := hid hne
    clear ho hn hbl hne
    by_cases hlt : j < n
    · have i0 : (0 : Int) ≤ j := by omega
      have i1 : (j : Int) < n := by omega
      obtain ⟨u, hu1, hu2, hu3⟩ := HF.out j hlt
      have n0 := HN.out.2.1 j _ hu2
      have FU := hid (fu_any u hu1 wr (HT.out wr HB.out))
      have HU := hid hu3
      clear hu2 hu3
      go_wp2_with fail
      clear n0
      refine FU.out.mono ?_
      rintro e w5 ⟨rfl, hb⟩
      have HO5 := hid (HO.out.keep hb (Nat.le_refl _))
      have HN5 := hid (HN.out.below hb)
      have HB5 := hid (HB.out.trans (hb.mono HB.out.size))
      have l5 := HB5.out.size
      have lN := HN5.out.1
      clear hb HO HN HB FU
      go_wp2_with (at_builtin; refine wp_app_sl rfl (.tmp 20) (.tmp 23) rfl w.heap.size _ (j + 1) F (HFI.out _) rfl (Ow.alloc HO5.out _) w5.heap.size 1 rfl (by rw [HU.out]; exact Ce.made (l := [_]) rfl) (by omega) (by simp; omega) ?_; intro A' d' w6 hown hbel hgr hloc; have HO6 := hid hown; have HB6 := hid ((HB5.out.alloc l5 (.cells #[.string ⟨(Lib.decDigits u).toArray⟩] 9)).trans hbel); have HN6 := hid ((HN5.out.alloc (.cells #[.string ⟨(Lib.decDigits u).toArray⟩] 9)).grown hgr HNE.out); have HNE6 := hid (show (Value.slice A' (j + 1 + 1) d').ownBlock ≠ some N from fun e => (hloc N e).elim HNE.out (fun h => Nat.ne_of_lt (Nat.lt_succ_of_lt lN) (h.trans (by simp)))); clear hown hbel hgr hloc HO5 HB5 HN5)
      go_roundw
      case rel => exact ⟨j + 1, A', d', by omega, rfl, by go_num, HO6.out, HNE6.out, HN6.out, HB6.out⟩
      case measure => simp [intOf]; omega
    · have e : j = n := by omega
      subst e
      obtain ⟨g, rfl, hd2, hg, hce⟩ := Ow.ceF HO.out (by omega)
      have HCE := hid hce
      have JJ := hid (HJ.out g d wr hd2 hg hce)
      clear hce
      go_wp2_with fail
      refine JJ.out.mono ?_
      rintro x w6 ⟨rfl, hb⟩
      have HB6 := hid (HB.out.trans (hb.mono HB.out.size))
      clear hb
      go_wp2_with fail
      go_ret
      exact ⟨rfl, HB6.out⟩
end Go.Proofs.YtljgcffpijjliaaDoor
