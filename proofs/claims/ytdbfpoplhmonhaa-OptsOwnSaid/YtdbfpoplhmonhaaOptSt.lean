/- The first stamp among options. -/
import Derived.Test.YtdbfpoplhmonhaaOptNum
namespace Go.Proofs.Ytdbfpoplhmonhaa
set_option linter.unusedVariables false
set_option linter.unusedSimpArgs false
open Go.RowKit Go.ChangeShapes Go.WideShapes Go.ChangeAt

theorem Ce.set {w : World} {b : Nat} {l : List Value} (h : Ce w b l) (j : Nat) (v : Value) (hj : j < l.length) : Ce (w.setCell ⟨b, j, none⟩ v) b (l.set j v) := by
  refine ⟨by simpa using h.1, fun i u hi => ?_, fun i => by rw [World.frozen?_setCell]; exact h.2.2 i⟩
  by_cases e : i = j
  · subst e
    rw [List.getElem?_set_self hj] at hi
    injection hi with hi
    subst hi
    exact World.cell?_setCell_same _ _ _ (h.2.1 i _ (List.getElem?_eq_getElem hj))
  · rw [List.getElem?_set_ne (Ne.symm e)] at hi
    rw [World.cell?_setCell_other _ _ _ _ (fun x => e (by injection x with _ x; exact x.symm))]
    exact h.2.1 i u hi
theorem Ce.set3 {w : World} {b : Nat} {x y z a d c : Value} (h : Ce w b [x, y, z]) : Ce (((w.setCell ⟨b, 0, none⟩ a).setCell ⟨b, 1, none⟩ d).setCell ⟨b, 2, none⟩ c) b [a, d, c] :=
  ((h.set 0 a (by simp)).set 1 d (by simp)).set 2 c (by simp)
theorem at_world {P : Program} {fn : Func} {post : Ending → World → Prop} {x : Exit} {a : Act} {W : World} (Q : World → Prop) (hQ : Q W) (h : ∀ w, Q w → bodyPost P fn post x a w) : bodyPost P fn post x a W := h W hQ
theorem tiled_len {g : Nat → Int} {n : Nat} : ∀ (l : List (Int × Int × Int)) (a : Nat), Tiled g n a l → l.length ≤ n - a := by
  intro l
  induction l with
  | nil => intro a h; simp
  | cons o l ih =>
    intro a ⟨h1, ha, h⟩
    have hi := one_is h1 ha
    rcases h with ⟨_, rfl⟩ | ⟨_, h⟩
    · simp; omega
    · have := ih _ h
      simp
      omega
theorem wl_len (g : Nat → Int) (n : Nat) : (wl g n).length ≤ n := by
  unfold wl
  cases hw : walk g n 0 with
  | none => simp
  | some l => exact tiled_len l 0 (tiled_of g n n 0 l (by omega) hw)

theorem isst_any (o : Int × Int × Int) (w : World) :
    Calls Try.prog 30 #[oV o] w fun e w' => e = .returned (.bool (isS o)) ∧ Below w.heap.size w w' := by
  obtain ⟨k, a, l⟩ := o
  unfold oV
  have hk : isS (k, a, l) = (k == 8 && l == 10) := rfl
  rw [hk]
  clear hk
  simp only
  cases h1 : (k == 8)
  · go_enter Try.func30, Try.ntmps30
    go_wp2
    go_ret
    exact ⟨rfl, (Below.refl _ _).alloc (Nat.le_refl _) _⟩
  · cases h2 : (l == 10)
    all_goals
      go_enter Try.func30, Try.ntmps30
      go_wp2
      go_ret
      exact ⟨rfl, (Below.refl _ _).alloc (Nat.le_refl _) _⟩

/-- A row of options that is read. -/
def SlO (w : World) (A : Option Addr) (l : List (Int × Int × Int)) : Prop := Sl w A (l.length * 3) (fun j => .int .i64 (lc l j))

theorem fst_drop {l : List (Int × Int × Int)} {k : Nat} (hk : k < l.length) : fst (l.drop k) = if isS l[k] then some l[k] else fst (l.drop (k + 1)) := by
  unfold fst
  rw [List.drop_eq_getElem_cons hk, List.find?_cons]
  cases isS l[k] <;> simp
theorem SlO.cells {w : World} {b off : Nat} {l : List (Int × Int × Int)} (h : SlO w (some ⟨b, off, none⟩) l) {k : Nat} (hk : k < l.length) :
    w.cell? ⟨b, off + k * 3, none⟩ = some (.int .i64 l[k].1) ∧ w.cell? ⟨b, off + k * 3 + 1, none⟩ = some (.int .i64 l[k].2.1) ∧ w.cell? ⟨b, off + k * 3 + 2, none⟩ = some (.int .i64 l[k].2.2) := by
  obtain ⟨e0, e1, e2⟩ := lc_at l k hk
  have h0 := Sl.at_ h (j := k * 3) (by omega)
  have h1 := Sl.at_ h (j := k * 3 + 1) (by omega)
  have h2 := Sl.at_ h (j := k * 3 + 2) (by omega)
  simp only [e0, e1, e2, ← Nat.add_assoc] at h0 h1 h2
  exact ⟨h0, h1, h2⟩

def FirstAt (w : World) (l : List (Int × Int × Int)) (i : Value) (wr : World) : Prop :=
  ∃ k : Nat, k ≤ l.length ∧ i = .int .i64 (k : Int) ∧ fst (l.drop k) = fst l ∧ Below w.heap.size w wr ∧ Ce wr w.heap.size [.int .i64 0, .int .i64 0, .int .i64 0]

set_option maxHeartbeats 2000000 in
theorem first_any {A : Option Addr} {c m : Nat} {l : List (Int × Int × Int)} {w : World} (h : SlO w A l) (hm : m = l.length) (hl : l.length ≤ 1000000) :
    Calls Try.prog 29 #[.slice A m c, .func (Fn.func 30) #[] #[]] w fun e w' => e = .returned (.tuple #[oV ((fst l).getD (0, 0, 0)), .bool (fst l).isSome]) ∧ Below w.heap.size w w' := by
  have HM := hid hm
  rw [← hm] at hl
  clear hm
  go_enter Try.func29, Try.ntmps29
  go_wp2
  go_loopw [11] (fun i wr => FirstAt w l i wr) (fun i _ => m - (intOf i).toNat)
  case atStart => exact ⟨0, Nat.zero_le _, rfl, rfl, (Below.refl _ _).alloc (Nat.le_refl _) _, Ce.made (l := [.int .i64 0, .int .i64 0, .int .i64 0]) rfl⟩
  case round =>
    obtain ⟨k, hk, rfl, hf, hb, hC⟩ := hrel
    rw [← HM.out] at hk
    by_cases hlt : k < m
    · have hkl : k < l.length := by rw [← HM.out]; exact hlt
      obtain ⟨b, off, rfl, hbw, _⟩ := h (by omega)
      obtain ⟨q0, q1, q2⟩ := SlO.cells h hkl
      have hd := fst_drop hkl
      have c0 := (hb.cell (p := ⟨b, off + k * 3, none⟩) hbw).trans q0
      have c1 := (hb.cell (p := ⟨b, off + k * 3 + 1, none⟩) hbw).trans q1
      have c2 := (hb.cell (p := ⟨b, off + k * 3 + 2, none⟩) hbw).trans q2
      obtain ⟨x, y, z, hx⟩ : ∃ x y z : Int, l[k] = (x, y, z) := ⟨_, _, _, rfl⟩
      rw [hx] at c0 c1 c2 hd
      simp only at c0 c1 c2
      have HF := hid hf
      have HB := hid hb
      have HC := hid hC
      have hbr : b < wr.heap.size := Nat.lt_of_lt_of_le hbw hb.size
      have hD := hid hd
      have i1 : (k : Int) < m := by omega
      have IS := isst_any (x, y, z)
      unfold oV at IS
      simp only at IS
      obtain ⟨sv, hsv⟩ : ∃ sv, sv = isS (x, y, z) := ⟨_, rfl⟩
      rw [← hsv] at IS
      have HSV := hid hsv
      replace IS := hid IS
      clear q0 q1 q2 hf hb hC hd h hx hsv
      go_wp2_with fail
      refine (IS.out _).mono ?_
      rintro e w2 ⟨rfl, hb2⟩
      have C7 := (Ce.made (w := wr) (l := [.int .i64 x, .int .i64 y, .int .i64 z]) (T := 42) (g := wr.heap.size) rfl).below hb2
      have C4 := (HC.out.alloc (.cells #[.int .i64 x, .int .i64 y, .int .i64 z] 42)).below hb2
      have HB2 := hid ((HB.out.alloc HB.out.size (.cells #[.int .i64 x, .int .i64 y, .int .i64 z] 42)).trans (hb2.mono (by simp; have := HB.out.size; omega)))
      have H4 := hid C4
      have d0 := C7.2.1 0 _ rfl
      have d1 := C7.2.1 1 _ rfl
      have d2 := C7.2.1 2 _ rfl
      clear hb2 C7 c0 c1 c2 IS HC HB
      have hlt4 := C4.1
      cases sv
      · clear C4
        have HN := hid (hD.out)
        go_wp2
        go_roundw
        case rel => exact ⟨k + 1, by rw [← HM.out]; omega, by go_num, by rw [← HF.out, hD.out, ← HSV.out]; rfl, HB2.out, H4.out⟩
        case measure => simp [intOf]; omega
      · have f4 := C4.2.2
        have e0 := C4.2.1 0 _ rfl
        have e1 := C4.2.1 1 _ rfl
        have e2 := C4.2.1 2 _ rfl
        clear C4
        go_wp2
        refine at_world (fun W => Ce W w.heap.size [.int .i64 x, .int .i64 y, .int .i64 z] ∧ Below w.heap.size w W) ⟨Ce.set3 H4.out, ((HB2.out.setCell (Nat.le_refl _) _).setCell (Nat.le_refl _) _).setCell (Nat.le_refl _) _⟩ ?_
        rintro W ⟨hc, hB⟩
        have g0 := hc.2.1 0 _ rfl
        have g1 := hc.2.1 1 _ rfl
        have g2 := hc.2.1 2 _ rfl
        exact bodyPost_ret (v := .tuple #[.agg #[.int .i64 x, .int .i64 y, .int .i64 z], .bool true]) (by simp [results, Try.results29, go_sem, g0, g1, g2]) rfl ⟨by rw [← HF.out, hD.out, ← HSV.out]; rfl, hB⟩
    · have i1 : ¬ (k : Int) < m := by omega
      have hnone : fst l = none := by rw [← hf, List.drop_of_length_le (by rw [← HM.out]; omega)]; rfl
      have HN := hid hnone
      have HB := hid hb
      have HC := hid hC
      have hlt4 := hC.1
      have f4 := hC.2.2
      have e0 := hC.2.1 0 _ rfl
      have e1 := hC.2.1 1 _ rfl
      have e2 := hC.2.1 2 _ rfl
      clear hb hC hf hnone
      go_wp2
      refine at_world (fun W => Ce W w.heap.size [.int .i64 0, .int .i64 0, .int .i64 0] ∧ Below w.heap.size w W) ⟨Ce.alloc (Ce.set3 HC.out) _, (((HB.out.setCell (Nat.le_refl _) _).setCell (Nat.le_refl _) _).setCell (Nat.le_refl _) _).alloc (by simpa using HB.out.size) _⟩ ?_
      rintro W ⟨hc, hB⟩
      have g0 := hc.2.1 0 _ rfl
      have g1 := hc.2.1 1 _ rfl
      have g2 := hc.2.1 2 _ rfl
      exact bodyPost_ret (v := .tuple #[.agg #[.int .i64 0, .int .i64 0, .int .i64 0], .bool false]) (by simp [results, Try.results29, go_sem, g0, g1, g2]) rfl ⟨by rw [HN.out]; rfl, hB⟩

theorem number_cut (A : Option Addr) (n c : Nat) (g : Nat → Int) (i : Nat) (w : World) (h : By w A n (fun j => g (i + j))) (hg : IsB g) (hn : 4 ≤ n) :
    Calls Try.prog 31 #[.slice A n c] w fun e w' => e = .returned (.int .u32 (num g i)) ∧ ∃ k, w' = w.drewN k :=
  number_any A n c (fun j => g (i + j)) w h (fun j => hg _) hn
theorem rnum_cut (A : Option Addr) (n c : Nat) (g : Nat → Int) (i : Nat) (w : World) (h : By w A n (fun j => g (i + j))) (hg : IsB g) (hn : 4 ≤ n) :
    Calls Try.prog 32 #[.slice A n c] w fun e w' => e = .returned (.int .u32 (num g i)) ∧ ∃ k, w' = w.drewN k :=
  rnum_any A n c (fun j => g (i + j)) w h (fun j => hg _) hn
def StV (s : Int × Int × Int × Bool) : Value := .tuple #[.int .i64 s.1, .int .u32 s.2.1, .int .u32 s.2.2.1, .bool s.2.2.2]

set_option maxHeartbeats 2000000 in
theorem stamp_any (A : Option Addr) (n c : Nat) (g : Nat → Int) (w : World) (h : By w A n g) (hg : IsB g) (hn : n ≤ 1000000) (hc : n ≤ c) :
    Calls Try.prog 18 #[.slice A n c] w fun e w' => e = .returned (StV (stamp g n)) ∧ Below w.heap.size w w' := by
  have W := walk_any A n c g w h hg hn
  have hlen := wl_len g n
  unfold Walked wl we at W
  cases hw : walk g n 0 with
  | none =>
    rw [hw] at W
    simp only [Option.getD_none, Option.isSome_none, List.length_nil, Bool.false_eq_true, if_false] at W
    have HS : Hid (stamp g n = (0, 0, 0, false)) := hid (by unfold stamp; rw [hw]; rfl)
    replace W := hid W
    clear hw hlen
    go_enter Try.func18, Try.ntmps18
    go_wp2_with fail
    refine W.out.mono ?_
    rintro e w1 ⟨A1, c1, rfl, ho, hb⟩
    have HB := hid hb
    clear ho hb
    go_wp2
    refine bodyPost_ret (v := .tuple #[.int .i64 0, .int .u32 0, .int .u32 0, .bool false]) (by simp [results, Try.results18, go_sem]) rfl ⟨by rw [HS.out]; rfl, HB.out⟩
  | some l =>
    rw [hw] at W
    simp only [Option.getD_some, Option.isSome_some, if_true] at W
    have hll : l.length ≤ n := by have e : wl g n = l := by unfold wl; rw [hw]; rfl
                                  rw [e] at hlen; exact hlen
    cases hf : fst l with
    | none =>
      have HS : Hid (stamp g n = (0, 0, 0, false)) := hid (by unfold stamp stS; rw [hw]; simp only; rw [hf])
      replace W := hid W
      have HF := hid hf
      have HL := hid hll
      clear hw hlen hf hll
      go_enter Try.func18, Try.ntmps18
      go_wp2_with fail
      refine W.out.mono ?_
      rintro e w1 ⟨A1, c1, rfl, ho, hb⟩
      have HB := hid hb
      have F := first_any (c := c1) (Ow.sl ho : SlO w1 A1 l) rfl (by have := HL.out; omega)
      rw [HF.out] at F
      simp only [Option.getD_none, Option.isSome_none, oV] at F
      replace F := hid F
      clear ho hb
      go_wp2_with fail
      refine F.out.mono ?_
      rintro e w2 ⟨rfl, hb2⟩
      have HB2 := hid (HB.out.trans (hb2.mono HB.out.size))
      clear hb2
      go_wp2
      refine bodyPost_ret (v := .tuple #[.int .i64 0, .int .u32 0, .int .u32 0, .bool false]) (by simp [results, Try.results18, go_sem]) rfl ⟨by rw [HS.out]; rfl, HB2.out.alloc HB2.out.size _⟩
    | some o =>
      obtain ⟨o1, o2, o3⟩ := fst_is hw hf
      obtain ⟨p, hp⟩ : ∃ p, p = o.2.1.toNat := ⟨_, rfl⟩
      rw [← hp] at o2 o3
      obtain ⟨ok, oa, ol⟩ := o
      simp only at o3 o1 hp
      subst o3
      have HS : Hid (stamp g n = ((p : Int) + 2, num g (p + 2), num g (p + 6), true)) := hid (by unfold stamp stS; rw [hw]; simp only; rw [hf]; simp)
      replace W := hid W
      have HF := hid hf
      have HL := hid hll
      have HY := hid h
      have HG := hid hg
      clear hw hlen hf hll h hg hp
      go_enter Try.func18, Try.ntmps18
      go_wp2_with fail
      refine W.out.mono ?_
      rintro e w1 ⟨A1, c1, rfl, ho, hb⟩
      have HB := hid hb
      have F := first_any (c := c1) (Ow.sl ho : SlO w1 A1 l) rfl (by have := HL.out; omega)
      rw [HF.out] at F
      simp only [Option.getD_some, Option.isSome_some, oV] at F
      replace F := hid F
      clear ho hb
      go_wp2_with fail
      refine F.out.mono ?_
      rintro e w2 ⟨rfl, hb2⟩
      have HB2 := hid ((HB.out.trans (hb2.mono HB.out.size)).alloc (by have := HB.out.size; have := hb2.size; omega) (.cells #[.int .i64 ok, .int .i64 (p : Int), .int .i64 ol] 42))
      clear hb2
      go_wp2_with fail
      generalize w2.alloc (.cells #[.int .i64 ok, .int .i64 (p : Int), .int .i64 ol] 42) = w3 at *
      have hy := HY.out.below HB2.out (Nat.le_refl _)
      obtain ⟨A2, r2, s2⟩ := cut_mid_b A n c (p + 2) (p + 6) (by omega) (by omega) hc ((p : Int) + 2) ((p : Int) + 6) (by omega) (by omega)
      obtain ⟨A3, r3, s3⟩ := cut_mid_b A n c (p + 6) (p + 10) (by omega) (by omega) hc ((p : Int) + 6) ((p : Int) + 10) (by omega) (by omega)
      rw [show p + 6 - (p + 2) = 4 from by omega] at r2 s2
      rw [show p + 10 - (p + 6) = 4 from by omega] at r3 s3
      have S2 := hid (s2 w3 g hy)
      have S3 := hid (s3 w3 g hy)
      have b1 : (0 : Int) ≤ p := by omega
      have b2 : (p : Int) + 10 ≤ n := by omega
      have i4 : IntKind.i64.wrap ((p : Int) + 2 + 4) = (p : Int) + 6 := by rw [IntKind.wrap_i64]; omega
      have i8 : IntKind.i64.wrap ((p : Int) + 2 + 8) = (p : Int) + 10 := by rw [IntKind.wrap_i64]; omega
      have j4 : IntKind.i64.wrap ((p : Int) + 6) = (p : Int) + 6 := by rw [IntKind.wrap_i64]; omega
      have j8 : IntKind.i64.wrap ((p : Int) + 10) = (p : Int) + 10 := by rw [IntKind.wrap_i64]; omega
      clear hy s2 s3 HY HF F W HL o1 o2 hn
      go_quiet ((go_at_call 31; first | exact q0q (number_cut _ _ _ _ _ _ (by first | exact S2.out.drewN _ | exact S3.out.drewN _) HG.out (by omega)) | exact q1q (number_cut _ _ _ _ _ _ (by first | exact S2.out.drewN _ | exact S3.out.drewN _) HG.out (by omega))))
      go_wp2
      refine bodyPost_ret (v := .tuple #[.int .i64 ((p : Int) + 2), .int .u32 (num g (p + 2)), .int .u32 (num g (p + 6)), .bool true]) (by simp [results, Try.results18, go_sem]) rfl ⟨by rw [HS.out]; rfl, below_drewN HB2.out _⟩
end Go.Proofs.Ytdbfpoplhmonhaa
