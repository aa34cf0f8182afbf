/- The example's text, written. -/
import Derived.Test.YtljgcffpijjliaaDoorOrdKn
import Derived.BigQuiet
import Derived.Deep.RegionHeld3
import Derived.Deep.Cut
namespace Go.Proofs.YtljgcffpijjliaaDoor
set_option linter.unusedVariables false
set_option linter.unusedSimpArgs false
open Go.RowKit Go.ChangeShapes Go.WideShapes Go.ChangeAt

theorem Ow.one {w : World} {B g : Nat} {T : TypeId} {f : Nat → Value} {v : Value} (hv : f 0 = v) (hg : w.heap.size = g) (hB : B ≤ g) : Ow (w.alloc (.cells #[v] T)) B T 1 (.slice (some ⟨g, 0, none⟩) 1 1) 1 f := by
  subst hg; subst hv
  have := World.ownsRow_lit (size := 1) (e := T) (base := B) w #[f 0] 1 hB (by decide) (by simp)
  unfold Ow
  simpa using this
theorem Ow.ce2 {w : World} {B c : Nat} {T : TypeId} {A : Option Addr} {f : Nat → Value} (h : Ow w B T 1 (.slice A 2 c) 2 f) : ∃ g, A = some ⟨g, 0, none⟩ ∧ 2 ≤ c ∧ Ce w g [f 0, f 1] := by
  obtain ⟨A', c', hv, hcc, _⟩ := Ow.form_ h
  injection hv with _ _ h3
  obtain ⟨g, e, _, hg, hc, hf⟩ := Ow.block_ h (by omega)
  refine ⟨g, e, by omega, hg, fun j v hj => ?_, hf⟩
  rcases j with _ | _ | j
  · rw [hc 0 (by omega)]; simpa using hj
  · rw [hc 1 (by omega)]; simpa using hj
  · simp at hj
theorem join3 (g d : Nat) (w : World) (hd : 2 ≤ d) (h : Ce w g [.string ⟨#[111, 112, 101, 110]⟩, .string ⟨#[51]⟩]) : Calls Tryd.prog 48 #[.slice (some ⟨g, 0, none⟩) 2 d, .string ⟨#[32]⟩] w fun e w' => e = .returned (.string ⟨#[111, 112, 101, 110, 32, 51]⟩) ∧ Below w.heap.size w w' := by
  have := Tryd.strings_Join g 0 d [⟨#[111, 112, 101, 110]⟩, ⟨#[51]⟩] ⟨#[32]⟩ w (fun j x hj => by
    rw [Nat.zero_add]
    refine h.2.1 j _ ?_
    rcases j with _ | _ | j
    · simp at hj; subst hj; rfl
    · simp at hj; subst hj; rfl
    · simp at hj) h.1 (by decide) hd (by decide)
  rw [show (⟨(Lib.join ([⟨#[111, 112, 101, 110]⟩, ⟨#[51]⟩].map (fun (x : ByteArray) => x.data.toList)) (⟨#[32]⟩ : ByteArray).data.toList).toArray⟩ : ByteArray) = ⟨#[111, 112, 101, 110, 32, 51]⟩ from by decide +kernel] at this
  exact this
set_option maxRecDepth 100000 in
set_option maxHeartbeats 4000000 in
theorem text3 (w : World) : Calls Tryd.prog 31 #[.agg #[.int .i64 2, .int .i64 3, .int .i64 0, .int .i64 0, .int .i64 0, .int .u64 0, .int .u64 0]] w fun e w' => e = .returned (.string ⟨#[111, 112, 101, 110, 32, 51]⟩) ∧ Below w.heap.size w w' := by
  have CK := hid (fun w => (show Calls Tryd.prog 37 #[.agg #[.int .i64 2, .int .i64 3, .int .i64 0, .int .i64 0, .int .i64 0, .int .u64 0, .int .u64 0]] w fun x w' => x = .returned (.int .i64 0) ∧ Below w.heap.size w w' from re_i64 (check_any ⟨2, 3, 0, 0, 0, zKy⟩ w) (by decide)))
  have NU := hid (fun w => (show Calls Tryd.prog 46 #[.agg #[.int .i64 2, .int .i64 3, .int .i64 0, .int .i64 0, .int .i64 0, .int .u64 0, .int .u64 0]] w fun e w' => ∃ b : Nat, e = .returned (.slice (some ⟨b, 0, none⟩) 1 1) ∧ Ce w' b [.int .u64 3] ∧ Below w.heap.size w w' from nums2 3 w))
  go_enter Tryd.func31, Tryd.ntmps31
  go_upto_region 1 with (fail)
  have CE := hid (Ce.made (w := w) (l := [.int .i64 2, .int .i64 3, .int .i64 0, .int .i64 0, .int .i64 0, .int .u64 0, .int .u64 0]) (T := 56) (g := w.heap.size) rfl)
  have HB := hid ((Below.refl w.heap.size w).alloc (Nat.le_refl _) (.cells #[.int .i64 2, .int .i64 3, .int .i64 0, .int .i64 0, .int .i64 0, .int .u64 0, .int .u64 0] 56))
  simp only [List.toArray] at CE
  generalize w.alloc (.cells #[.int .i64 2, .int .i64 3, .int .i64 0, .int .i64 0, .int .i64 0, .int .u64 0, .int .u64 0] 56) = w1 at *
  have e0 := CE.out.2.1 0 _ rfl
  have e1 := CE.out.2.1 1 _ rfl
  have e2 := CE.out.2.1 2 _ rfl
  have e3 := CE.out.2.1 3 _ rfl
  have e4 := CE.out.2.1 4 _ rfl
  have e5 := CE.out.2.1 5 _ rfl
  have e6 := CE.out.2.1 6 _ rfl
  have ef := CE.out.2.2
  go_wp2_with fail
  clear e0 e1 e2 e3 e4 e5 e6 ef
  refine (CK.out _).mono ?_
  rintro x w2 ⟨rfl, hb⟩
  have CE2 := hid (CE.out.below hb)
  have HB2 := hid (HB.out.trans (hb.mono HB.out.size))
  clear hb CE HB
  have e0 := CE2.out.2.1 0 _ rfl
  have e1 := CE2.out.2.1 1 _ rfl
  have e2 := CE2.out.2.1 2 _ rfl
  have e3 := CE2.out.2.1 3 _ rfl
  have e4 := CE2.out.2.1 4 _ rfl
  have e5 := CE2.out.2.1 5 _ rfl
  have e6 := CE2.out.2.1 6 _ rfl
  have ef := CE2.out.2.2
  go_wp2_with fail
  refine (word2 _).mono ?_
  rintro x w' ⟨rfl, rfl⟩
  go_upto_region 4 with (fail)
  clear e0 e1 e2 e3 e4 e5 e6 ef
  have l2 := HB2.out.size
  have O3 := hid (Ow.one (w := w2) (B := w.heap.size) (g := w2.heap.size) (T := 9) (f := (fun j => if j = 0 then .string ⟨#[111, 112, 101, 110]⟩ else .string ⟨#[51]⟩)) (v := .string ⟨#[111, 112, 101, 110]⟩) rfl rfl l2)
  have CE3 := hid (CE2.out.alloc (.cells #[.string ⟨#[111, 112, 101, 110]⟩] 9))
  have HB3 := hid (HB2.out.alloc l2 (.cells #[.string ⟨#[111, 112, 101, 110]⟩] 9))
  clear CE2 HB2
  generalize w2.alloc (.cells #[.string ⟨#[111, 112, 101, 110]⟩] 9) = w3 at *
  generalize w2.heap.size = R at *
  have e0 := CE3.out.2.1 0 _ rfl
  have e1 := CE3.out.2.1 1 _ rfl
  have e2 := CE3.out.2.1 2 _ rfl
  have e3 := CE3.out.2.1 3 _ rfl
  have e4 := CE3.out.2.1 4 _ rfl
  have e5 := CE3.out.2.1 5 _ rfl
  have e6 := CE3.out.2.1 6 _ rfl
  have ef := CE3.out.2.2
  go_wp2_with fail
  clear e0 e1 e2 e3 e4 e5 e6 ef
  refine (NU.out _).mono ?_
  rintro x w4 ⟨N, rfl, hn, hb⟩
  have CN4 := hid hn
  have O4 := hid (O3.out.keep hb (Nat.le_refl _))
  have HB4 := hid (HB3.out.trans (hb.mono HB3.out.size))
  clear hn hb CE3 O3 HB3
  go_wp2_with fail
  go_loopw [3, 16] (fun l i wr => ∃ (k : Nat) (A : Option Addr) (d : Nat), k ≤ 1 ∧ l = .slice A (k + 1) d ∧ i = .int .i64 (k : Int) ∧ Ow wr w.heap.size 9 1 (.slice A (k + 1) d) (k + 1) (fun j => if j = 0 then .string ⟨#[111, 112, 101, 110]⟩ else .string ⟨#[51]⟩) ∧ (k = 0 → Ce wr N [.int .u64 3]) ∧ Below w.heap.size w wr) (fun _ i _ => 1 - (intOf i).toNat)
  case atStart => exact ⟨0, _, _, by omega, rfl, rfl, O4.out, fun _ => CN4.out, HB4.out⟩
  case round =>
    clear O4 CN4 HB4
    obtain ⟨k, A, d, hk, rfl, rfl, ho, hn, hbl⟩ := hrel
    have HO := hid ho
    have HN := hid hn
    have HB := hid hbl
    clear ho hn hbl
    have hk2 : k = 0 ∨ k = 1 := by omega
    rcases hk2 with rfl | rfl
    · have n0 := (HN.out rfl).2.1 0 _ rfl
      go_wp2_with fail
      clear n0
      refine (fu3 _).mono ?_
      rintro e w' ⟨rfl, rfl⟩
      have l2 := HB.out.size
      go_wp2_with (at_builtin; refine wp_app_s rfl (.tmp 20) (.tmp 23) rfl w.heap.size _ 1 (fun j => if j = 0 then .string ⟨#[111, 112, 101, 110]⟩ else .string ⟨#[51]⟩) rfl rfl (Ow.alloc HO.out _) wr.heap.size 1 rfl (Ce.made (l := [.string ⟨#[51]⟩]) rfl) (by omega) (by simp; omega) ?_; intro A' d' w5 hown hbel hgr; have HO5 := hid hown; have HB5 := hid ((HB.out.alloc l2 (.cells #[.string ⟨#[51]⟩] 9)).trans hbel); clear hown hbel hgr HO HB)
      go_roundw
      case rel => exact ⟨1, A', d', by omega, rfl, rfl, HO5.out, fun h => absurd h (by decide), HB5.out⟩
      case measure => simp [intOf]
    · obtain ⟨g, rfl, hd2, hce⟩ := Ow.ce2 HO.out
      have HCE := hid hce
      clear hce
      go_wp2_with fail
      refine (join3 g d _ hd2 HCE.out).mono ?_
      rintro x w6 ⟨rfl, hb⟩
      have HB6 := hid (HB.out.trans (hb.mono HB.out.size))
      clear hb
      go_wp2_with fail
      go_ret
      exact ⟨rfl, HB6.out⟩
end Go.Proofs.YtljgcffpijjliaaDoor
