/- A head as a thing. -/
import Derived.Test.YtomlpkojnipkhaaGreatGa
import Derived.Test.YtomlpkojnipkhaaGreatHdMem
namespace Go.Proofs.YtomlpkojnipkhaaGreat
set_option linter.unusedVariables false
set_option linter.unusedSimpArgs false
open Go.RowKit Go.ChangeShapes Go.WideShapes Go.ChangeAt

def thH (b c m n : Nat) (h : Hd) : Th := ⟨fun w => HeadAt w b c m n h, [b, c, m], fun _ _ h e => h.same (e b (by simp)) (e c (by simp)) (e m (by simp)), fun _ h x hx => by
  simp at hx
  rcases hx with rfl | rfl | rfl
  · exact h.lt
  · exact h.ltc
  · exact h.ltm⟩
theorem HeadAt.nd {w : World} {b c m n : Nat} {h : Hd} (hH : HeadAt w b c m n h) : [b, c, m].Nodup := by
  obtain ⟨_, _, _, n1, n2, n3⟩ := hH
  simp [n1, n2, n3]
theorem HeadAt.hs {w : World} {b c m n : Nat} {h : Hd} (hH : HeadAt w b c m n h) : HS [b, c, m] w w [thH b c m n h] := HS.start1 _ hH hH.nd (fun _ h => h)
theorem HeadAt.chan {w : World} {b c m n : Nat} {h : Hd} (hH : HeadAt w b c m n h) (q : List En) (s r : Nat) : HeadAt (w.setChan c 200 (q.map enV).toArray false s r false) b c m n { h with q := q } := by
  have hlc := hH.ltc
  obtain ⟨hF, _, ⟨M, hM, hMw⟩, n1, n2, n3⟩ := hH
  have ne : ∀ k, k ≠ c → (w.setChan c 200 (q.map enV).toArray false s r false).heap[k]? = w.heap[k]? := fun k hk => by
    simp only [World.setChan]
    rw [Array.getElem?_setIfInBounds_ne (Ne.symm hk)]
  exact ⟨hF.same (ne b n1), ⟨s, r, Go.Conc.heap_setChan _ _ _ _ _ _ _ _ hlc⟩, ⟨M, hM.same (ne m (Ne.symm n3)), hMw⟩, n1, n2, n3⟩
theorem ch_chan (w : World) (c cap : Nat) (buf : Array Value) (cl : Bool) (s r : Nat) (tm : Bool) {S : List Nat} (hc : c ∈ S) : Ch S w (w.setChan c cap buf cl s r tm) :=
  ⟨⟨rfl, rfl, rfl⟩, by rw [Go.Conc.size_setChan]; exact Nat.le_refl _, fun k _ hk => by
    simp only [World.setChan]
    rw [Array.getElem?_setIfInBounds_ne (fun e => hk (by rw [← e]; exact hc))]⟩
theorem HeadAt.setPool {w : World} {b c m n : Nat} {h : Hd} (hH : HeadAt w b c m n h) (q : Pl) : HeadAt (w.setCells b 0 (FL 330 (pc q))) b c m n { h with pl := q } := by
  have hC := (Ch.refl [b] w).sets (c := b) (o := 0) (vs := FL 330 (pc q)) (.inl (by simp))
  obtain ⟨hF, ⟨s, r, hCh⟩, ⟨M, hM, hMw⟩, n1, n2, n3⟩ := hH
  exact ⟨(hF.set 0 330 (pc q) (by omega)).as fun j hj => hd_pool _ _ _ _ _ _ q j hj, ⟨s, r, (hC.2.2 c (chan_lt hCh) (by simp [Ne.symm n1])).trans hCh⟩, ⟨M, hM.same (hC.2.2 m hM.lt (by simp [Ne.symm n2])), hMw⟩, n1, n2, n3⟩
theorem HeadAt.setAhead {w : World} {b c m n : Nat} {h : Hd} (hH : HeadAt w b c m n h) (q : Pl) : HeadAt (w.setCells b 330 (FL 330 (pc q))) b c m n { h with ah := q } := by
  have hC := (Ch.refl [b] w).sets (c := b) (o := 330) (vs := FL 330 (pc q)) (.inl (by simp))
  obtain ⟨hF, ⟨s, r, hCh⟩, ⟨M, hM, hMw⟩, n1, n2, n3⟩ := hH
  exact ⟨(hF.set 330 330 (pc q) (by omega)).as fun j hj => hd_ahead _ _ _ _ _ _ q j hj, ⟨s, r, (hC.2.2 c (chan_lt hCh) (by simp [Ne.symm n1])).trans hCh⟩, ⟨M, hM.same (hC.2.2 m hM.lt (by simp [Ne.symm n2])), hMw⟩, n1, n2, n3⟩
theorem HeadAt.setLast {w : World} {b c m n : Nat} {h : Hd} (hH : HeadAt w b c m n h) (e : En) : HeadAt (w.setCells b 661 (FL 7 (enc e))) b c m n { h with la := e } := by
  have hC := (Ch.refl [b] w).sets (c := b) (o := 661) (vs := FL 7 (enc e)) (.inl (by simp))
  obtain ⟨hF, ⟨s, r, hCh⟩, ⟨M, hM, hMw⟩, n1, n2, n3⟩ := hH
  exact ⟨(hF.set 661 7 (enc e) (by omega)).as fun j hj => hd_last _ _ _ _ _ _ e j hj, ⟨s, r, (hC.2.2 c (chan_lt hCh) (by simp [Ne.symm n1])).trans hCh⟩, ⟨M, hM.same (hC.2.2 m hM.lt (by simp [Ne.symm n2])), hMw⟩, n1, n2, n3⟩
theorem info_en : (Tryz.prog.info? 79).map (·.size) = some 7 := by kernel_rfl
theorem HeadAt.storeL {w : World} {b c m n : Nat} {h : Hd} (hH : HeadAt w b c m n h) (e : En) : (Instr.storeAt 79 (.pointer (some ⟨b, 661, none⟩)) (.agg #[.int .i64 e.k, .int .i64 e.s, .int .i64 e.a, .int .i64 e.p, .int .i64 e.w, .int .u64 e.y.a, .int .u64 e.y.b])).run Tryz.prog w = .ok () (w.setCells b 661 (FL 7 (enc e))) :=
  hH.fb.store 661 7 (enc e) (by omega) info_en (enc_one e)
theorem pa_fa (p : Pl) : Value.agg (PA p) = .agg (FA 330 (pc p)) := rfl
theorem HeadAt.loadF {w : World} {b c m n : Nat} {h : Hd} (hH : HeadAt w b c m n h) : (Instr.loadAt 33 (.pointer (some ⟨b, 0, none⟩))).run Tryz.prog w = .ok (.agg (FA 330 (pc h.pl))) w := hH.loadP
theorem HeadAt.loadG {w : World} {b c m n : Nat} {h : Hd} (hH : HeadAt w b c m n h) : (Instr.loadAt 33 (.pointer (some ⟨b, 330, none⟩))).run Tryz.prog w = .ok (.agg (FA 330 (pc h.ah))) w := hH.loadH
theorem zpl_fa (w : World) : (zeroValue 33).run Tryz.prog w = .ok (.agg (FA 330 (pc zPl))) w := zero_pl w
theorem znt_fa (w : World) : (zeroValue 90).run Tryz.prog w = .ok (.agg (FA 342 (ntc zNt))) w := zero_nt w
theorem info_pl : (Tryz.prog.info? 33).map (·.size) = some 330 := by kernel_rfl
theorem apply_fa (p : Pl) (e : En) (hp : PB p) (w : World) : Calls Tryz.prog 43 #[.agg (FA 330 (pc p)), .agg #[.int .i64 e.k, .int .i64 e.s, .int .i64 e.a, .int .i64 e.p, .int .i64 e.w, .int .u64 e.y.a, .int .u64 e.y.b]] w fun x w' => x = .returned (.tuple #[.agg (FA 330 (pc (apR p e).1)), .int .i64 (apR p e).2]) ∧ Below w.heap.size w w' := apply_any p e hp w
end Go.Proofs.YtomlpkojnipkhaaGreat

