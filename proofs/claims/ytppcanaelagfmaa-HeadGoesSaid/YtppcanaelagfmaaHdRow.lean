/- Rows of entries beside things; what Wish tells twice, on both sides. -/
import Derived.Test.YtppcanaelagfmaaHdRef2
import Derived.Test.YtppcanaelagfmaaPolEq
import Derived.BigQuiet
import Derived.Deep.RegionHeld3
import Derived.Deep.Cut
import Derived.IntWalk
namespace Go.Proofs.Ytppcanaelagfmaa
set_option linter.unusedVariables false
set_option linter.unusedSimpArgs false
open Go.RowKit Go.ChangeShapes Go.WideShapes Go.ChangeAt
theorem ex_eqF {o : Oper} {f : Operand → Value} (x y : Operand) (ho : o.op = .binOp .eql 33 x y 33) (p : Pl) (hx : f x = .agg (FA 330 (pc p))) (hy : f y = .agg (FA 330 (pc p))) (w : World) : (execOp f o).run Try.prog w = .ok (.value (.bool true)) w := ex_eql x y ho p hx hy w
theorem ex_neqF {o : Oper} {f : Operand → Value} (x y : Operand) (ho : o.op = .binOp .neq 33 x y 33) (p : Pl) (hx : f x = .agg (FA 330 (pc p))) (hy : f y = .agg (FA 330 (pc p))) (w : World) : (execOp f o).run Try.prog w = .ok (.value (.bool false)) w := ex_neql x y ho p hx hy w
theorem nt_poolC (l : List Nt) (i : Nat) (x : Nt) (hx : l[i]? = some x) (j : Nat) (hj : j < 330) : ntf l (i * 342 + 12 + j) = pc x.p j := by
  rw [Nat.add_assoc, nt_k l i x hx (12 + j) (by omega)]
  unfold ntc
  rw [if_neg (by omega), show 12 + j - 12 = j by omega]
attribute [local irreducible] FA FL
section
variable {S : List Nat} {W w w' : World} {L : List Th}
/-- A change far above all things. -/
theorem HS.belowD {D : Nat} (h : HS S W w L) (hL : ∀ b, b ∈ L.flatMap Th.bs → b < D) (hD : W.heap.size ≤ D) (hb : Below D w w') : HS S W w' L :=
  ⟨fun t ht => t.keep w w' (h.1 t ht) fun b hbb => hb.block b (hL b (List.mem_flatMap.2 ⟨t, ht, hbb⟩)),
    ⟨⟨hb.os.trans h.2.1.1.1, hb.tape.trans h.2.1.1.2.1, hb.output.trans h.2.1.1.2.2⟩, Nat.le_trans h.2.1.2.1 hb.size, fun k hk hs => (hb.block k (by omega)).trans (h.2.1.2.2 k hk hs)⟩, h.2.2⟩
theorem HS.ltD (h : HS S W w L) : ∀ b, b ∈ L.flatMap Th.bs → b < w.heap.size := fun b hb => by
  obtain ⟨t, ht, hbt⟩ := List.mem_flatMap.1 hb
  exact t.lt w (h.1 t ht) b hbt
theorem OwE.addr {D k d : Nat} {A : Option Addr} {g : Nat → En} (h : OwE w D (.slice A k d) k g) : ∀ ad, A = some ad → D ≤ ad.block := fun ad e => by
  obtain ⟨A', c', hv, _, _, hA⟩ := Ow.form_ h
  injection hv with h1 _ _
  obtain ⟨g, e2, hg, _⟩ := hA ad (h1.symm.trans e)
  rw [e2]; exact hg
theorem OwE.as {D k : Nat} {v : Value} {g g' : Nat → En} (h : OwE w D v k g) (hg : ∀ j, j < k → g j = g' j) : OwE w D v k g' := by
  unfold OwE
  refine Ow.as_ h fun j hj => ?_
  rw [hg (j / 7) (by omega)]
end
theorem run_invH {p : Pl} {g : Nat → En} {K : Int} (hp : Pinv p K) : ∀ {k : Nat} {q : Pl}, runP p g k = some q → Pinv q (K + k)
  | 0, q, h => by
    unfold runP at h
    injection h with h
    subst h
    exact hp.mono (by omega)
  | k + 1, q, h => by
    unfold runP at h
    cases h1 : runP p g k with
    | none => rw [h1] at h; cases h
    | some q1 =>
      rw [h1] at h
      simp only at h
      have ih := run_invH hp h1
      by_cases h0 : (apR q1 (g k)).2 = 0
      · rw [if_pos h0] at h
        injection h with h
        rw [← h]
        exact (apR_inv ih h0).mono (by omega)
      · rw [if_neg h0] at h; cases h
theorem run_cong {p : Pl} {g g' : Nat → En} : ∀ {k : Nat}, (∀ j, j < k → g j = g' j) → runP p g k = runP p g' k
  | 0, _ => rfl
  | k + 1, h => by
    unfold runP
    rw [run_cong (k := k) (fun j hj => h j (by omega)), h k (by omega)]
def eM (j : Nat) : En := ⟨6, 0, 0, 0, 0, ⟨j, 0⟩⟩
theorem rot_all (p : Pl) : ∀ m : Nat, ∃ q, runP p eM m = some q
  | 0 => ⟨p, rfl⟩
  | m + 1 => by
    obtain ⟨q, hq⟩ := rot_all p m
    refine ⟨nxP q (eM m), ?_⟩
    unfold runP
    rw [hq]
    simp only
    rw [show apR q (eM m) = (nxP q (eM m), 0) from q_rot _ _, if_pos rfl]
theorem AllOut.all {p q : Pl} {g : Nat → En} {m : Nat} (h : runP p g m = some q) : AllOut p g m q m 0 := ⟨h, .inl ⟨rfl, rfl⟩⟩
/-- What one Wish leaves of what waits. -/
def W1 (p : Pl) (g : Nat → En) (k : Nat) (er : Int) (kk : Nat) (bp : Pl) : Prop := kk ≤ k ∧ Pinv bp 60 ∧ (∃ q j, AllOut p g k q j er) ∧ ((er = 0 ∧ kk = k ∧ runP p g k = some bp) ∨ (er ≠ 0 ∧ kk = 0 ∧ bp = p))
theorem AllOut.run {p q : Pl} {g : Nat → En} {k j : Nat} (h : AllOut p g k q j 0) : runP p g k = some q := by
  rcases h.2 with ⟨e, _⟩ | ⟨_, _, e⟩
  · rw [← e]; exact h.1
  · exact absurd rfl e
section
variable {w : World} {b c m n : Nat} {p bp : Pl} {g : Nat → En} {A : Option Addr} {k kk cc : Nat} {er : Int} {f : Nat → Wd}
theorem wish1 (hp : Pinv p 30) (hH : HeadAt w b c m n ⟨p, p, [], zEn, 3, f⟩) (hA : Se w A k g) (hd : ∀ ad, A = some ad → 0 < k → ad.block ∉ [b, c, m]) (hk : k ≤ 20) :
    Calls Try.prog 18 #[.pointer (some ⟨b, 0, none⟩), .slice A k cc] w fun x w' => ∃ (er : Int) (kk : Nat) (bp : Pl) (Q : List En), x = .returned (.int .i64 er) ∧ W1 p g k er kk bp ∧ Q.length = kk ∧ HeadAt w' b c m n ⟨p, bp, Q, zEn, 3, f⟩ ∧ Ch [b, c, m] w w' := by
  refine (wish_any hH g A k cc hA hd (by show 0 + k ≤ 200; omega) 30 hp (by omega)).mono fun x w' ⟨q, j, er, ho, hx, hH2, hC⟩ => ?_
  by_cases h0 : er = 0
  · rw [if_pos h0] at hH2
    subst h0
    exact ⟨0, k, q, _, hx, ⟨Nat.le_refl _, (run_invH hp ho.run).mono (by omega), ⟨q, j, ho⟩, .inl ⟨rfl, rfl, ho.run⟩⟩, by simp, hH2, hC⟩
  · rw [if_neg h0] at hH2
    exact ⟨er, 0, p, [], hx, ⟨Nat.zero_le _, hp.mono (by omega), ⟨q, j, ho⟩, .inr ⟨h0, rfl, rfl⟩⟩, rfl, hH2, hC⟩
theorem comb_0 (g0 g1 : Nat → En) : comb 0 g0 g1 = g1 := by
  funext j
  unfold comb
  rw [if_neg (by omega), Nat.sub_zero]
theorem rwish1 (hp : Pinv p 30) {v : Value} (hF : Fb w b 340 (rhc p (.slice none 0 0) zEn false v)) (hA : Se w A k g) (hk : k ≤ 20) (hW : W1 p g k er kk bp) :
    Calls Try.prog 20 #[.pointer (some ⟨b, 0, none⟩), .slice A k cc] w fun x w' => x = .returned (.int .i64 er) ∧ ∃ A' c', Fb w' b 340 (rhc p (.slice A' kk c') zEn false v) ∧ Se w' A' kk g ∧ Ch [b] w w' := by
  refine (rhwish_any p none 0 0 g zEn false v A k cc g b w hF (Sl.nil _ _ _) hA (by omega) (by omega) (by omega) 30 hp (by omega)).mono fun x w' ⟨q, j, e, hx, ho, h⟩ => ?_
  rw [comb_0, Nat.zero_add] at ho
  obtain ⟨_, hiP, ⟨q2, j2, h2⟩, h3⟩ := hW
  obtain ⟨_, _, rfl⟩ := ho.uniq h2
  refine ⟨hx, ?_⟩
  rcases h with ⟨hne, hb⟩ | ⟨he, A', c', hF2, hS2, hC⟩
  · rcases h3 with ⟨h4, _⟩ | ⟨_, rfl, _⟩
    · exact absurd h4 hne
    · exact ⟨none, 0, hF.below hb, Sl.nil _ _ _, .of_below hb⟩
  · rcases h3 with ⟨_, rfl, _⟩ | ⟨h4, _⟩
    · rw [comb_0, Nat.zero_add] at hS2
      rw [Nat.zero_add] at hF2
      exact ⟨A', c', hF2, hS2, hC⟩
    · exact absurd he h4
def E2 (kk mm : Nat) : Int := if kk + mm ≤ 200 then 0 else 14
def K2 (kk mm : Nat) : Nat := if kk + mm ≤ 200 then kk + mm else kk
theorem wish2 {Q : List En} {mm : Nat} (hp : Pinv bp 60) (hH : HeadAt w b c m n ⟨p, bp, Q, zEn, 3, f⟩) (hQ : Q.length = kk) (hkk : kk ≤ 20) (hA : Se w A mm eM) (hd : ∀ ad, A = some ad → 0 < mm → ad.block ∉ [b, c, m]) (hm : mm ≤ 210) :
    Calls Try.prog 18 #[.pointer (some ⟨b, 0, none⟩), .slice A mm cc] w fun x w' => x = .returned (.int .i64 (E2 kk mm)) ∧ ∃ (bp2 : Pl) (Q2 : List En), Q2.length = K2 kk mm ∧ HeadAt w' b c m n ⟨p, bp2, Q2, zEn, 3, f⟩ ∧ Ch [b, c, m] w w' := by
  unfold E2 K2
  by_cases h : kk + mm ≤ 200
  · rw [if_pos h, if_pos h]
    refine (wish_any hH eM A mm cc hA hd (by show Q.length + mm ≤ 200; omega) 60 hp (by omega)).mono fun x w' ⟨q, j, er, ho, hx, hH2, hC⟩ => ?_
    obtain ⟨q2, h2⟩ := rot_all bp mm
    obtain ⟨_, _, rfl⟩ := ho.uniq (.all h2)
    rw [if_pos rfl] at hH2
    exact ⟨hx, q, _, by simp [hQ], hH2, hC⟩
  · rw [if_neg h, if_neg h]
    refine (wish_no hH eM A mm cc (by omega) hA (by show Q.length ≤ 200; omega) (by show 200 < Q.length + mm; omega)).mono fun x w' ⟨hx, e⟩ => ?_
    subst e
    exact ⟨hx, bp, Q, hQ, hH, Ch.refl _ _⟩
theorem W1.two (hW : W1 p g k er kk bp) (mm : Nat) : ∃ q, runP p (comb kk g eM) (kk + mm) = some q := by
  obtain ⟨q2, h2⟩ := rot_all bp mm
  have h1 : runP p (comb kk g eM) kk = some bp := by
    rcases hW.2.2.2 with ⟨_, rfl, h⟩ | ⟨_, rfl, rfl⟩
    · rw [← h]
      exact run_cong fun j hj => by unfold comb; rw [if_pos hj]
    · rfl
  refine ⟨q2, ?_⟩
  rw [runP_add h1, ← h2]
  exact run_cong fun j _ => by unfold comb; rw [if_neg (by omega), show kk + j - kk = j by omega]
theorem rwish2 {v : Value} {A0 : Option Addr} {c0 mm : Nat} (hp : Pinv p 30) (hF : Fb w b 340 (rhc p (.slice A0 kk c0) zEn false v)) (h0 : Se w A0 kk g) (hA : Se w A mm eM) (hk : k ≤ 20) (hm : mm ≤ 210) (hW : W1 p g k er kk bp) :
    Calls Try.prog 20 #[.pointer (some ⟨b, 0, none⟩), .slice A mm cc] w fun x w' => x = .returned (.int .i64 (E2 kk mm)) ∧ ∃ A' c', Fb w' b 340 (rhc p (.slice A' (K2 kk mm) c') zEn false v) ∧ Ch [b] w w' := by
  have hkk := hW.1
  unfold E2 K2
  by_cases h : kk + mm ≤ 200
  · rw [if_pos h, if_pos h]
    refine (rhwish_any p A0 kk c0 g zEn false v A mm cc eM b w hF h0 hA (by omega) (by omega) h 30 hp (by omega)).mono fun x w' ⟨q, j, e, hx, ho, h⟩ => ?_
    obtain ⟨q2, h2⟩ := hW.two mm
    obtain ⟨_, _, rfl⟩ := ho.uniq (.all h2)
    refine ⟨hx, ?_⟩
    rcases h with ⟨hne, _⟩ | ⟨_, A', c', hF2, _, hC⟩
    · exact absurd rfl hne
    · exact ⟨A', c', hF2, hC⟩
  · rw [if_neg h, if_neg h]
    exact (rhwish_no p A0 kk c0 g zEn false v A mm cc eM b w hF h0 hA (by omega) (by omega) (by omega)).mono fun x w' ⟨hx, hb⟩ => ⟨hx, A0, c0, hF.below hb, .of_below hb⟩
end
/-- New with whatever number of units, on both sides. -/
theorem news (p : Pl) (u : Int) : ∃ e : Int, (∀ w, Calls Try.prog 14 #[.agg (FA 330 (pc p)), .int .i64 u] w fun x w' => ∃ A : Option Addr, x = .returned (.tuple #[.pointer A, .int .i64 e]) ∧ ((A = none ∧ e = 14) ∨ (∃ b : Nat, A = some ⟨b, 0, none⟩) ∧ e = 0) ∧ Below w.heap.size w w') ∧
    (∀ w, Calls Try.prog 15 #[.agg (FA 330 (pc p)), .int .i64 u] w fun x w' => ∃ A : Option Addr, x = .returned (.tuple #[.pointer A, .int .i64 e]) ∧ Below w.heap.size w w') := by
  by_cases hu : 1 ≤ u ∧ u ≤ 16
  · obtain ⟨n, rfl⟩ : ∃ n : Nat, (n : Int) = u := ⟨u.toNat, by omega⟩
    refine ⟨0, fun w => (hnew_fa p n ⟨by omega, by omega⟩ w).mono fun x w' ⟨b, c, m, hx, _, _, _, _, hb⟩ => ⟨some ⟨b, 0, none⟩, hx, .inr ⟨⟨b, rfl⟩, rfl⟩, hb⟩, fun w => (rhnew_ok p n ⟨by omega, by omega⟩ w).mono fun x w' ⟨b, v, hx, _, _, hb⟩ => ⟨some ⟨b, 0, none⟩, hx, hb⟩⟩
  · refine ⟨14, fun w => (hnew_nf p u (by omega) w).mono fun x w' ⟨hx, hb⟩ => ⟨none, hx, .inl ⟨rfl, rfl⟩, hb⟩, fun w => (rhnew_no p u (by omega) w).mono fun x w' ⟨hx, hb⟩ => ⟨none, hx, hb⟩⟩
end Go.Proofs.Ytppcanaelagfmaa
