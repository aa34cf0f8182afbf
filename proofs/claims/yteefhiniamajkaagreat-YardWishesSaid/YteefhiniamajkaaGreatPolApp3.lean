/- Apply. -/
import Derived.Test.YteefhiniamajkaaGreatGq
import Derived.Deep.Cut
import Derived.BigQuiet
import Derived.Deep.RegionHeld3
namespace Go.Proofs.YteefhiniamajkaaGreat
set_option linter.unusedVariables false
set_option linter.unusedSimpArgs false
open Go.RowKit Go.ChangeShapes Go.WideShapes Go.ChangeAt

section
variable {P : Program} {ops : Array Oper} {rest : List Oper} {Q : Exit → Act → World → Prop} {o : Oper} {a : Act} {w : World} {v : Value}
theorem wl_id {l : List Oper} (h : wpList P ops Q l a w) : wpList P ops Q l a w := h
theorem end_then {K : Act → World → Prop} (h : K a w) : wpList P ops (Exit.then K Q) [] a w := h
theorem ret_then {K : Act → World → Prop} (h : Q .ret a w) : Exit.then K Q .ret a w := h
theorem wl_build0 {T : TypeId} (ho : o.op = .build T #[]) (hw : Region.wanted o (yielded ops a.tmps) = true) (hl : (Instr.build T #[]).run P w = .ok v w) (h : wpList P ops Q rest (a.put o.dst v) w) : wpList P ops Q (o :: rest) a w :=
  wl_val hw (by unfold execOp; simp only [ho, List.map_toArray, List.map_nil, Sem.run_bind, hl, Result.andThen_ok, Sem.run_pure]) h
theorem wl_build3 {T : TypeId} {i1 i2 i3 : Nat} {x1 x2 x3 : Operand} {v1 v2 v3 : Value} (ho : o.op = .build T #[(i1, x1), (i2, x2), (i3, x3)]) (hw : Region.wanted o (yielded ops a.tmps) = true) (h1 : a.eval x1 = v1) (h2 : a.eval x2 = v2) (h3 : a.eval x3 = v3) (hl : (Instr.build T #[(i1, v1), (i2, v2), (i3, v3)]).run P w = .ok v w) (h : wpList P ops Q rest (a.put o.dst v) w) : wpList P ops Q (o :: rest) a w :=
  wl_val hw (by unfold execOp; simp only [ho, List.map_toArray, List.map_cons, List.map_nil, h1, h2, h3, Sem.run_bind, hl, Result.andThen_ok, Sem.run_pure]) h
end
/-- Numbers that do not go round. -/
def PB (p : Pl) : Prop := (-1152921504606846976 ≤ p.v ∧ p.v ≤ 1152921504606846976) ∧ Ep p.r.e ∧ ∀ i, i < 64 → -1152921504606846976 ≤ (p.s i).si ∧ (p.s i).si ≤ 1152921504606846976
/-- The pool behind an entry that is done. -/
def nxP (p : Pl) (e : En) : Pl := bif e.k == 6 then ⟨p.v + 1, p.a, p.p, p.s, ⟨p.r.e + 1, p.r.c, p.r.n, e.y⟩⟩ else ⟨p.v + 1, p.a, p.p, setS p.s e.s.toNat (chS p e e.s.toNat), p.r⟩
/-- What Apply tells. -/
def apR (p : Pl) (e : En) : Pl × Int := if chk e = 0 then (if refE p e e.s.toNat = 0 then (nxP p e, 0) else (zPl, refE p e e.s.toNat)) else (zPl, chk e)
theorem inR_iff {n lo hi : Int} (h : inR n lo hi = true) : lo ≤ n ∧ n ≤ hi := by unfold inR at h; simpa using h
theorem chk_ok {e : En} (h : chk e = 0) : 1 ≤ e.k ∧ e.k ≤ 6 ∧ 0 ≤ e.s ∧ e.s ≤ 63 ∧ (e.k = 6 → e.s = 0) := by
  rw [chk_r] at h
  cases i0 : inR e.k 1 6
  · rw [i0] at h; cases h
  · cases i1 : inR e.s 0 63
    · rw [i0, i1] at h; cases h
    · have a := inR_iff i0
      have b := inR_iff i1
      refine ⟨a.1, a.2, b.1, b.2, fun h6 => ?_⟩
      rw [i0, i1, h6] at h
      by_cases hs : e.s = 0
      · exact hs
      · have : (e.s != 0) = true := by simpa using hs
        rw [this] at h
        cases h
section
variable {w : World} {b : Nat} {p : Pl} {l : List Value}
theorem Ce.oth (h : Ce w b l) {c j : Nat} {v : Value} (hne : c ≠ b) : Ce (w.setCell ⟨c, j, none⟩ v) b l :=
  ⟨by simpa using h.1, fun i u hi => by rw [World.cell?_setCell_other _ _ _ _ (fun e => hne (by cases e; rfl))]; exact h.2.1 i u hi, fun i => by rw [World.frozen?_setCell]; exact h.2.2 i⟩
theorem size_setCells (b : Nat) : ∀ (vs : List Value) (o : Nat) (w : World), (w.setCells b o vs).heap.size = w.heap.size
  | [], _, _ => rfl
  | v :: r, o, w => by rw [World.setCells, size_setCells b r (o + 1)]; simp
theorem Ce.oths (h : Ce w b l) {c o : Nat} {vs : List Value} (hne : c ≠ b) : Ce (w.setCells c o vs) b l :=
  ⟨by rw [size_setCells]; exact h.1, fun i u hi => by rw [World.cell?_setCells_out c vs o w _ (fun e _ => absurd e.symm hne)]; exact h.2.1 i u hi, fun i => by rw [World.frozen?_setCells]; exact h.2.2 i⟩
theorem PoolAt.loadV (h : PoolAt w b p) : (loadVar 33 ⟨b, 0, none⟩).run Tryz.prog w = .ok (plV p) w := by
  refine run_loadVar_mid w b 0 33 (PL p) _ (fun j v hj => ?_) Tryz.underlying33 rfl ?_
  · have hl : j < 330 := by
      have := (List.getElem?_eq_some_iff.1 hj).1
      rwa [pl_len] at this
    rw [pl_at p j hl] at hj
    rw [Nat.zero_add, h.2.1 j hl, hj]
  · rw [pl_len]; kernel_rfl
theorem PoolAt.loadA (h : PoolAt w b p) : (Instr.loadAt 33 (.pointer (some ⟨b, 0, none⟩))).run Tryz.prog w = .ok (.agg (PA p)) w := h.load
theorem PoolAt.storeA (h : PoolAt w b p) (q : Pl) : (Instr.storeAt 33 (.pointer (some ⟨b, 0, none⟩)) (.agg (PA q))).run Tryz.prog w = .ok () (w.setCells b 0 (PA q).toList) := h.store q
theorem PoolAt.loadW (h : PoolAt w b p) : (loadVar 33 ⟨b, 0, none⟩).run Tryz.prog w = .ok (.agg (PA p)) w := h.loadV
theorem build_zz (w : World) : (Instr.build 33 #[]).run Tryz.prog w = .ok (.agg (PA zPl)) w := build_z w
/-- A pool that lies in memory is told. -/
theorem results_c1 {fn : Func} {r : Tmp} (h : fn.results = #[.cell r 33]) (tmps : Array Value) (hp : tmps.getD r undef = .pointer (some ⟨b, 0, none⟩)) (hA : PoolAt w b p) : (results fn tmps).run Tryz.prog w = .ok (.agg (PA p)) w := by
  have hp' : tmps[r]?.getD undef = .pointer (some ⟨b, 0, none⟩) := by simpa using hp
  simp [results, h, hp', asAddr, hA.loadW]
theorem results_c2 {fn : Func} {r q : Tmp} (h : fn.results = #[.cell r 33, .tmp q]) (tmps : Array Value) (hp : tmps.getD r undef = .pointer (some ⟨b, 0, none⟩)) {v : Value} (hq : tmps.getD q undef = v) (hA : PoolAt w b p) : (results fn tmps).run Tryz.prog w = .ok (.tuple #[.agg (PA p), v]) w := by
  have hp' : tmps[r]?.getD undef = .pointer (some ⟨b, 0, none⟩) := by simpa using hp
  have hq' : tmps[q]?.getD undef = v := by simpa using hq
  simp [results, h, hp', hq', asAddr, hA.loadW]
theorem results_c3 {fn : Func} {r q u : Tmp} (h : fn.results = #[.cell r 33, .tmp q, .tmp u]) (tmps : Array Value) (hp : tmps.getD r undef = .pointer (some ⟨b, 0, none⟩)) {v x : Value} (hq : tmps.getD q undef = v) (hu : tmps.getD u undef = x) (hA : PoolAt w b p) : (results fn tmps).run Tryz.prog w = .ok (.tuple #[.agg (PA p), v, x]) w := by
  have hp' : tmps[r]?.getD undef = .pointer (some ⟨b, 0, none⟩) := by simpa using hp
  have hq' : tmps[q]?.getD undef = v := by simpa using hq
  have hu' : tmps[u]?.getD undef = x := by simpa using hu
  simp [results, h, hp', hq', hu', asAddr, hA.loadW]
end
attribute [local irreducible] PA
set_option maxRecDepth 100000 in
set_option maxHeartbeats 4000000 in
theorem apply_any (p : Pl) (e : En) (hp : PB p) (w : World) : Calls Tryz.prog 72 #[plV p, enV e] w fun x w' => x = .returned (.tuple #[plV (apR p e).1, .int .i64 (apR p e).2]) ∧ Below w.heap.size w w' := by
  have hz : ∀ w : World, (zeroValue 33).run Tryz.prog w = .ok (.agg (PA zPl)) w := fun w => zero_pl w
  have hz1 := pa_size zPl
  have hz2 := pa_ne zPl
  obtain ⟨k, s, a, q, m, y1, y2⟩ := e
  obtain ⟨c, hc⟩ : ∃ c, c = chk ⟨k, s, a, q, m, ⟨y1, y2⟩⟩ := ⟨_, rfl⟩
  have CK := hid (fun w => re_i64 (check_any ⟨k, s, a, q, m, ⟨y1, y2⟩⟩ w) hc.symm)
  have HC := hid hc
  unfold apR
  rw [← hc]
  clear hc
  simp only
  unfold plV enV
  cases bc : (c != 0)
  · have hc0 : c = 0 := by simpa using bc
    subst hc0
    obtain ⟨hk1, hk2, hs1, hs2, hr0⟩ := chk_ok HC.out.symm
    simp only at hk1 hk2 hs1 hs2 hr0
    obtain ⟨i, rfl⟩ : ∃ i : Nat, s = i := ⟨s.toNat, by omega⟩
    have h64 : i < 64 := by omega
    have i0 : (0 : Int) ≤ i := by omega
    have i1 : (i : Int) < 64 := by omega
    simp only [Int.toNat_natCast]
    obtain ⟨hp1, hp2, hp3⟩ := hp
    obtain ⟨r, hr⟩ : ∃ r, r = refE p ⟨k, (i : Int), a, q, m, ⟨y1, y2⟩⟩ i := ⟨_, rfl⟩
    have RF := hid (fun w => re_i64 (refused_any p ⟨k, (i : Int), a, q, m, ⟨y1, y2⟩⟩ i rfl h64 ⟨hk1, hk2⟩ (hp3 i h64) w) hr.symm)
    rw [← hr]
    clear hr
    have NX := hid (fun w => next_any p.r ⟨y1, y2⟩ hp2 w)
    have qv : IntKind.i64.wrap (p.v + 1) = p.v + 1 := IntWalk.i64_in _ (by omega)
    cases br : (r != 0)
    · have hr0 : r = 0 := by simpa using br
      subst hr0
      clear br
      cases b6 : (k == 6)
      · go_enter Tryz.func72, Tryz.ntmps72
        go_upto_region 1 with (fail)
        have P1 := hid (((PoolAt.made (w := w) (p := p) (T := 33) rfl).alloc (.cells #[.int .i64 k, .int .i64 (i : Int), .int .i64 a, .int .i64 q, .int .i64 m, .int .u64 y1, .int .u64 y2] 44)).alloc (.cells (PA zPl) 33))
        have CX := hid ((Ce.made (w := w.alloc (.cells (PA p) 33)) (l := [.int .i64 k, .int .i64 (i : Int), .int .i64 a, .int .i64 q, .int .i64 m, .int .u64 y1, .int .u64 y2]) (T := 44) (g := w.heap.size + 1) (by simp)).alloc (.cells (PA zPl) 33))
        have R1 := hid (PoolAt.made (w := ((w.alloc (.cells (PA p) 33)).alloc (.cells #[.int .i64 k, .int .i64 (i : Int), .int .i64 a, .int .i64 q, .int .i64 m, .int .u64 y1, .int .u64 y2] 44))) (p := zPl) (T := 33) (g := w.heap.size + 1 + 1) (by simp))
        have HB := hid ((((Below.refl w.heap.size w).alloc (Nat.le_refl _) (.cells (PA p) 33)).alloc (by simp) (.cells #[.int .i64 k, .int .i64 (i : Int), .int .i64 a, .int .i64 q, .int .i64 m, .int .u64 y1, .int .u64 y2] 44)).alloc (by simp; omega) (.cells (PA zPl) 33))
        have lR : w.heap.size ≤ w.heap.size + 1 + 1 := by omega
        have dRP : w.heap.size + 1 + 1 ≠ w.heap.size := by omega
        have dRE : w.heap.size + 1 + 1 ≠ w.heap.size + 1 := by omega
        have dPE : w.heap.size ≠ w.heap.size + 1 := by omega
        have dPR := Ne.symm dRP
        have dER := Ne.symm dRE
        have dEP := Ne.symm dPE
        generalize (((w.alloc (.cells (PA p) 33)).alloc (.cells #[.int .i64 k, .int .i64 (i : Int), .int .i64 a, .int .i64 q, .int .i64 m, .int .u64 y1, .int .u64 y2] 44))).alloc (.cells (PA zPl) 33) = w1 at *
        generalize w.heap.size + 1 + 1 = R at *
        generalize w.heap.size + 1 = E at *
        generalize hK : w.heap.size = P at *
        have HK := hid hK
        clear hK
        have X1 := hid CX.out
        have B1 := hid HB.out
        clear CX HB
        have c0 := X1.out.2.1 0 _ rfl
        have c1 := X1.out.2.1 1 _ rfl
        have c2 := X1.out.2.1 2 _ rfl
        have c3 := X1.out.2.1 3 _ rfl
        have c4 := X1.out.2.1 4 _ rfl
        have c5 := X1.out.2.1 5 _ rfl
        have c6 := X1.out.2.1 6 _ rfl
        go_wp2_with fail
        refine (CK.out _).mono ?_
        rintro x w2 ⟨rfl, hb⟩
        have P2 := hid (P1.out.below hb)
        have X2 := hid (X1.out.below hb)
        have R2 := hid (R1.out.below hb)
        have B2 := hid (B1.out.trans (hb.mono (Nat.le_of_lt P1.out.1)))
        clear hb
        clear c0 c1 c2 c3 c4 c5 c6
        have c0 := X2.out.2.1 0 _ rfl
        have c1 := X2.out.2.1 1 _ rfl
        have c2 := X2.out.2.1 2 _ rfl
        have c3 := X2.out.2.1 3 _ rfl
        have c4 := X2.out.2.1 4 _ rfl
        have c5 := X2.out.2.1 5 _ rfl
        have c6 := X2.out.2.1 6 _ rfl
        have LP := P2.out.loadA
        go_wp2_with ((with_reducible refine wl_id ?_); refine wl_load rfl rfl rfl LP ?_)
        refine (RF.out _).mono ?_
        rintro x w3 ⟨rfl, hb⟩
        have P3 := hid (P2.out.below hb)
        have X3 := hid (X2.out.below hb)
        have R3 := hid (R2.out.below hb)
        have B3 := hid (B2.out.trans (hb.mono (Nat.le_of_lt P2.out.1)))
        clear hb
        clear c0 c1 c2 c3 c4 c5 c6 LP
        have v0 := P3.out.c0
        have f0 := P3.out.2.2 0
        go_upto_region 8 with (fail)
        have P4 := hid (P3.out.ver (p.v + 1))
        have X4 := hid (X3.out.oth (c := P) (j := 0) (v := .int .i64 (p.v + 1)) dPE)
        have R4 := hid (R3.out.other (c := P) (j := 0) (v := .int .i64 (p.v + 1)) dPR)
        have B4 := hid (B3.out.setCell (p := ⟨P, 0, none⟩) (Nat.le_refl _) (.int .i64 (p.v + 1)))
        clear v0 f0 P3 X3 R3 B3
        generalize w3.setCell ⟨P, 0, none⟩ (.int .i64 (p.v + 1)) = w4 at *
        obtain ⟨sl, hsl⟩ : ∃ sl, sl = chS p ⟨k, (i : Int), a, q, m, ⟨y1, y2⟩⟩ i := ⟨_, rfl⟩
        have HSL := hid hsl
        have hk5 : 1 ≤ k ∧ k ≤ 5 := ⟨hk1, by have h66 : k ≠ 6 := (by simpa using b6); omega⟩
        have CH := hid (fun w => re_v (changed_any { p with v := p.v + 1 } ⟨k, (i : Int), a, q, m, ⟨y1, y2⟩⟩ i rfl h64 hk5 w) (show spV (chS { p with v := p.v + 1 } ⟨k, (i : Int), a, q, m, ⟨y1, y2⟩⟩ i) = spV sl from by rw [hsl]; rfl))
        clear hsl hk5
        have c0 := X4.out.2.1 0 _ rfl
        have c1 := X4.out.2.1 1 _ rfl
        go_upto_region 10 with (fail)
        clear c0 c1
        refine wp_region_held_drew (S := fun w' => Ce w' E [.int .i64 k, .int .i64 (i : Int), .int .i64 a, .int .i64 q, .int .i64 m, .int .u64 y1, .int .u64 y2] ∧ PoolAt w' R zPl ∧ Below P w w') (by kernel_rfl) ?_ (fun hHeld => ?_)
        · exact ⟨X4.out, R4.out.drew, B4.out.drew⟩
        refine tkq 0 (by assumption) ?_ (hy := by intro w hSw; (try dsimp only at hSw); obtain ⟨hX, hR, hB⟩ := hSw; have x0 := hX.2.1 0 _ rfl; have x1 := hX.2.1 1 _ rfl; have x2 := hX.2.1 2 _ rfl; have x3 := hX.2.1 3 _ rfl; have x4 := hX.2.1 4 _ rfl; have x5 := hX.2.1 5 _ rfl; have x6 := hX.2.1 6 _ rfl; go_simp; (try with_reducible rfl))
        refine tkq 1 (by assumption) ?_ (hy := by intro w hSw; (try dsimp only at hSw); obtain ⟨hX, hR, hB⟩ := hSw; have x0 := hX.2.1 0 _ rfl; have x1 := hX.2.1 1 _ rfl; have x2 := hX.2.1 2 _ rfl; have x3 := hX.2.1 3 _ rfl; have x4 := hX.2.1 4 _ rfl; have x5 := hX.2.1 5 _ rfl; have x6 := hX.2.1 6 _ rfl; go_simp; (try with_reducible rfl))
        refine tkq 3 (by assumption) ?_ (hy := by intro w hSw; (try dsimp only at hSw); obtain ⟨hX, hR, hB⟩ := hSw; have x0 := hX.2.1 0 _ rfl; have x1 := hX.2.1 1 _ rfl; have x2 := hX.2.1 2 _ rfl; have x3 := hX.2.1 3 _ rfl; have x4 := hX.2.1 4 _ rfl; have x5 := hX.2.1 5 _ rfl; have x6 := hX.2.1 6 _ rfl; go_simp; (try with_reducible rfl))
        refine tkq 5 (by assumption) ?_ (hy := by intro w hSw; (try dsimp only at hSw); obtain ⟨hX, hR, hB⟩ := hSw; have x0 := hX.2.1 0 _ rfl; have x1 := hX.2.1 1 _ rfl; have x2 := hX.2.1 2 _ rfl; have x3 := hX.2.1 3 _ rfl; have x4 := hX.2.1 4 _ rfl; have x5 := hX.2.1 5 _ rfl; have x6 := hX.2.1 6 _ rfl; go_simp; (try with_reducible rfl))
        refine only 2 rfl (by kernel_rfl) rfl (fun K hK => ?_)
        refine ov_val (ex_load rfl rfl P4.out.drew.loadA) ?_
        refine hK.out _ _ hHeld (fun _ => ?_)
        clear hK
        try simp only [Act.put, List.setIfInBounds_toArray, List.set_cons_zero, List.set_cons_succ]
        refine only 4 rfl (by kernel_rfl) rfl (fun K hK => ?_)
        go_simp
        refine (CH.out _).mono ?_
        rintro e' w5 ⟨rfl, hb⟩
        try go_wp2_with fail
        refine hK.out _ _ ⟨hHeld.1.below hb, hHeld.2.1.below hb, hHeld.2.2.trans (hb.mono (Nat.le_of_lt P4.out.1))⟩ (fun hH2 => ?_)
        clear hK
        try simp only [Act.put, List.setIfInBounds_toArray, List.set_cons_zero, List.set_cons_succ]
        have P5 := hid (P4.out.drew.below hb)
        have X5 := hid hH2.1
        have R5 := hid hH2.2.1
        have B5 := hid hH2.2.2
        refine tkq 6 (by assumption) ?_ (hy := by intro w hSw; (try dsimp only at hSw); obtain ⟨hX, hR, hB⟩ := hSw; have x0 := hX.2.1 0 _ rfl; have x1 := hX.2.1 1 _ rfl; have x2 := hX.2.1 2 _ rfl; have x3 := hX.2.1 3 _ rfl; have x4 := hX.2.1 4 _ rfl; have x5 := hX.2.1 5 _ rfl; have x6 := hX.2.1 6 _ rfl; go_simp; (try with_reducible rfl))
        clear hHeld hH2 hb P4 X4 R4 B4
        have SR := hid (P5.out.storeK i h64 sl)
        have P6 := hid (P5.out.slot i h64 sl)
        have X6 := hid (X5.out.oths (c := P) (o := 3 + i * 5) (vs := [.int .i64 sl.st, .int .i64 sl.ad, .int .i64 sl.po, .int .i64 sl.we, .int .i64 sl.si]) dPE)
        have R6 := hid (R5.out.others (c := P) (o := 3 + i * 5) (vs := [.int .i64 sl.st, .int .i64 sl.ad, .int .i64 sl.po, .int .i64 sl.we, .int .i64 sl.si]) dPR)
        have B6 := hid (B5.out.trans (keeps_setCells P [.int .i64 sl.st, .int .i64 sl.ad, .int .i64 sl.po, .int .i64 sl.we, .int .i64 sl.si] (3 + i * 5) w5 P (Nat.le_refl _)))
        refine only 7 rfl (by kernel_rfl) rfl (fun K hK => ?_)
        refine ov_store rfl rfl rfl SR.out ?_
        refine hK.out _ _ ⟨X6.out, R6.out, B6.out⟩ (fun _ => ?_)
        clear hK
        try simp only [Act.put, List.setIfInBounds_toArray, List.set_cons_zero, List.set_cons_succ]
        refine wpAnyH_done (by kernel_rfl) ?_ _
        clear SR P5 X5 R5 B5
        try simp only at P6
        generalize w5.setCells P (3 + i * 5) [.int .i64 sl.st, .int .i64 sl.ad, .int .i64 sl.po, .int .i64 sl.we, .int .i64 sl.si] = w6 at *
        have LP := P6.out.loadA
        have SR := hid (R6.out.storeA ⟨p.v + 1, p.a, p.p, setS p.s i sl, p.r⟩)
        skip
        go_wp2_with (first | ((with_reducible refine wl_id ?_); refine wl_load rfl rfl rfl LP ?_) | ((with_reducible refine wl_id ?_); refine wl_store rfl rfl rfl rfl SR.out ?_; refine wl_val rfl rfl ?_; refine end_then ?_; apply_assumption; refine wp_ret ?_; (repeat refine ret_then ?_); (show bodyPost _ _ _ _ _ _); refine bodyPost_ret (v := .tuple #[.agg (PA ⟨p.v + 1, p.a, p.p, setS p.s i sl, p.r⟩), .int .i64 0]) (results_c2 Tryz.results72 _ rfl rfl (R6.out.whole ⟨p.v + 1, p.a, p.p, setS p.s i sl, p.r⟩)) rfl ⟨by simp only [eq_self, if_true]; unfold nxP; simp only [b6, cond_false, Int.toNat_natCast, ← HSL.out], by rw [HK.out]; exact B6.out.trans (keeps_setCells R (PA ⟨p.v + 1, p.a, p.p, setS p.s i sl, p.r⟩).toList 0 w6 P lR)⟩))
      · go_enter Tryz.func72, Tryz.ntmps72
        go_upto_region 1 with (fail)
        have P1 := hid (((PoolAt.made (w := w) (p := p) (T := 33) rfl).alloc (.cells #[.int .i64 k, .int .i64 (i : Int), .int .i64 a, .int .i64 q, .int .i64 m, .int .u64 y1, .int .u64 y2] 44)).alloc (.cells (PA zPl) 33))
        have CX := hid ((Ce.made (w := w.alloc (.cells (PA p) 33)) (l := [.int .i64 k, .int .i64 (i : Int), .int .i64 a, .int .i64 q, .int .i64 m, .int .u64 y1, .int .u64 y2]) (T := 44) (g := w.heap.size + 1) (by simp)).alloc (.cells (PA zPl) 33))
        have R1 := hid (PoolAt.made (w := ((w.alloc (.cells (PA p) 33)).alloc (.cells #[.int .i64 k, .int .i64 (i : Int), .int .i64 a, .int .i64 q, .int .i64 m, .int .u64 y1, .int .u64 y2] 44))) (p := zPl) (T := 33) (g := w.heap.size + 1 + 1) (by simp))
        have HB := hid ((((Below.refl w.heap.size w).alloc (Nat.le_refl _) (.cells (PA p) 33)).alloc (by simp) (.cells #[.int .i64 k, .int .i64 (i : Int), .int .i64 a, .int .i64 q, .int .i64 m, .int .u64 y1, .int .u64 y2] 44)).alloc (by simp; omega) (.cells (PA zPl) 33))
        have lR : w.heap.size ≤ w.heap.size + 1 + 1 := by omega
        have dRP : w.heap.size + 1 + 1 ≠ w.heap.size := by omega
        have dRE : w.heap.size + 1 + 1 ≠ w.heap.size + 1 := by omega
        have dPE : w.heap.size ≠ w.heap.size + 1 := by omega
        have dPR := Ne.symm dRP
        have dER := Ne.symm dRE
        have dEP := Ne.symm dPE
        generalize (((w.alloc (.cells (PA p) 33)).alloc (.cells #[.int .i64 k, .int .i64 (i : Int), .int .i64 a, .int .i64 q, .int .i64 m, .int .u64 y1, .int .u64 y2] 44))).alloc (.cells (PA zPl) 33) = w1 at *
        generalize w.heap.size + 1 + 1 = R at *
        generalize w.heap.size + 1 = E at *
        generalize hK : w.heap.size = P at *
        have HK := hid hK
        clear hK
        have X1 := hid CX.out
        have B1 := hid HB.out
        clear CX HB
        have c0 := X1.out.2.1 0 _ rfl
        have c1 := X1.out.2.1 1 _ rfl
        have c2 := X1.out.2.1 2 _ rfl
        have c3 := X1.out.2.1 3 _ rfl
        have c4 := X1.out.2.1 4 _ rfl
        have c5 := X1.out.2.1 5 _ rfl
        have c6 := X1.out.2.1 6 _ rfl
        go_wp2_with fail
        refine (CK.out _).mono ?_
        rintro x w2 ⟨rfl, hb⟩
        have P2 := hid (P1.out.below hb)
        have X2 := hid (X1.out.below hb)
        have R2 := hid (R1.out.below hb)
        have B2 := hid (B1.out.trans (hb.mono (Nat.le_of_lt P1.out.1)))
        clear hb
        clear c0 c1 c2 c3 c4 c5 c6
        have c0 := X2.out.2.1 0 _ rfl
        have c1 := X2.out.2.1 1 _ rfl
        have c2 := X2.out.2.1 2 _ rfl
        have c3 := X2.out.2.1 3 _ rfl
        have c4 := X2.out.2.1 4 _ rfl
        have c5 := X2.out.2.1 5 _ rfl
        have c6 := X2.out.2.1 6 _ rfl
        have LP := P2.out.loadA
        go_wp2_with ((with_reducible refine wl_id ?_); refine wl_load rfl rfl rfl LP ?_)
        refine (RF.out _).mono ?_
        rintro x w3 ⟨rfl, hb⟩
        have P3 := hid (P2.out.below hb)
        have X3 := hid (X2.out.below hb)
        have R3 := hid (R2.out.below hb)
        have B3 := hid (B2.out.trans (hb.mono (Nat.le_of_lt P2.out.1)))
        clear hb
        clear c0 c1 c2 c3 c4 c5 c6 LP
        have v0 := P3.out.c0
        have f0 := P3.out.2.2 0
        go_upto_region 8 with (fail)
        have P4 := hid (P3.out.ver (p.v + 1))
        have X4 := hid (X3.out.oth (c := P) (j := 0) (v := .int .i64 (p.v + 1)) dPE)
        have R4 := hid (R3.out.other (c := P) (j := 0) (v := .int .i64 (p.v + 1)) dPR)
        have B4 := hid (B3.out.setCell (p := ⟨P, 0, none⟩) (Nat.le_refl _) (.int .i64 (p.v + 1)))
        clear v0 f0 P3 X3 R3 B3
        generalize w3.setCell ⟨P, 0, none⟩ (.int .i64 (p.v + 1)) = w4 at *
        have c0 := X4.out.2.1 0 _ rfl
        have c5 := X4.out.2.1 5 _ rfl
        have c6 := X4.out.2.1 6 _ rfl
        have LR := P4.out.loadR
        try simp only at LR
        unfold rgV at LR
        go_wp2_with ((with_reducible refine wl_id ?_); refine wl_load rfl rfl rfl LR ?_)
        refine (NX.out _).mono ?_
        rintro x w5 ⟨rfl, hb⟩
        have P5 := hid (P4.out.below hb)
        have X5 := hid (X4.out.below hb)
        have R5 := hid (R4.out.below hb)
        have B5 := hid (B4.out.trans (hb.mono (Nat.le_of_lt P4.out.1)))
        clear hb
        clear c0 c5 c6 LR
        have SR := hid (P5.out.storeR ⟨p.r.e + 1, p.r.c, p.r.n, ⟨y1, y2⟩⟩)
        have P6 := hid (P5.out.ring ⟨p.r.e + 1, p.r.c, p.r.n, ⟨y1, y2⟩⟩)
        have X6 := hid (X5.out.oths (c := P) (o := 323) (vs := [.int .i64 (p.r.e + 1), .int .u64 p.r.c.a, .int .u64 p.r.c.b, .int .u64 p.r.n.a, .int .u64 p.r.n.b, .int .u64 y1, .int .u64 y2]) dPE)
        have R6 := hid (R5.out.others (c := P) (o := 323) (vs := [.int .i64 (p.r.e + 1), .int .u64 p.r.c.a, .int .u64 p.r.c.b, .int .u64 p.r.n.a, .int .u64 p.r.n.b, .int .u64 y1, .int .u64 y2]) dPR)
        have B6 := hid (B5.out.trans (keeps_setCells P [.int .i64 (p.r.e + 1), .int .u64 p.r.c.a, .int .u64 p.r.c.b, .int .u64 p.r.n.a, .int .u64 p.r.n.b, .int .u64 y1, .int .u64 y2] 323 w5 P (Nat.le_refl _)))
        go_upto_region 11 with ((with_reducible refine wl_id ?_); refine wl_store rfl rfl rfl rfl SR.out ?_)
        clear SR P5 X5 R5 B5
        try simp only at P6
        generalize w5.setCells P 323 [.int .i64 (p.r.e + 1), .int .u64 p.r.c.a, .int .u64 p.r.c.b, .int .u64 p.r.n.a, .int .u64 p.r.n.b, .int .u64 y1, .int .u64 y2] = w6 at *
        have LP := P6.out.loadA
        have SR := hid (R6.out.storeA ⟨p.v + 1, p.a, p.p, p.s, ⟨p.r.e + 1, p.r.c, p.r.n, ⟨y1, y2⟩⟩⟩)
        skip
        go_wp2_with (first | ((with_reducible refine wl_id ?_); refine wl_load rfl rfl rfl LP ?_) | ((with_reducible refine wl_id ?_); refine wl_store rfl rfl rfl rfl SR.out ?_; refine wl_val rfl rfl ?_; refine end_then ?_; apply_assumption; refine wp_ret ?_; (repeat refine ret_then ?_); (show bodyPost _ _ _ _ _ _); refine bodyPost_ret (v := .tuple #[.agg (PA ⟨p.v + 1, p.a, p.p, p.s, ⟨p.r.e + 1, p.r.c, p.r.n, ⟨y1, y2⟩⟩⟩), .int .i64 0]) (results_c2 Tryz.results72 _ rfl rfl (R6.out.whole ⟨p.v + 1, p.a, p.p, p.s, ⟨p.r.e + 1, p.r.c, p.r.n, ⟨y1, y2⟩⟩⟩)) rfl ⟨by simp only [eq_self, if_true]; unfold nxP; simp only [b6, cond_true], by rw [HK.out]; exact B6.out.trans (keeps_setCells R (PA ⟨p.v + 1, p.a, p.p, p.s, ⟨p.r.e + 1, p.r.c, p.r.n, ⟨y1, y2⟩⟩⟩).toList 0 w6 P lR)⟩))
    · go_enter Tryz.func72, Tryz.ntmps72
      go_upto_region 1 with (fail)
      have P1 := hid (((PoolAt.made (w := w) (p := p) (T := 33) rfl).alloc (.cells #[.int .i64 k, .int .i64 (i : Int), .int .i64 a, .int .i64 q, .int .i64 m, .int .u64 y1, .int .u64 y2] 44)).alloc (.cells (PA zPl) 33))
      have CX := hid ((Ce.made (w := w.alloc (.cells (PA p) 33)) (l := [.int .i64 k, .int .i64 (i : Int), .int .i64 a, .int .i64 q, .int .i64 m, .int .u64 y1, .int .u64 y2]) (T := 44) (g := w.heap.size + 1) (by simp)).alloc (.cells (PA zPl) 33))
      have R1 := hid (PoolAt.made (w := ((w.alloc (.cells (PA p) 33)).alloc (.cells #[.int .i64 k, .int .i64 (i : Int), .int .i64 a, .int .i64 q, .int .i64 m, .int .u64 y1, .int .u64 y2] 44))) (p := zPl) (T := 33) (g := w.heap.size + 1 + 1) (by simp))
      have HB := hid ((((Below.refl w.heap.size w).alloc (Nat.le_refl _) (.cells (PA p) 33)).alloc (by simp) (.cells #[.int .i64 k, .int .i64 (i : Int), .int .i64 a, .int .i64 q, .int .i64 m, .int .u64 y1, .int .u64 y2] 44)).alloc (by simp; omega) (.cells (PA zPl) 33))
      have lR : w.heap.size ≤ w.heap.size + 1 + 1 := by omega
      have dRP : w.heap.size + 1 + 1 ≠ w.heap.size := by omega
      have dRE : w.heap.size + 1 + 1 ≠ w.heap.size + 1 := by omega
      have dPE : w.heap.size ≠ w.heap.size + 1 := by omega
      have dPR := Ne.symm dRP
      have dER := Ne.symm dRE
      have dEP := Ne.symm dPE
      generalize (((w.alloc (.cells (PA p) 33)).alloc (.cells #[.int .i64 k, .int .i64 (i : Int), .int .i64 a, .int .i64 q, .int .i64 m, .int .u64 y1, .int .u64 y2] 44))).alloc (.cells (PA zPl) 33) = w1 at *
      generalize w.heap.size + 1 + 1 = R at *
      generalize w.heap.size + 1 = E at *
      generalize hK : w.heap.size = P at *
      have HK := hid hK
      clear hK
      have X1 := hid CX.out
      have B1 := hid HB.out
      clear CX HB
      have c0 := X1.out.2.1 0 _ rfl
      have c1 := X1.out.2.1 1 _ rfl
      have c2 := X1.out.2.1 2 _ rfl
      have c3 := X1.out.2.1 3 _ rfl
      have c4 := X1.out.2.1 4 _ rfl
      have c5 := X1.out.2.1 5 _ rfl
      have c6 := X1.out.2.1 6 _ rfl
      go_wp2_with fail
      refine (CK.out _).mono ?_
      rintro x w2 ⟨rfl, hb⟩
      have P2 := hid (P1.out.below hb)
      have X2 := hid (X1.out.below hb)
      have R2 := hid (R1.out.below hb)
      have B2 := hid (B1.out.trans (hb.mono (Nat.le_of_lt P1.out.1)))
      clear hb
      clear c0 c1 c2 c3 c4 c5 c6
      have c0 := X2.out.2.1 0 _ rfl
      have c1 := X2.out.2.1 1 _ rfl
      have c2 := X2.out.2.1 2 _ rfl
      have c3 := X2.out.2.1 3 _ rfl
      have c4 := X2.out.2.1 4 _ rfl
      have c5 := X2.out.2.1 5 _ rfl
      have c6 := X2.out.2.1 6 _ rfl
      have LP := P2.out.loadA
      go_wp2_with ((with_reducible refine wl_id ?_); refine wl_load rfl rfl rfl LP ?_)
      refine (RF.out _).mono ?_
      rintro x w3 ⟨rfl, hb⟩
      have P3 := hid (P2.out.below hb)
      have X3 := hid (X2.out.below hb)
      have R3 := hid (R2.out.below hb)
      have B3 := hid (B2.out.trans (hb.mono (Nat.le_of_lt P2.out.1)))
      clear hb
      clear c0 c1 c2 c3 c4 c5 c6 LP
      have SR := hid (R3.out.storeA zPl)
      go_upto_region 6 with (fail)
      go_wp2_with (first | ((with_reducible refine wl_id ?_); refine wl_build0 rfl rfl (build_zz _) ?_) | ((with_reducible refine wl_id ?_); refine wl_store rfl rfl rfl rfl SR.out ?_; refine wl_val rfl rfl ?_; refine end_then ?_; apply_assumption; refine wp_ret ?_; (repeat refine ret_then ?_); (show bodyPost _ _ _ _ _ _); refine bodyPost_ret (v := .tuple #[.agg (PA zPl), .int .i64 r]) (results_c2 Tryz.results72 _ rfl rfl (R3.out.whole zPl)) rfl ⟨by have hr1 : ¬ r = 0 := (by simpa using br); simp only [eq_self, if_true]; rw [if_neg hr1], by rw [HK.out]; exact B3.out.trans (keeps_setCells R (PA zPl).toList 0 w3 P lR)⟩))
  · go_enter Tryz.func72, Tryz.ntmps72
    go_upto_region 1 with (fail)
    have P1 := hid (((PoolAt.made (w := w) (p := p) (T := 33) rfl).alloc (.cells #[.int .i64 k, .int .i64 s, .int .i64 a, .int .i64 q, .int .i64 m, .int .u64 y1, .int .u64 y2] 44)).alloc (.cells (PA zPl) 33))
    have CX := hid ((Ce.made (w := w.alloc (.cells (PA p) 33)) (l := [.int .i64 k, .int .i64 s, .int .i64 a, .int .i64 q, .int .i64 m, .int .u64 y1, .int .u64 y2]) (T := 44) (g := w.heap.size + 1) (by simp)).alloc (.cells (PA zPl) 33))
    have R1 := hid (PoolAt.made (w := ((w.alloc (.cells (PA p) 33)).alloc (.cells #[.int .i64 k, .int .i64 s, .int .i64 a, .int .i64 q, .int .i64 m, .int .u64 y1, .int .u64 y2] 44))) (p := zPl) (T := 33) (g := w.heap.size + 1 + 1) (by simp))
    have HB := hid ((((Below.refl w.heap.size w).alloc (Nat.le_refl _) (.cells (PA p) 33)).alloc (by simp) (.cells #[.int .i64 k, .int .i64 s, .int .i64 a, .int .i64 q, .int .i64 m, .int .u64 y1, .int .u64 y2] 44)).alloc (by simp; omega) (.cells (PA zPl) 33))
    have lR : w.heap.size ≤ w.heap.size + 1 + 1 := by omega
    have dRP : w.heap.size + 1 + 1 ≠ w.heap.size := by omega
    have dRE : w.heap.size + 1 + 1 ≠ w.heap.size + 1 := by omega
    have dPE : w.heap.size ≠ w.heap.size + 1 := by omega
    have dPR := Ne.symm dRP
    have dER := Ne.symm dRE
    have dEP := Ne.symm dPE
    generalize (((w.alloc (.cells (PA p) 33)).alloc (.cells #[.int .i64 k, .int .i64 s, .int .i64 a, .int .i64 q, .int .i64 m, .int .u64 y1, .int .u64 y2] 44))).alloc (.cells (PA zPl) 33) = w1 at *
    generalize w.heap.size + 1 + 1 = R at *
    generalize w.heap.size + 1 = E at *
    generalize hK : w.heap.size = P at *
    have HK := hid hK
    clear hK
    have X1 := hid CX.out
    have B1 := hid HB.out
    clear CX HB
    have c0 := X1.out.2.1 0 _ rfl
    have c1 := X1.out.2.1 1 _ rfl
    have c2 := X1.out.2.1 2 _ rfl
    have c3 := X1.out.2.1 3 _ rfl
    have c4 := X1.out.2.1 4 _ rfl
    have c5 := X1.out.2.1 5 _ rfl
    have c6 := X1.out.2.1 6 _ rfl
    go_wp2_with fail
    refine (CK.out _).mono ?_
    rintro x w2 ⟨rfl, hb⟩
    have P2 := hid (P1.out.below hb)
    have X2 := hid (X1.out.below hb)
    have R2 := hid (R1.out.below hb)
    have B2 := hid (B1.out.trans (hb.mono (Nat.le_of_lt P1.out.1)))
    clear hb
    clear c0 c1 c2 c3 c4 c5 c6
    have SR := hid (R2.out.storeA zPl)
    go_upto_region 3 with (fail)
    go_wp2_with (first | ((with_reducible refine wl_id ?_); refine wl_build0 rfl rfl (build_zz _) ?_) | ((with_reducible refine wl_id ?_); refine wl_store rfl rfl rfl rfl SR.out ?_; refine wl_val rfl rfl ?_; refine end_then ?_; apply_assumption; refine wp_ret ?_; (repeat refine ret_then ?_); (show bodyPost _ _ _ _ _ _); refine bodyPost_ret (v := .tuple #[.agg (PA zPl), .int .i64 c]) (results_c2 Tryz.results72 _ rfl rfl (R2.out.whole zPl)) rfl ⟨by have hc1 : ¬ c = 0 := (by simpa using bc); rw [if_neg hc1], by rw [HK.out]; exact B2.out.trans (keeps_setCells R (PA zPl).toList 0 w2 P lR)⟩))
end Go.Proofs.YteefhiniamajkaaGreat
