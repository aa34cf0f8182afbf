/- What laws of heads share; the chapter's example, plainly. -/
import Derived.Test.YteefhiniamajkaaGreatHdHear
import Derived.Test.YteefhiniamajkaaGreatHdWish
import Derived.Test.YteefhiniamajkaaGreatHdSend
import Derived.Test.YteefhiniamajkaaGreatPolKnown
import Derived.BigQuiet
import Derived.Deep.RegionHeld3
import Derived.Deep.Cut
import Derived.IntWalk
namespace Go.Proofs.YteefhiniamajkaaGreat
set_option linter.unusedVariables false
set_option linter.unusedSimpArgs false
open Go.RowKit Go.ChangeShapes Go.WideShapes Go.ChangeAt

section
variable {S : List Nat} {W w w' : World} {L A B : List Th} {t t' : Th}
theorem HS.addH {b c m n : Nat} {h : Hd} (hS : HS S W w L) (hH : HeadAt w' b c m n h) (g1 : w.heap.size ≤ b) (g2 : w.heap.size ≤ c) (g3 : w.heap.size ≤ m) (hB : Below w.heap.size w w') : HS S W w' (thH b c m n h :: L) :=
  hS.new (thH b c m n h) hB hH hH.nd (fun x hx => by simp [thH] at hx; rcases hx with rfl | rfl | rfl <;> assumption)
theorem HS.updNew (h : HS S W w (A ++ t :: B)) (t' : Th) (hbs : t'.bs = t.bs) (hc : Ch t.bs w w') (ht : t'.at_ w') {b n : Nat} {f : Nat → Value} (hF : Fb w' b n f) (hb : w.heap.size ≤ b) : HS S W w' (thB b n f :: (A ++ t' :: B)) := by
  have h2 := h.upd t' hbs hc ht
  have hW := h.wsize
  refine ⟨fun x hx => ?_, h2.2.1, ?_, fun x hx => ?_⟩
  · rcases List.mem_cons.1 hx with rfl | hx
    · exact hF
    · exact h2.1 x hx
  · rw [List.flatMap_cons, List.nodup_append]
    refine ⟨by simp [thB], h2.2.2.1, fun a ha x hx e => ?_⟩
    subst e
    simp [thB] at ha
    subst ha
    obtain ⟨y, hy, hya⟩ := List.mem_flatMap.1 hx
    have h3 : ∃ z, z ∈ A ++ t :: B ∧ a ∈ z.bs := by
      rcases List.mem_append.1 hy with hy | hy
      · exact ⟨y, List.mem_append.2 (.inl hy), hya⟩
      · rcases List.mem_cons.1 hy with rfl | hy
        · exact ⟨t, by simp, hbs ▸ hya⟩
        · exact ⟨y, List.mem_append.2 (.inr (List.mem_cons_of_mem _ hy)), hya⟩
    obtain ⟨z, hz, hza⟩ := h3
    have := z.lt w (h.1 z hz) a hza
    omega
  · rw [List.flatMap_cons] at hx
    rcases List.mem_append.1 hx with h1 | h1
    · simp [thB] at h1; subst h1; exact .inr (Nat.le_trans hW hb)
    · exact h2.2.2.2 x h1
end
theorem hnew_fa (p : Pl) (u : Nat) (hu : 1 ≤ u ∧ u ≤ 16) (w : World) : Calls Tryz.prog 26 #[.agg (FA 330 (pc p)), .int .i64 (u : Int)] w (NewOk w p u) := hnew_ok p u hu w
theorem hnew_nf (p : Pl) (u : Int) (hu : u < 1 ∨ 16 < u) (w : World) : Calls Tryz.prog 26 #[.agg (FA 330 (pc p)), .int .i64 u] w fun x w' => x = .returned (.tuple #[.pointer none, .int .i64 14]) ∧ Below w.heap.size w w' := hnew_no p u hu w
theorem pool_fa {w : World} {b c m n : Nat} {h : Hd} (hH : HeadAt w b c m n h) : Calls Tryz.prog 37 #[.pointer (some ⟨b, 0, none⟩)] w fun x w' => x = .returned (.agg (FA 330 (pc h.pl))) ∧ Below w.heap.size w w' := pool_any hH
theorem make_fa (W : World) (A1 : Option Addr) (n1 c1 : Nat) (g1 : Nat → Int) (hr1 : Is W A1 n1 g1) (hl1 : ∀ ad, A1 = some ad → 0 < n1 → ad.block < W.heap.size) (hnm : (n1 : Int) ≤ 9223372036854775807) (m : Nat) (hm : m ≤ 1000) :
    Calls Tryz.prog 5 #[.slice A1 n1 c1, .int .i64 (m : Int)] W fun x w' => x = .returned (.agg (FA 330 (pc (mkP g1 (min n1 m))))) ∧ Below W.heap.size W w' := make_any W A1 n1 c1 g1 hr1 hl1 hnm m hm
theorem rnew_fa (w : World) : Calls Tryz.prog 18 #[.int .i64 10, .int .i64 80, .agg #[.int .u64 0, .int .u64 0], .agg #[.int .u64 0, .int .u64 0]] w fun x w' => x = .returned (.tuple #[.agg (FA 330 (pc ⟨0, 10, 80, fun _ => zSp, ⟨1, zKy, zKy, zKy⟩⟩)), .int .i64 0]) ∧ Below w.heap.size w w' :=
  re_v (rnew_any 10 80 zKy zKy w) (by rw [nwR_in ⟨by omega, by omega⟩ ⟨by omega, by omega⟩]; rfl)
theorem fld_pl (p : Pl) (w : World) : (Instr.field 33 (.agg (FA 330 (pc p))) 0).run Tryz.prog w = .ok (.int .i64 p.v) w := by
  have ai : (isAgg 3).run Tryz.prog w = .ok false w := by kernel_rfl
  have e0 := pa_at p 0 (by omega)
  rw [← pa_fa]
  simp only [Instr.field, run_underlying Tryz.underlying33, asAgg, Sem.run_bind, Sem.run_pure, Result.andThen_ok]
  have := (part_pl p w).1
  simpa using this
theorem send_fa {w : World} {b c m n : Nat} {h : Hd} (hH : HeadAt w b c m n h) (hu : h.un ≤ 16) (hp : PB h.pl) (hv2 : 0 ≤ (sendH h).pl.v ∧ (sendH h).pl.v ≤ 1000000000) (h' : Hd) (l : List Nt) (he : sendH h = h') (hl : notesK h' h.un = l) :
    Calls Tryz.prog 44 #[.pointer (some ⟨b, 0, none⟩)] w fun x w' => ∃ (A : Option Addr) (cc : Nat), x = .returned (.slice A l.length cc) ∧ l.length ≤ cc ∧ HeadAt w' b c m n h' ∧ Ch [b, c, m] w w' ∧ (0 < l.length → ∃ g : Nat, A = some ⟨g, 0, none⟩ ∧ w.heap.size ≤ g ∧ Fb w' g (l.length * 342) (ntf l)) := by
  subst he; subst hl
  exact send_any hH hu hp hv2
theorem heard_fa {w : World} {b c m n : Nat} {h : Hd} (hH : HeadAt w b c m n h) (nt : Nt) (hun : h.un ≤ 16) (hn : n ≤ 1000000) (h' : Hd) (he : heardH h nt = h') : Calls Tryz.prog 68 #[.pointer (some ⟨b, 0, none⟩), .agg (FA 342 (ntc nt))] w fun x w' => x = .returned (.tuple #[]) ∧ HeadAt w' b c m (n + 1) h' ∧ Ch [b, c, m] w w' := by
  subst he
  cases e : earB h nt with
  | true => exact heard_yes hH nt e hun hn
  | false =>
    refine (heard_no hH nt e).mono fun x w' ⟨h1, h2, h3⟩ => ⟨h1, ?_, h3⟩
    have : heardH h nt = h := by unfold heardH; rw [e]; rfl
    rw [this]
    exact h2.mono
theorem nt_k (l : List Nt) (i : Nat) (x : Nt) (hx : l[i]? = some x) (j : Nat) (hj : j < 342) : ntf l (i * 342 + j) = ntc x j := by
  unfold ntf
  rw [show (i * 342 + j) / 342 = i by omega, show (i * 342 + j) % 342 = j by omega]
  simp [List.getD, hx]
theorem Fb.ntk {w : World} {g n : Nat} {l : List Nt} (h : Fb w g n (ntf l)) (i : Nat) (x : Nt) (hx : l[i]? = some x) (hn : i * 342 + 342 ≤ n) (j : Nat) (hj : j < 342) : w.cell? ⟨g, i * 342 + j, none⟩ = some (ntc x j) := by
  rw [h.2.1 _ (by omega), nt_k l i x hx j hj]
theorem build_nt04F (u : Int) (w : World) : (Instr.build 94 #[(0, .int .i64 u), (4, .bool true)]).run Tryz.prog w = .ok (.agg (FA 342 (ntc ⟨u, 0, 0, false, true, zEn, zPl⟩))) w := build_nt04 u w
def kp0 : Pl := ⟨0, 10, 80, fun _ => zSp, ⟨1, zKy, zKy, zKy⟩⟩
def ke0 : En := ⟨1, 0, 1, 2, 1, zKy⟩
def kh0 : Hd := newH kp0 2
def kp1 : Pl := nxP kp0 ke0
def kh1 : Hd := { kh0 with ah := kp1, q := [ke0] }
def kn (u : Int) : Nt := ⟨u, 0, 0, false, true, zEn, zPl⟩
def kh2 : Hd := { kh1 with wd := setW kh1.wd 0 ⟨0, 0⟩ }
def kh3 : Hd := { kh2 with wd := setW kh2.wd 1 ⟨0, 0⟩ }
def kh4 : Hd := { kh3 with pl := kp1, la := ke0, q := [] }
theorem kap : apR kp0 ke0 = (kp1, 0) := by
  have h : (apR kp0 ke0).2 = 0 := by kernel_rfl
  obtain ⟨_, _, h2⟩ := apR_ok h
  exact Prod.ext h2 h
theorem ks0 : sendH kh0 = kh0 := by
  unfold sendH
  rw [show allB kh0 = false by rfl]
  rfl
theorem kn0 : notesK kh0 2 = [⟨0, 0, 0, true, false, zEn, kp0⟩, ⟨1, 0, 0, true, false, zEn, kp0⟩] := rfl
theorem kd2 : heardH kh1 (kn 0) = kh2 := rfl
theorem kd3 : heardH kh2 (kn 1) = kh3 := rfl
theorem ks4 : sendH kh3 = kh4 := by
  unfold sendH
  rw [show allB kh3 = true by rfl]
  show pubH kh3 = kh4
  have : pubH kh3 = if (apR kp0 ke0).2 = 0 then { kh3 with pl := (apR kp0 ke0).1, la := ke0, q := [] } else { kh3 with q := [] } := rfl
  rw [this, kap]
  rfl
theorem kn4 : notesK kh4 2 = [⟨0, 0, 1, false, false, ke0, zPl⟩, ⟨1, 0, 1, false, false, ke0, zPl⟩] := rfl
theorem kpi : Pinv kp0 0 := nwR_inv 10 80 _ _
theorem kall : AllOut kp0 (gl [ke0]) 1 kp1 1 0 := by
  refine ⟨?_, .inl ⟨rfl, rfl⟩⟩
  have h1 : runP kp0 (gl [ke0]) 1 = if (apR kp0 ke0).2 = 0 then some (apR kp0 ke0).1 else none := rfl
  rw [h1, kap]
  rfl
end Go.Proofs.YteefhiniamajkaaGreat
