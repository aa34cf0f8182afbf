/- What is built is read as it was. -/
import Derived.Test.YtjljaecjnpmdoaaWirBk
import Derived.BigQuiet
import Derived.Deep.RegionHeld3
import Derived.Deep.Cut
namespace Go.Proofs.Ytjljaecjnpmdoaa
set_option linter.unusedVariables false
set_option linter.unusedSimpArgs false
open Go.RowKit Go.ChangeShapes Go.WideShapes Go.ChangeAt

theorem raw_1 (p : Pk) : rawF p 1 = p.life := by simp [rawF]
theorem raw_12 (p : Pk) : rawF p 12 = p.piece := by simp [rawF]
theorem raw_13 (p : Pk) : rawF p 13 = 0 := by simp [rawF]
theorem raw_len (p : Pk) (h : lenP p ≤ 65535) : num (rawF p) 2 2 = lenP p := num_by2 (by simp [rawF]) (by simp [rawF]) (by omega) (by omega)
theorem raw_src {p : Pk} (h : 0 ≤ p.src) (h' : p.src ≤ 4294967295) : num (rawF p) 4 4 = p.src := num_by4 (by simp [rawF]) (by simp [rawF]) (by simp [rawF]) (by simp [rawF]) h h'
theorem raw_dst {p : Pk} (h : 0 ≤ p.dst) (h' : p.dst ≤ 4294967295) : num (rawF p) 8 4 = p.dst := num_by4 (by simp [rawF]) (by simp [rawF]) (by simp [rawF]) (by simp [rawF]) h h'
theorem raw_body (p : Pk) (j : Nat) : rawF p (16 + j) = bodyF p j := by
  unfold rawF
  rw [if_neg (by omega), if_neg (by omega), if_neg (by omega), if_neg (by omega), if_neg (by omega), if_neg (by omega), if_neg (by omega), show 16 + j - 16 = j from by omega]
theorem built_at {p : Pk} {j : Nat} (h : j < 14 ∨ 16 ≤ j) (h' : j < sumA p.kind ∨ sumA p.kind + 2 ≤ j) : builtF p j = rawF p j := by
  have hk : p.kind = 2 → sumA p.kind = 22 := fun e => by unfold sumA; rw [if_neg (by omega)]
  by_cases k2 : p.kind = 2
  · have := hk k2
    exact built_raw h h' (.inl k2)
  · have hh : hedF p j = rawF p j := putF_out h
    have hs := (sumA_even p.kind).choose_spec
    unfold builtF
    rw [if_neg (fun e => k2 e.1), fillF_3, putF_out h', hh]
    rw [putF_out (by omega)]
    unfold hedF
    rw [putF_out (by omega), raw_0]
    exact k2
theorem built_num {p : Pk} {a n : Nat} (h : a + n ≤ 14 ∨ 16 ≤ a) (h' : a + n ≤ sumA p.kind ∨ sumA p.kind + 2 ≤ a) : num (builtF p) a n = num (rawF p) a n :=
  num_ext fun j h1 h2 => built_at (by omega) (by omega)
theorem kind_of {p : Pk} (hE : buildE p = 0) : p.kind = 1 ∨ p.kind = 2 ∨ p.kind = 3 := by
  have := (buildE_0 hE).1
  unfold isK at this; simp at this; omega
/-- The head that is built is right. -/
theorem built_headE {p : Pk} (hg : IsB p.gd) (ho : IsB p.go) (hE : buildE p = 0) : headE (builtF p) (lenP p) = 0 := by
  obtain ⟨h1, h2, h3, h4, h5, h6⟩ := buildE_0 hE
  have hB := rawF_B hg ho hE
  have hA := (sumA_even p.kind).choose_spec
  have e0 : builtF p 0 = p.kind := by rw [built_hd (by omega), raw_0]
  have e13 : builtF p 13 = 0 := by rw [built_hd (by omega), raw_13]
  have e2 : num (builtF p) 2 2 = lenP p := by rw [built_num (by omega) (by omega), raw_len p (by omega)]
  have et : norm (tot (builtF p) 16) = 65535 := by
    rw [tot_ext (builtF p) (hedF p) 16 (fun j hj => built_hd2 hj)]
    have hb := norm_bd (tot (rawF p) 16)
    have hT := tot_put2 (rawF p) 7 (65535 - norm (tot (rawF p) 16)) (by omega) (by omega) 16 (by omega)
    have hz : num (rawF p) 14 2 = 0 := by rw [num_2]; simp [rawF]
    rw [show 2 * 7 = 14 from rfl, hz] at hT
    have hp := tot_nonneg (hedF p) (hedF_B hg ho hE) 16
    have hne : tot (hedF p) 16 ≠ 0 := tot_pos (hedF_B hg ho hE) (j := 0) (by omega) (by
      show putF (rawF p) 14 2 _ 0 ≠ 0
      rw [putF_out (by omega), raw_0]
      have := kind_of hE
      omega)
    refine (norm_right hp).2 ⟨hne, ?_⟩
    show tot (putF (rawF p) 14 2 (65535 - norm (tot (rawF p) 16))) 16 % 65535 = 0
    rw [hT]
    have := norm_mod (tot (rawF p) 16)
    omega
  have hp : pairF (builtF p) (lenP p) 2 = lenP p := by unfold pairF; rw [if_neg (by omega), e2]
  unfold headE
  rw [if_neg (by omega), if_neg (by rw [e0, h1]; decide), e13, hp, et, if_neg (by simp; omega), if_neg (by decide)]
/-- Rows of bytes told alike. -/
structure Pe (p q : Pk) : Prop where
  kind : p.kind = q.kind
  life : p.life = q.life
  piece : p.piece = q.piece
  src : p.src = q.src
  dst : p.dst = q.dst
  fp : p.fp = q.fp
  tp : p.tp = q.tp
  flags : p.flags = q.flags
  label : p.label = q.label
  bare : p.bare = q.bare
  code : p.code = q.code
  no : p.no = q.no
  go : ∀ j, j < p.no → p.go j = q.go j
  nd : p.nd = q.nd
  gd : ∀ j, j < p.nd → p.gd j = q.gd j
/-- Noughts in the fields that its kind has not. -/
structure Clean (p : Pk) : Prop where
  k3 : p.kind = 3 → p.fp = 0 ∧ p.tp = 0
  k1 : p.kind ≠ 1 → p.flags = 0 ∧ p.no = 0
  k2 : p.kind ≠ 2 → p.label = 0 ∧ p.bare = false
  kc : p.kind ≠ 3 → p.code = 0
theorem built_bare {p : Pk} (hE : buildE p = 0) (hk : p.kind = 2) : num (builtF p) 22 2 = 0 ↔ p.bare = true := by
  have hs : sumA p.kind = 22 := by unfold sumA; rw [if_neg (by omega)]
  have hz : num (hedF p) 22 2 = 0 := by
    unfold hedF
    rw [num_out (by omega), num_2, show 22 = 16 + 6 from rfl, show 16 + 6 + 1 = 16 + 7 from rfl, raw_body, raw_body]
    simp [bodyF, hk]
  constructor
  · intro h
    rcases hb : p.bare with _ | _
    · exfalso
      unfold builtF at h
      rw [if_neg (by rw [hb]; simp), hs] at h
      have hn : 0 ≤ 65535 - norm (tot (sumF (hedF p) (lenP p)) (sumN (hedF p) (lenP p))) ∧ 65535 - norm (tot (sumF (hedF p) (lenP p)) (sumN (hedF p) (lenP p))) ≤ 65535 := by
        have := norm_bd (tot (sumF (hedF p) (lenP p)) (sumN (hedF p) (lenP p)))
        omega
      generalize 65535 - norm (tot (sumF (hedF p) (lenP p)) (sumN (hedF p) (lenP p))) = s at h hn
      have e : num (putF (hedF p) 22 2 s) 22 2 = s := num_put2 (by omega) (by omega)
      unfold fillF at h
      split at h
      · rw [num_put2 (by omega) (by omega)] at h; cases h
      · rename_i hbf
        apply hbf
        unfold bareF
        rw [h, show putF (hedF p) 22 2 s 0 = 2 from by rw [putF_out (by omega)]; unfold hedF; rw [putF_out (by omega), raw_0, hk]]
        rfl
    · rfl
  · intro hb
    unfold builtF
    rw [if_pos ⟨hk, hb⟩, hz]
set_option maxHeartbeats 1000000 in
theorem built_bodyE {p : Pk} (hE : buildE p = 0) : bodyE (builtF p) (lenP p) = 0 := by
  obtain ⟨h1, h2, h3, h4, h5, h6⟩ := buildE_0 hE
  have e0 : builtF p 0 = p.kind := by rw [built_hd (by omega), raw_0]
  unfold rangeB inR at h2
  simp at h2
  have hk := kind_of hE
  unfold bodyE
  rw [e0]
  rcases hk with k | k | k
  · have hs : sumA p.kind = 22 := by unfold sumA; rw [if_neg (by omega)]
    have e20 : builtF p 20 = p.flags := by rw [built_at (by omega) (by omega), show 20 = 16 + 4 from rfl, raw_body]; simp [bodyF, k]
    have e21 : builtF p 21 = p.no := by rw [built_at (by omega) (by omega), show 21 = 16 + 5 from rfl, raw_body]; simp [bodyF, k]
    rw [k] at h2
    simp at h2
    have hl : lenP p = 24 + p.no + p.nd := by unfold lenP; rw [if_neg (by omega), if_neg (by omega)]
    have := h3 k
    rw [if_neg (by omega), if_neg (by omega), if_neg]
    rw [e20, e21]
    omega
  · rw [if_neg (by omega), if_neg (by omega), if_neg (by omega)]
  · have hs : sumA p.kind = 18 := by unfold sumA; rw [if_pos k]
    have e17 : builtF p 17 = 0 := by rw [built_at (by omega) (by omega), show 17 = 16 + 1 from rfl, raw_body]; simp [bodyF, k]
    have hl : lenP p = 20 + p.nd := by unfold lenP; rw [if_pos k]
    have := h4 k
    rw [if_pos k, if_neg (by omega), if_neg (by rw [e17]; simp)]
theorem built_parseE {p : Pk} (hg : IsB p.gd) (ho : IsB p.go) (hE : buildE p = 0) : parseE (builtF p) (lenP p) = 0 := by
  unfold parseE
  rw [built_headE hg ho hE, if_pos rfl, built_bodyE hE]
set_option maxHeartbeats 4000000 in
theorem built_parse {p : Pk} (hg : IsB p.gd) (ho : IsB p.go) (hE : buildE p = 0) (hc : Clean p) : Pe (parseR (builtF p) (lenP p)) p := by
  obtain ⟨h1, h2, h3, h4, h5, h6⟩ := buildE_0 hE
  have e0 : builtF p 0 = p.kind := by rw [built_hd (by omega), raw_0]
  have e1 : builtF p 1 = p.life := by rw [built_hd (by omega), raw_1]
  have e12 : builtF p 12 = p.piece := by rw [built_hd (by omega), raw_12]
  have hA := (sumA_even p.kind).choose_spec
  unfold rangeB inR at h2
  simp at h2
  have es : num (builtF p) 4 4 = p.src := by rw [built_num (by omega) (by omega), raw_src (by omega) (by omega)]
  have ed : num (builtF p) 8 4 = p.dst := by rw [built_num (by omega) (by omega), raw_dst (by omega) (by omega)]
  unfold parseR
  rw [built_parseE hg ho hE, if_pos rfl]
  unfold parseP
  rw [e0]
  rcases kind_of hE with k | k | k
  · have hs : sumA p.kind = 22 := by unfold sumA; rw [if_neg (by omega)]
    have hl : lenP p = 24 + p.no + p.nd := by unfold lenP; rw [if_neg (by omega), if_neg (by omega)]
    have e20 : builtF p 20 = p.flags := by rw [built_at (by omega) (by omega), show 20 = 16 + 4 from rfl, raw_body]; simp [bodyF, k]
    have e21 : builtF p 21 = p.no := by rw [built_at (by omega) (by omega), show 21 = 16 + 5 from rfl, raw_body]; simp [bodyF, k]
    rw [k] at h2
    simp at h2
    have ef : num (builtF p) 16 2 = p.fp := by rw [built_num (by omega) (by omega)]; exact num_by2 (by rw [show 16 = 16 + 0 from rfl, raw_body]; simp [bodyF, k]) (by rw [show 16 + 1 = 16 + 1 from rfl, raw_body]; simp [bodyF, k]) (by omega) (by omega)
    have et : num (builtF p) 18 2 = p.tp := by rw [built_num (by omega) (by omega)]; exact num_by2 (by rw [show 18 = 16 + 2 from rfl, raw_body]; simp [bodyF, k]) (by rw [show 18 + 1 = 16 + 3 from rfl, raw_body]; simp [bodyF, k]) (by omega) (by omega)
    rw [if_neg (by omega), if_neg (by omega)]
    have hn : (builtF p 21).toNat = p.no := by rw [e21]; rfl
    have q2 := hc.k2 (by omega)
    have qc := hc.kc (by omega)
    refine ⟨rfl, e1, e12, es, ed, ef, et, e20, q2.1.symm, q2.2.symm, qc.symm, hn, ?_, by show lenP p - 24 - (builtF p 21).toNat = p.nd; rw [hn]; omega, ?_⟩
    · intro j hj
      show builtF p (24 + j) = p.go j
      replace hj : j < (builtF p 21).toNat := hj
      rw [hn] at hj
      rw [built_at (by omega) (by omega), show 24 + j = 16 + (8 + j) from by omega, raw_body]
      unfold bodyF
      rw [if_neg (by omega), if_neg (by omega), if_neg (by omega), if_neg (by omega), if_neg (by omega), if_neg (by omega), if_neg (by omega), if_pos (by omega), show 8 + j - 8 = j from by omega]
    · intro j hj
      show builtF p (24 + (builtF p 21).toNat + j) = p.gd j
      rw [hn, built_at (by omega) (by omega), show 24 + p.no + j = 16 + (8 + p.no + j) from by omega, raw_body]
      unfold bodyF
      rw [if_neg (by omega), if_neg (by omega), if_neg (by omega), if_neg (by omega), if_neg (by omega), if_neg (by omega), if_neg (by omega), if_neg (by omega), show 8 + p.no + j - 8 - p.no = j from by omega]
  · have hs : sumA p.kind = 22 := by unfold sumA; rw [if_neg (by omega)]
    have hl : lenP p = 24 + p.nd := by unfold lenP; rw [if_neg (by omega), if_pos k]
    rw [k] at h2
    simp at h2
    have ef : num (builtF p) 16 2 = p.fp := by rw [built_num (by omega) (by omega)]; exact num_by2 (by rw [show 16 = 16 + 0 from rfl, raw_body]; simp [bodyF, k]) (by rw [show 16 + 1 = 16 + 1 from rfl, raw_body]; simp [bodyF, k]) (by omega) (by omega)
    have et : num (builtF p) 18 2 = p.tp := by rw [built_num (by omega) (by omega)]; exact num_by2 (by rw [show 18 = 16 + 2 from rfl, raw_body]; simp [bodyF, k]) (by rw [show 18 + 1 = 16 + 3 from rfl, raw_body]; simp [bodyF, k]) (by omega) (by omega)
    have el : num (builtF p) 20 2 = p.label := by rw [built_num (by omega) (by omega)]; exact num_by2 (by rw [show 20 = 16 + 4 from rfl, raw_body]; simp [bodyF, k]) (by rw [show 20 + 1 = 16 + 5 from rfl, raw_body]; simp [bodyF, k]) (by omega) (by omega)
    have hb := built_bare hE k
    rw [if_neg (by omega), if_pos k]
    have q1 := hc.k1 (by omega)
    have qc := hc.kc (by omega)
    refine ⟨rfl, e1, e12, es, ed, ef, et, q1.1.symm, el, ?_, qc.symm, q1.2.symm, fun j hj => absurd hj (by show ¬ j < 0; omega), by show lenP p - 24 = p.nd; omega, ?_⟩
    · show (num (builtF p) 22 2 == 0) = p.bare
      rcases hbb : p.bare with _ | _
      · rw [hbb] at hb; simpa using hb
      · rw [hbb] at hb; simpa using hb
    · intro j hj
      show builtF p (24 + j) = p.gd j
      rw [built_at (by omega) (by omega), show 24 + j = 16 + (8 + j) from by omega, raw_body]
      unfold bodyF
      rw [if_neg (by omega), if_neg (by omega), if_neg (by omega), if_pos k, if_neg (by omega), if_neg (by omega), show 8 + j - 8 = j from by omega]
  · have hs : sumA p.kind = 18 := by unfold sumA; rw [if_pos k]
    have hl : lenP p = 20 + p.nd := by unfold lenP; rw [if_pos k]
    have e16 : builtF p 16 = p.code := by rw [built_at (by omega) (by omega), show 16 = 16 + 0 from rfl, raw_body]; simp [bodyF, k]
    rw [if_pos k]
    have q3 := hc.k3 k
    have q1 := hc.k1 (by omega)
    have q2 := hc.k2 (by omega)
    refine ⟨rfl, e1, e12, es, ed, q3.1.symm, q3.2.symm, q1.1.symm, q2.1.symm, q2.2.symm, e16, q1.2.symm, fun j hj => absurd hj (by show ¬ j < 0; omega), by show lenP p - 20 = p.nd; omega, ?_⟩
    intro j hj
    show builtF p (20 + j) = p.gd j
    rw [built_at (by omega) (by omega), show 20 + j = 16 + (4 + j) from by omega, raw_body]
    unfold bodyF
    rw [if_pos k, if_neg (by omega), if_neg (by omega), show 4 + j - 4 = j from by omega]
/-- The summed row's total, of a row laid over at its sum. -/
theorem sum_put {g : Nat → Int} {n : Nat} (hg : IsB g) (v : Int) (hv : 0 ≤ v) (hv' : v ≤ 65535) (hn : 24 ≤ n) : tot (sumF (putF g (sumA (g 0)) 2 v) n) (sumN (putF g (sumA (g 0)) 2 v) n) = tot (sumF g n) (sumN g n) + v - num g (sumA (g 0)) 2 := by
  have hA := (sumA_even (g 0)).choose_spec
  have e0 : putF g (sumA (g 0)) 2 v 0 = g 0 := putF_out (by omega)
  have eE : endF (putF g (sumA (g 0)) 2 v) n = endF g n := by funext j; unfold endF; rw [e0]
  by_cases k : g 0 = 3
  · have hs : sumA (g 0) = 18 := by unfold sumA; rw [if_pos k]
    have h1 : sumF (putF g (sumA (g 0)) 2 v) n = putF (sumF g n) 6 2 v := by
      funext j
      unfold sumF
      rw [e0, if_pos k, eE, hs, if_pos k]
      unfold putF
      dsimp only
      by_cases c1 : j < 4
      · rw [if_pos c1, if_neg (by omega), if_pos c1]
      · rw [if_neg c1, if_neg c1]
        by_cases c2 : 6 ≤ j ∧ j < 6 + 2
        · rw [if_pos (by omega), if_pos c2, show 18 + 2 - 1 - (12 + j) = 6 + 2 - 1 - j from by omega]
        · rw [if_neg (by omega), if_neg c2]
    have h2 : sumN (putF g (sumA (g 0)) 2 v) n = sumN g n := by unfold sumN; rw [e0]
    rw [h1, h2, tot_put2 (sumF g n) 3 v hv hv' _ (by unfold sumN; rw [if_pos k]; omega), hs, num_2, num_2]
    unfold sumF
    rw [if_pos k]
    simp
  · have hs : sumA (g 0) = 22 := by unfold sumA; rw [if_neg k]
    have h1 : sumF (putF g (sumA (g 0)) 2 v) n = putF (sumF g n) 18 2 v := by
      funext j
      unfold sumF
      rw [e0, if_neg k, eE, hs, if_neg k]
      unfold putF
      dsimp only
      by_cases c1 : j < 8
      · rw [if_pos c1, if_neg (by omega), if_neg (by omega), if_pos c1]
      · rw [if_neg c1, if_neg c1]
        by_cases c3 : j < 12
        · rw [if_pos c3, if_neg (by omega), if_pos c3]
        · rw [if_neg c3, if_neg c3]
          by_cases c2 : 18 ≤ j ∧ j < 18 + 2
          · rw [if_pos (by omega), if_pos c2, show 22 + 2 - 1 - (4 + j) = 18 + 2 - 1 - j from by omega]
          · rw [if_neg (by omega), if_neg c2]
    have h2 : sumN (putF g (sumA (g 0)) 2 v) n = sumN g n := by unfold sumN; rw [e0]
    rw [h1, h2, tot_put2 (sumF g n) 9 v hv hv' _ (by unfold sumN; rw [if_neg k]; omega), hs, num_2, num_2]
    unfold sumF
    rw [if_neg k]
    simp
theorem sum_ne {g : Nat → Int} {n : Nat} (hg : IsB g) (h0 : g 0 ≠ 0) (hn : 24 ≤ n) : tot (sumF g n) (sumN g n) ≠ 0 := by
  by_cases k : g 0 = 3
  · refine tot_pos (sumF_B hg n) (j := 1) (by unfold sumN; rw [if_pos k]; omega) ?_
    unfold sumF; rw [if_pos k]
    simpa [endF] using h0
  · refine tot_pos (sumF_B hg n) (j := 9) (by unfold sumN; rw [if_neg k]; omega) ?_
    unfold sumF; rw [if_neg k]
    simpa [endF] using h0
/-- A row's body is right just if its total is nought, round about. -/
theorem whole_iff {g : Nat → Int} {n : Nat} (hg : IsB g) (h0 : g 0 ≠ 0) (hn : 24 ≤ n) : (norm (tot (sumF g n) (sumN g n)) == 65535) = true ↔ tot (sumF g n) (sumN g n) % 65535 = 0 := by
  have h1 := tot_nonneg (sumF g n) (sumF_B hg n) (sumN g n)
  have h2 := sum_ne hg h0 hn
  rw [beq_iff_eq, norm_right h1]
  exact ⟨fun h => h.2, fun h => ⟨h2, h⟩⟩
theorem fill_sum {g : Nat → Int} {n : Nat} (hg : IsB g) (hn : 24 ≤ n) : tot (sumF (fillF g) n) (sumN (fillF g) n) % 65535 = tot (sumF g n) (sumN g n) % 65535 := by
  unfold fillF
  by_cases hb : bareF g = true
  · rw [if_pos hb]
    unfold bareF at hb
    simp at hb
    have hs : sumA (g 0) = 22 := by unfold sumA; rw [if_neg (by omega)]
    have := sum_put hg (n := n) 65535 (by omega) (by omega) hn
    rw [hs] at this
    rw [this, hb.2]
    omega
  · rw [if_neg hb]
theorem built_whole {p : Pk} (hg : IsB p.gd) (ho : IsB p.go) (hE : buildE p = 0) : wholeB (builtF p) (lenP p) = true := by
  unfold wholeB
  rw [built_parseE hg ho hE]
  obtain ⟨h1, h2, h3, h4, h5, h6⟩ := buildE_0 hE
  have e0 : builtF p 0 = p.kind := by rw [built_hd (by omega), raw_0]
  by_cases hb : p.kind = 2 ∧ p.bare = true
  · have := (built_bare hE hb.1).2 hb.2
    unfold bareF
    rw [e0, this, hb.1]
    rfl
  · have : (norm (tot (sumF (builtF p) (lenP p)) (sumN (builtF p) (lenP p))) == 65535) = true := by
      rw [whole_iff (builtF_B hg ho hE) (by rw [e0]; have := kind_of hE; omega) h6]
      unfold builtF
      rw [if_neg hb]
      have hhB := hedF_B hg ho hE
      have hn := norm_bd (tot (sumF (hedF p) (lenP p)) (sumN (hedF p) (lenP p)))
      have h0 : hedF p 0 = p.kind := by unfold hedF; rw [putF_out (by omega), raw_0]
      have hS := sum_put hhB (n := lenP p) (65535 - norm (tot (sumF (hedF p) (lenP p)) (sumN (hedF p) (lenP p)))) (by omega) (by omega) h6
      rw [h0] at hS
      rw [fill_sum (putF_B hhB _ _ _) h6, hS]
      have hz : num (hedF p) (sumA p.kind) 2 = 0 := by
        have hA := (sumA_even p.kind).choose_spec
        unfold hedF
        rw [num_out (by omega)]
        rcases kind_of hE with k | k | k
        · rw [show sumA p.kind = 22 from by unfold sumA; rw [if_neg (by omega)], num_2, show 22 = 16 + 6 from rfl, show 16 + 6 + 1 = 16 + 7 from rfl, raw_body, raw_body]
          simp [bodyF, k]
        · rw [show sumA p.kind = 22 from by unfold sumA; rw [if_neg (by omega)], num_2, show 22 = 16 + 6 from rfl, show 16 + 6 + 1 = 16 + 7 from rfl, raw_body, raw_body]
          simp [bodyF, k]
        · rw [show sumA p.kind = 18 from by unfold sumA; rw [if_pos (by omega)], num_2, show 18 = 16 + 2 from rfl, show 16 + 2 + 1 = 16 + 3 from rfl, raw_body, raw_body]
          simp [bodyF, k]
      have := norm_mod (tot (sumF (hedF p) (lenP p)) (sumN (hedF p) (lenP p)))
      rw [hz]
      omega
    rw [this]
    simp
end Go.Proofs.Ytjljaecjnpmdoaa
