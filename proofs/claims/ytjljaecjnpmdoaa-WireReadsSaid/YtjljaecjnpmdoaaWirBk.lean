/- What is built. -/
import Derived.Test.YtjljaecjnpmdoaaWirSpec
import Derived.BigQuiet
import Derived.Deep.RegionHeld3
import Derived.Deep.Cut
namespace Go.Proofs.Ytjljaecjnpmdoaa
set_option linter.unusedVariables false
set_option linter.unusedSimpArgs false
open Go.RowKit Go.ChangeShapes Go.WideShapes Go.ChangeAt

theorem putF_lt {g : Nat → Int} {off m j : Nat} {v : Int} (h : j < off) : putF g off m v j = g j := by unfold putF; rw [if_neg (by omega)]
theorem putF_ge {g : Nat → Int} {off m j : Nat} {v : Int} (h : off + m ≤ j) : putF g off m v j = g j := by unfold putF; rw [if_neg (by omega)]
theorem putF_out {g : Nat → Int} {off m j : Nat} {v : Int} (h : j < off ∨ off + m ≤ j) : putF g off m v j = g j := by unfold putF; rw [if_neg (by omega)]
theorem putF_in {g : Nat → Int} {off m j : Nat} {v : Int} (h : off ≤ j) (h' : j < off + m) : putF g off m v j = by8 v (off + m - 1 - j) := by unfold putF; rw [if_pos ⟨h, h'⟩]
theorem num_2 (g : Nat → Int) (a : Nat) : num g a 2 = g a * 256 + g (a + 1) := by simp [num]
theorem num_4 (g : Nat → Int) (a : Nat) : num g a 4 = ((g a * 256 + g (a + 1)) * 256 + g (a + 2)) * 256 + g (a + 3) := by simp [num]
theorem num_1 (g : Nat → Int) (a : Nat) : num g a 1 = g a := by simp [num]
theorem by8_0 (v : Int) : by8 v 0 = v % 256 := by simp [by8]
theorem by8_1 (v : Int) : by8 v 1 = v / 256 % 256 := by simp [by8]
theorem by8_2 (v : Int) : by8 v 2 = v / 65536 % 256 := by simp [by8]
theorem by8_3 (v : Int) : by8 v 3 = v / 16777216 % 256 := by simp [by8]
theorem num_by2 {g : Nat → Int} {a : Nat} {v : Int} (h0 : g a = by8 v 1) (h1 : g (a + 1) = by8 v 0) (hv : 0 ≤ v) (hv' : v ≤ 65535) : num g a 2 = v := by
  rw [num_2, h0, h1, by8_0, by8_1]; omega
theorem num_by4 {g : Nat → Int} {a : Nat} {v : Int} (h0 : g a = by8 v 3) (h1 : g (a + 1) = by8 v 2) (h2 : g (a + 2) = by8 v 1) (h3 : g (a + 3) = by8 v 0) (hv : 0 ≤ v) (hv' : v ≤ 4294967295) : num g a 4 = v := by
  rw [num_4, h0, h1, h2, h3, by8_0, by8_1, by8_2, by8_3]; omega
theorem num_put2 {g : Nat → Int} {a : Nat} {v : Int} (hv : 0 ≤ v) (hv' : v ≤ 65535) : num (putF g a 2 v) a 2 = v :=
  num_by2 (by rw [putF_in (by omega) (by omega), show a + 2 - 1 - a = 1 from by omega]) (by rw [putF_in (by omega) (by omega), show a + 2 - 1 - (a + 1) = 0 from by omega]) hv hv'
theorem num_put4 {g : Nat → Int} {a : Nat} {v : Int} (hv : 0 ≤ v) (hv' : v ≤ 4294967295) : num (putF g a 4 v) a 4 = v :=
  num_by4 (by rw [putF_in (by omega) (by omega), show a + 4 - 1 - a = 3 from by omega]) (by rw [putF_in (by omega) (by omega), show a + 4 - 1 - (a + 1) = 2 from by omega])
    (by rw [putF_in (by omega) (by omega), show a + 4 - 1 - (a + 2) = 1 from by omega]) (by rw [putF_in (by omega) (by omega), show a + 4 - 1 - (a + 3) = 0 from by omega]) hv hv'
theorem num_put1 {g : Nat → Int} {a : Nat} {v : Int} (hv : 0 ≤ v) (hv' : v ≤ 255) : num (putF g a 1 v) a 1 = v := by
  rw [num_1, putF_in (by omega) (by omega), show a + 1 - 1 - a = 0 from by omega, by8_0]; omega
theorem num_out {g : Nat → Int} {off m a n : Nat} {v : Int} (h : a + n ≤ off ∨ off + m ≤ a) : num (putF g off m v) a n = num g a n :=
  num_ext fun j h1 h2 => putF_out (by omega)
theorem fillF_out {g : Nat → Int} {j : Nat} (h : j < 22 ∨ 24 ≤ j) : fillF g j = g j := by
  unfold fillF; split
  · exact putF_out h
  · rfl
theorem fillF_3 {g : Nat → Int} (h : g 0 ≠ 2) : fillF g = g := by
  unfold fillF; rw [if_neg]; unfold bareF; rw [show (g 0 == 2) = false from by simpa using h]; simp
/-- A sum that was left open comes in: what is right is 0 or 65535. -/
theorem norm_right {t : Int} (h : 0 ≤ t) : norm t = 65535 ↔ t ≠ 0 ∧ t % 65535 = 0 := by unfold norm; split <;> omega
theorem norm_mod (t : Int) : norm t % 65535 = t % 65535 := by unfold norm; split <;> omega
/-- A pair laid over at an even place. -/
theorem tot_put2 (g : Nat → Int) (q : Nat) (v : Int) (hv : 0 ≤ v) (hv' : v ≤ 65535) (n : Nat) (h : 2 * q + 2 ≤ n) : tot (putF g (2 * q) 2 v) n = tot g n + v - num g (2 * q) 2 := by
  obtain ⟨r, rfl⟩ : ∃ r, n = 2 * (q + 1) + r := ⟨n - (2 * q + 2), by omega⟩
  rw [tot_split _ (q + 1), tot_split g (q + 1), show 2 * (q + 1) = 2 * q + 2 from by omega, tot_pair, tot_pair]
  rw [tot_ext (fun j => putF g (2 * q) 2 v (2 * q + 2 + j)) (fun j => g (2 * q + 2 + j)) r (fun j _ => putF_ge (by omega)), tot_ext (putF g (2 * q) 2 v) g (2 * q) (fun j hj => putF_lt hj)]
  have h1 := num_put2 (g := g) (a := 2 * q) hv hv'
  rw [num_2] at h1 ⊢
  omega
theorem tot_pos {g : Nat → Int} (hg : IsB g) {n j : Nat} (hj : j < n) (h : g j ≠ 0) : tot g n ≠ 0 := fun e => h ((tot_zero g hg n).1 e j hj)
theorem rawF_B {p : Pk} (hg : IsB p.gd) (ho : IsB p.go) (hE : buildE p = 0) : IsB (rawF p) := by
  have h := hE
  unfold buildE at h
  split at h
  · cases h
  · rename_i h1
    split at h
    · cases h
    · rename_i h2
      split at h
      · cases h
      · rename_i h3
        split at h
        · cases h
        · rename_i h4
          unfold isK at h1
          unfold rangeB inR at h2
          simp at h1 h2
          intro j
          unfold rawF
          split
          · omega
          · split
            · omega
            · split
              · exact by8_bd _ _
              · split
                · exact by8_bd _ _
                · split
                  · exact by8_bd _ _
                  · split
                    · omega
                    · split
                      · omega
                      · unfold bodyF
                        split
                        · split
                          · rename_i h5 _; rw [if_pos h5] at h2; simp at h2; omega
                          · split
                            · omega
                            · exact hg _
                        · rename_i hk3
                          rw [if_neg hk3] at h2
                          split
                          · exact by8_bd _ _
                          · split
                            · exact by8_bd _ _
                            · split
                              · split
                                · exact by8_bd _ _
                                · split
                                  · omega
                                  · exact hg _
                              · rename_i hk2
                                rw [if_neg hk2] at h2
                                simp at h2
                                split
                                · omega
                                · split
                                  · omega
                                  · split
                                    · omega
                                    · split
                                      · exact ho _
                                      · exact hg _
/-- What Build asks of a packet. -/
theorem buildE_0 {p : Pk} (h : buildE p = 0) : isK p.kind = true ∧ rangeB p = true ∧ (p.kind = 1 → p.no ≤ 40) ∧ (p.kind = 3 → 24 ≤ p.nd) ∧ lenP p ≤ 1500 ∧ 24 ≤ lenP p := by
  unfold buildE at h
  split at h
  · cases h
  · split at h
    · cases h
    · split at h
      · cases h
      · split at h
        · cases h
        · rename_i h1 h2 h3 h4
          refine ⟨by simpa using h1, by simpa using h2, fun e => by omega, fun e => by omega, by omega, ?_⟩
          unfold lenP
          split
          · omega
          · split <;> omega
theorem sumA_even (k : Int) : ∃ q, sumA k = 2 * q ∧ 16 ≤ sumA k ∧ sumA k ≤ 22 := by unfold sumA; split; exact ⟨9, rfl, by omega, by omega⟩; exact ⟨11, rfl, by omega, by omega⟩
theorem hedF_B {p : Pk} (hg : IsB p.gd) (ho : IsB p.go) (hE : buildE p = 0) : IsB (hedF p) := putF_B (rawF_B hg ho hE) _ _ _
theorem builtF_B {p : Pk} (hg : IsB p.gd) (ho : IsB p.go) (hE : buildE p = 0) : IsB (builtF p) := by
  unfold builtF; split
  · exact hedF_B hg ho hE
  · exact fillF_B (putF_B (hedF_B hg ho hE) _ _ _)
/-- Away from its sums what is built is what is laid. -/
theorem built_raw {p : Pk} {j : Nat} (h : j < 14 ∨ 16 ≤ j) (h' : j < sumA p.kind ∨ sumA p.kind + 2 ≤ j) (h2 : p.kind = 2 ∨ j < 22 ∨ 24 ≤ j ∨ p.kind = 1 ∨ p.kind = 3) : builtF p j = rawF p j := by
  have hh : hedF p j = rawF p j := putF_out h
  unfold builtF
  split
  · exact hh
  · by_cases k2 : p.kind = 2
    · have : sumA p.kind = 22 := by unfold sumA; rw [if_neg (by omega)]
      rw [fillF_out (by omega), putF_out h', hh]
    · rw [fillF_3, putF_out h', hh]
      have hs := (sumA_even p.kind).choose_spec
      rw [putF_out (by omega)]
      unfold hedF
      rw [putF_out (by omega)]
      show (if (0 : Nat) = 0 then p.kind else _) ≠ 2
      rw [if_pos rfl]
      exact k2
theorem raw_0 (p : Pk) : rawF p 0 = p.kind := by unfold rawF; rw [if_pos rfl]
theorem built_hd {p : Pk} {j : Nat} (h : j < 14) : builtF p j = rawF p j := by
  obtain ⟨q, hq, h1, h2⟩ := sumA_even p.kind
  unfold builtF
  split
  · exact putF_out (by omega)
  · rw [fillF_out (by omega), putF_out (by omega)]
    exact putF_out (by omega)
theorem built_hd2 {p : Pk} {j : Nat} (h : j < 16) : builtF p j = hedF p j := by
  obtain ⟨q, hq, h1, h2⟩ := sumA_even p.kind
  unfold builtF
  split
  · rfl
  · rw [fillF_out (by omega), putF_out (by omega)]
end Go.Proofs.Ytjljaecjnpmdoaa
