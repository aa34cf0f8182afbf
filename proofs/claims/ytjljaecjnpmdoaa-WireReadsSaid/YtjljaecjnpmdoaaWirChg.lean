/- What changes keep. -/
import Derived.Test.YtjljaecjnpmdoaaWirBk2
import Derived.BigQuiet
import Derived.Deep.RegionHeld3
import Derived.Deep.Cut
namespace Go.Proofs.Ytjljaecjnpmdoaa
set_option linter.unusedVariables false
set_option linter.unusedSimpArgs false
open Go.RowKit Go.ChangeShapes Go.WideShapes Go.ChangeAt

/-- Differences of pairs, from the a-th on. -/
def dS (d : Nat → Int) : Nat → Nat → Int
  | _, 0 => 0
  | a, k + 1 => d a + dS d (a + 1) k
theorem dS_add (d : Nat → Int) : ∀ (k a l : Nat), dS d a (k + l) = dS d a k + dS d (a + k) l
  | 0, a, l => by simp [dS]
  | k + 1, a, l => by
    rw [show k + 1 + l = (k + l) + 1 from by omega]
    show d a + dS d (a + 1) (k + l) = d a + dS d (a + 1) k + dS d (a + (k + 1)) l
    rw [dS_add d k (a + 1) l, show a + 1 + k = a + (k + 1) from by omega]
    omega
theorem dS_zero {d : Nat → Int} : ∀ (k a : Nat), (∀ q, a ≤ q → q < a + k → d q = 0) → dS d a k = 0
  | 0, a, _ => rfl
  | k + 1, a, h => by
    show d a + dS d (a + 1) k = 0
    rw [h a (by omega) (by omega), dS_zero k (a + 1) (fun q h1 h2 => h q (by omega) (by omega))]
    rfl
theorem dS_ext {d d' : Nat → Int} : ∀ (k a : Nat), (∀ q, a ≤ q → q < a + k → d q = d' q) → dS d a k = dS d' a k
  | 0, a, _ => rfl
  | k + 1, a, h => by
    show d a + dS d (a + 1) k = d' a + dS d' (a + 1) k
    rw [h a (by omega) (by omega), dS_ext k (a + 1) (fun q h1 h2 => h q (by omega) (by omega))]
def dP (g x : Nat → Int) (L : Nat) : Nat → Int := fun q => pairF x L (2 * q) - pairF g L (2 * q)
theorem pairF_ext {x y : Nat → Int} {L a : Nat} (h0 : x a = y a) (h1 : a + 1 < L → x (a + 1) = y (a + 1)) (ha : a < L) : pairF x L a = pairF y L a := by
  unfold pairF
  split
  · rw [h0]
  · rw [num_2, num_2, h0, h1 (by omega)]
theorem tot_dS (g x : Nat → Int) (L : Nat) : ∀ n, 2 * n ≤ L + 1 → tot x (min (2 * n) L) - tot g (min (2 * n) L) = dS (dP g x L) 0 n
  | 0, _ => by simp [tot, dS]
  | n + 1, h => by
    rw [dS_add _ n 0 1, ← tot_dS g x L n (by omega), show min (2 * n) L = 2 * n from by omega]
    show _ = _ + (dP g x L (0 + n) + 0)
    rw [Nat.zero_add]
    unfold dP pairF
    by_cases e : 2 * n + 1 = L
    · rw [if_pos e, if_pos e, show min (2 * (n + 1)) L = 2 * n + 1 from by omega, tot_last, tot_last]
      omega
    · rw [if_neg e, if_neg e, show min (2 * (n + 1)) L = 2 * n + 2 from by omega, tot_pair, tot_pair, num_2, num_2]
      omega
/-- All that differs lies in k pairs from the a-th on. -/
theorem tot_diff {g x : Nat → Int} {L a k n : Nat} (hn : 2 * n ≤ L + 1) (hk : a + k ≤ n) (h : ∀ j, j < 2 * a ∨ 2 * (a + k) ≤ j → x j = g j) : tot x (min (2 * n) L) - tot g (min (2 * n) L) = dS (dP g x L) a k := by
  have hz : ∀ q, q < a ∨ a + k ≤ q → q < n → dP g x L q = 0 := fun q hq hn' => by
    unfold dP
    rw [pairF_ext (x := x) (y := g) (h _ (by omega)) (fun _ => h _ (by omega)) (by omega)]
    omega
  rw [tot_dS g x L n hn, show n = a + (k + (n - a - k)) from by omega, dS_add, dS_add, Nat.zero_add, dS_zero a 0 (fun q _ h2 => hz q (by omega) (by omega)), dS_zero (n - a - k) (a + k) (fun q h1 h2 => hz q (by omega) (by omega))]
  omega
theorem tstep_B {s L : Nat} {g x : Nat → Int} (hx : IsB x) (i : Nat) : IsB (tstep s L g x i) := putF_B hx _ _ _
theorem tbody_B {s L : Nat} {g : Nat → Int} : ∀ (k i : Nat) (x : Nat → Int), IsB x → IsB (tbody s L g k i x)
  | 0, i, x, h => h
  | k + 1, i, x, h => tbody_B k (i + 2) _ (tstep_B h i)
theorem tbody_out {s L : Nat} {g : Nat → Int} {j : Nat} (hj : j < s ∨ s + 2 ≤ j) : ∀ (k i : Nat) (x : Nat → Int), tbody s L g k i x j = x j
  | 0, i, x => rfl
  | k + 1, i, x => by
    show tbody s L g k (i + 2) (tstep s L g x i) j = x j
    rw [tbody_out hj k (i + 2)]
    exact putF_out hj
/-- What counts the sum's pair as it counts all: turned, it is as good. -/
theorem tbody_sum {F : (Nat → Int) → Int} {s L : Nat} {g : Nat → Int} (hg : IsB g) (σ : Nat) (hs : s = 2 * σ) (hsL : s + 2 ≤ L)
    (R : (Nat → Int) → Prop) (hR : ∀ x v, R x → R (putF x s 2 v)) (hF : ∀ x v, IsB x → R x → 0 ≤ v → v ≤ 65535 → F (putF x s 2 v) = F x + v - num x s 2) :
    ∀ (k a : Nat) (x : Nat → Int), IsB x → R x → (∀ q, a ≤ q → q < a + k → q ≠ σ ∧ 2 * q < L) → F (tbody s L g k (2 * a) x) % 65535 = (F x - dS (dP g x L) a k) % 65535
  | 0, a, x, _, _, _ => by simp [tbody, dS]
  | k + 1, a, x, hx, hr, hq => by
    have hpx := pairF_bd hx L (2 * a)
    have hpg := pairF_bd hg L (2 * a)
    have hn := num2_bd hx s
    have ht := turn_bd (num x s 2) (pairF g L (2 * a)) (pairF x L (2 * a)) hn.1 hn.2 hpg.1 hpg.2 hpx.1 hpx.2
    have hm := turn_mod (num x s 2) (pairF g L (2 * a)) (pairF x L (2 * a))
    have ih := tbody_sum hg σ hs hsL R hR hF k (a + 1) (tstep s L g x (2 * a)) (tstep_B hx _) (hR _ _ hr) (fun q h1 h2 => hq q (by omega) (by omega))
    have hd : dS (dP g (tstep s L g x (2 * a)) L) (a + 1) k = dS (dP g x L) (a + 1) k := dS_ext k (a + 1) (fun q h1 h2 => by
      have := hq q (by omega) (by omega)
      unfold dP
      rw [pairF_ext (x := tstep s L g x (2 * a)) (y := x) (putF_out (by omega)) (fun _ => putF_out (by omega)) this.2])
    have hf := hF x (turn (num x s 2) (pairF g L (2 * a)) (pairF x L (2 * a))) hx hr ht.1 ht.2
    show F (tbody s L g k (2 * a + 2) (tstep s L g x (2 * a))) % 65535 = (F x - (dP g x L a + dS (dP g x L) (a + 1) k)) % 65535
    rw [show 2 * a + 2 = 2 * (a + 1) from by omega, ih, hd]
    show (F (putF x s 2 (turn (num x s 2) (pairF g L (2 * a)) (pairF x L (2 * a)))) - _) % 65535 = _
    rw [hf]
    show _ = (F x - ((pairF x L (2 * a) - pairF g L (2 * a)) + dS (dP g x L) (a + 1) k)) % 65535
    omega
/-- The summed row's total, out of the whole row's. -/
theorem sum_tot3 {g : Nat → Int} {n : Nat} (k : g 0 = 3) (hn : 16 ≤ n) (hn' : n ≤ 1500) : tot (sumF g n) (sumN g n) = tot g n - tot g 16 + g 0 + ((n : Int) - 16) := by
  have e1 : sumN g n = 2 * 2 + (n - 16) := by unfold sumN; rw [if_pos k]; omega
  have e2 : tot g n = tot g 16 + tot (fun j => g (2 * 8 + j)) (n - 16) := by
    have h := tot_split g 8 (n - 16)
    rw [show 2 * 8 + (n - 16) = n from by omega] at h
    exact h
  rw [e1, tot_split, e2]
  have e3 : tot (fun j => sumF g n (2 * 2 + j)) (n - 16) = tot (fun j => g (2 * 8 + j)) (n - 16) := tot_ext _ _ _ (fun j _ => by
    unfold sumF; rw [if_pos k, if_neg (by omega), show 12 + (2 * 2 + j) = 2 * 8 + j from by omega])
  rw [e3]
  have e4 : tot (sumF g n) (2 * 2) = g 0 + ((n : Int) - 16) := by
    unfold sumF
    rw [if_pos k]
    simp [tot, endF, by8_0, by8_1]
    omega
  rw [e4]
  omega
theorem sum_tot {g : Nat → Int} {n : Nat} (k : g 0 ≠ 3) (hn : 16 ≤ n) (hn' : n ≤ 1500) : tot (sumF g n) (sumN g n) = tot g n - tot g 4 - (tot g 16 - tot g 12) + g 0 + ((n : Int) - 16) := by
  have e1 : sumN g n = 2 * 6 + (n - 16) := by unfold sumN; rw [if_neg k]; omega
  have e2 : tot g n = tot g 16 + tot (fun j => g (2 * 8 + j)) (n - 16) := by
    have h := tot_split g 8 (n - 16)
    rw [show 2 * 8 + (n - 16) = n from by omega] at h
    exact h
  rw [e1, tot_split, e2]
  have e3 : tot (fun j => sumF g n (2 * 6 + j)) (n - 16) = tot (fun j => g (2 * 8 + j)) (n - 16) := tot_ext _ _ _ (fun j _ => by
    unfold sumF; rw [if_neg k, if_neg (by omega), if_neg (by omega), show 4 + (2 * 6 + j) = 2 * 8 + j from by omega])
  rw [e3]
  have e4 : tot (sumF g n) (2 * 6) = tot (fun j => g (2 * 2 + j)) 8 + g 0 + ((n : Int) - 16) := by
    unfold sumF
    rw [if_neg k, show 2 * 6 = 2 * 4 + 4 from rfl, tot_split]
    rw [tot_ext (fun j => if j < 8 then g (4 + j) else if j < 12 then endF g n (j - 8) else g (4 + j)) (fun j => g (2 * 2 + j)) (2 * 4) (fun j hj => by rw [if_pos (by omega)])]
    simp [tot, endF, by8_0, by8_1]
    omega
  have e5 : tot g 12 = tot g 4 + tot (fun j => g (2 * 2 + j)) 8 := tot_split g 2 8
  rw [e4, e5]
  omega
theorem wholeB_of {g x : Nat → Int} {L : Nat} (hg : IsB g) (hx : IsB x) (h0 : x 0 = g 0) (hn0 : g 0 ≠ 0) (hL : 24 ≤ L) (hp : parseE x L = 0) (hp' : parseE g L = 0) (hb : bareF x = bareF g)
    (hT : bareF g = false → tot (sumF x L) (sumN x L) % 65535 = tot (sumF g L) (sumN g L) % 65535) : wholeB x L = wholeB g L := by
  unfold wholeB
  rw [hp, hp', hb]
  cases hbb : bareF g
  · have h1 := whole_iff hx (n := L) (by rw [h0]; exact hn0) hL
    have h2 := whole_iff hg (n := L) hn0 hL
    rw [hT hbb, ← h2] at h1
    rw [Bool.eq_iff_iff.2 h1]
  · rfl
theorem bare_fill (g : Nat → Int) : bareF (fillF g) = false := by
  unfold fillF
  split
  · unfold bareF; rw [num_put2 (by omega) (by omega)]; simp
  · rename_i h
    simpa using h
theorem bare_ext {g x : Nat → Int} (h0 : x 0 = g 0) (h1 : x 22 = g 22) (h2 : x 23 = g 23) : bareF x = bareF g := by unfold bareF; rw [h0, num_2, num_2, h1, h2]
theorem headE_ext {g x : Nat → Int} {n : Nat} (h : ∀ j, j < 16 → x j = g j) : headE x n = headE g n := by
  unfold headE
  by_cases h16 : n < 16
  · rw [if_pos h16, if_pos h16]
  · rw [if_neg h16, if_neg h16, h 0 (by omega), h 13 (by omega), tot_ext x g 16 h, pairF_ext (x := x) (y := g) (h 2 (by omega)) (fun _ => h 3 (by omega)) (by omega)]
theorem bodyE_ext {g x : Nat → Int} {n : Nat} (h0 : x 0 = g 0) (h17 : x 17 = g 17) (h20 : g 0 ≠ 3 → x 20 = g 20) (h21 : g 0 ≠ 3 → x 21 = g 21) : bodyE x n = bodyE g n := by
  unfold bodyE
  rw [h0, h17]
  by_cases k : g 0 = 3
  · rw [if_pos k, if_pos k]
  · rw [if_neg k, if_neg k, h20 k, h21 k]
theorem parseE_0 {g : Nat → Int} {n : Nat} (h : parseE g n = 0) : headE g n = 0 ∧ bodyE g n = 0 := by
  unfold parseE at h
  split at h
  · exact ⟨by assumption, h⟩
  · contradiction
theorem mayB_iff {g : Nat → Int} {L : Nat} {a m v : Int} (h : mayB g L a m v = true) : (m = 1 ∧ v ≤ 255 ∨ m = 2 ∧ v ≤ 65535 ∨ m = 4 ∧ v ≤ 4294967295) ∧ 0 ≤ v ∧ 16 ≤ a ∧ a ≤ (L : Int) - m ∧ (a + m ≤ (sumA (g 0) : Int) ∨ (sumA (g 0) : Int) + 2 ≤ a) := by
  unfold mayB at h
  simp only [Bool.and_eq_true, Bool.or_eq_true, decide_eq_true_eq, beq_iff_eq] at h
  omega
/-- What Write leaves as it was. -/
theorem wr_out {g : Nat → Int} {L a m : Nat} {v : Int} {j : Nat} (h : j < a ∨ a + m ≤ j) (h' : j < sumA (g 0) ∨ sumA (g 0) + 2 ≤ j) (ha : 16 ≤ a) : wrF g L a m v j = g j := by
  have hA := (sumA_even (g 0)).choose_spec
  unfold wrF
  split
  · exact putF_out h
  · have e0 : tbody (sumA (g 0)) L g ((m + a % 2 + 1) / 2) (a - a % 2) (putF g a m v) 0 = g 0 := by rw [tbody_out (by omega), putF_out (by omega)]
    by_cases k2 : g 0 = 2
    · have hs : sumA (g 0) = 22 := by unfold sumA; rw [if_neg (by omega)]
      rw [fillF_out (by omega), tbody_out (by omega), putF_out h]
    · rw [fillF_3 (by rw [e0]; exact k2), tbody_out (by omega), putF_out h]
theorem wr_B {g : Nat → Int} (hg : IsB g) (L a m : Nat) (v : Int) : IsB (wrF g L a m v) := by
  unfold wrF
  split
  · exact putF_B hg _ _ _
  · exact fillF_B (tbody_B _ _ _ (putF_B hg _ _ _))
theorem wr_bare {g : Nat → Int} {L a m : Nat} {v : Int} (ha : 16 ≤ a) (hs : a + m ≤ sumA (g 0) ∨ sumA (g 0) + 2 ≤ a) : bareF (wrF g L a m v) = bareF g := by
  unfold wrF
  split
  · rename_i hb
    have k : g 0 = 2 := by unfold bareF at hb; simp at hb; exact hb.1
    have h22 : sumA (g 0) = 22 := by unfold sumA; rw [if_neg (by omega)]
    exact bare_ext (putF_out (by omega)) (putF_out (by omega)) (putF_out (by omega))
  · rename_i hb
    rw [bare_fill]
    simpa using hb
/-- Behind Write the summed row's total is as good. -/
theorem wr_sum {g : Nat → Int} {L a m : Nat} {v : Int} (hg : IsB g) (hL : 24 ≤ L) (hL' : L ≤ 1500) (ha : 16 ≤ a) (hm : a + m ≤ L) (hm0 : 0 < m) (hs : a + m ≤ sumA (g 0) ∨ sumA (g 0) + 2 ≤ a) (hb : bareF g = false) :
    tot (sumF (wrF g L a m v) L) (sumN (wrF g L a m v) L) % 65535 = tot (sumF g L) (sumN g L) % 65535 := by
  obtain ⟨σ, hσ, h1, h2⟩ := sumA_even (g 0)
  have hx := putF_B hg a m v
  have hx0 : putF g a m v 0 = g 0 := putF_out (by omega)
  unfold wrF
  rw [if_neg (by rw [hb]; decide), fill_sum (tbody_B _ _ _ hx) hL]
  have hi : a - a % 2 = 2 * (a / 2) := by omega
  rw [hi]
  have hmain := tbody_sum (F := fun x => tot (sumF x L) (sumN x L)) (s := sumA (g 0)) (L := L) hg σ hσ (by omega) (fun x => x 0 = g 0) (fun x v h => by rw [putF_out (by omega)]; exact h)
    (fun x v hB hr hv hv' => by have := sum_put hB (n := L) v hv hv' hL; rw [hr] at this; exact this) ((m + a % 2 + 1) / 2) (a / 2) (putF g a m v) hx hx0 (fun q h3 h4 => by omega)
  rw [hmain]
  have hd := tot_diff (g := g) (x := putF g a m v) (L := L) (a := a / 2) (k := (m + a % 2 + 1) / 2) (n := (L + 1) / 2) (by omega) (by omega) (fun j hj => putF_out (by omega))
  rw [show min (2 * ((L + 1) / 2)) L = L from by omega] at hd
  have ex : ∀ N, N ≤ 16 → tot (putF g a m v) N = tot g N := fun N hN => tot_ext _ _ _ (fun j hj => putF_out (by omega))
  by_cases k : g 0 = 3
  · rw [sum_tot3 (by rw [hx0]; exact k) (by omega) hL', sum_tot3 k (by omega) hL', hx0, ex 16 (by omega)]
    omega
  · rw [sum_tot (by rw [hx0]; exact k) (by omega) hL', sum_tot k (by omega) hL', hx0, ex 16 (by omega), ex 4 (by omega), ex 12 (by omega)]
    omega
theorem sumA_or (k : Int) : sumA k = 18 ∨ sumA k = 22 := by unfold sumA; split; exact .inl rfl; exact .inr rfl
theorem wr_parse {g : Nat → Int} {L a m : Nat} {v : Int} (ha : 24 ≤ a) (hp : parseE g L = 0) : parseE (wrF g L a m v) L = 0 := by
  obtain ⟨h1, h2⟩ := parseE_0 hp
  have hA := sumA_or (g 0)
  have e : ∀ j, j < 24 → (j < sumA (g 0) ∨ sumA (g 0) + 2 ≤ j) → wrF g L a m v j = g j := fun j hj h => wr_out (by omega) h (by omega)
  unfold parseE
  rw [headE_ext (g := g) (fun j hj => e j (by omega) (by omega)), if_pos h1, bodyE_ext (g := g) (e 0 (by omega) (by omega)) (e 17 (by omega) (by omega))
    (fun k => e 20 (by omega) (by rw [show sumA (g 0) = 22 from by unfold sumA; rw [if_neg k]]; omega)) (fun k => e 21 (by omega) (by rw [show sumA (g 0) = 22 from by unfold sumA; rw [if_neg k]]; omega)), h2]
theorem parse_facts {g : Nat → Int} {L : Nat} (hp : parseE g L = 0) : 24 ≤ L ∧ L ≤ 1500 ∧ g 0 ≠ 0 ∧ isK (g 0) = true := by
  obtain ⟨h1, h2⟩ := parseE_0 hp
  have h3 := headE_0 h1
  have h4 := bodyE_0 h2 h3.2.1
  have h5 := h3.2.1
  unfold isK at h5
  simp at h5
  exact ⟨h4.1, h3.2.2.2.1, by omega, h3.2.1⟩
theorem wr_whole {g : Nat → Int} {L a m : Nat} {v : Int} (hg : IsB g) (ha : 24 ≤ a) (hm : a + m ≤ L) (hm0 : 0 < m) (hp : parseE g L = 0) : wholeB (wrF g L a m v) L = wholeB g L := by
  obtain ⟨h1, h2, h3, _⟩ := parse_facts hp
  have hA := (sumA_even (g 0)).choose_spec
  exact wholeB_of hg (wr_B hg _ _ _ _) (wr_out (by omega) (by omega) (by omega)) h3 h1 (wr_parse ha hp) hp (wr_bare (by omega) (by omega)) (fun hb => wr_sum hg h1 h2 (by omega) hm hm0 (by omega) hb)
end Go.Proofs.Ytjljaecjnpmdoaa
