/- What a head tells of itself; what waits. -/
import Derived.Test.YtomlpkojnipkhaaGreatGa
import Derived.Test.YtomlpkojnipkhaaGreatHdTh
import Derived.BigQuiet
import Derived.Deep.RegionHeld3
import Derived.Deep.Cut
namespace Go.Proofs.YtomlpkojnipkhaaGreat
set_option linter.unusedVariables false
set_option linter.unusedSimpArgs false
open Go.RowKit Go.ChangeShapes Go.WideShapes Go.ChangeAt

section
variable {w : World} {b c m n : Nat} {h : Hd}
theorem version_any (hH : HeadAt w b c m n h) : Calls Tryz.prog 116 #[.pointer (some ⟨b, 0, none⟩)] w fun x w' => x = .returned (.int .i64 h.pl.v) ∧ w = w' := by
  have c0 := hH.c0
  clear hH
  go_enter Tryz.func116, Tryz.ntmps116
  go_wp2
  go_ret
  exact ⟨rfl, rfl⟩
theorem waiting_any (hH : HeadAt w b c m n h) : Calls Tryz.prog 111 #[.pointer (some ⟨b, 0, none⟩)] w fun x w' => x = .returned (.int .i64 h.q.length) ∧ w = w' := by
  have c0 := hH.c660
  obtain ⟨s, r, hC⟩ := hH.2.1
  have lc := fun ty => Go.Conc.run_len_chan (P := Tryz.prog) 184 ty Tryz.underlying184 hC
  clear hH hC
  go_enter Tryz.func111, Tryz.ntmps111
  go_wp2
  go_ret
  refine ⟨?_, rfl⟩
  simp [goInt]
attribute [local irreducible] PA
set_option maxRecDepth 100000 in
theorem pool_any (hH : HeadAt w b c m n h) : Calls Tryz.prog 46 #[.pointer (some ⟨b, 0, none⟩)] w fun x w' => x = .returned (plV h.pl) ∧ Below w.heap.size w w' := by
  have hz : ∀ w : World, (zeroValue 33).run Tryz.prog w = .ok (.agg (PA zPl)) w := fun w => zero_pl w
  have hz1 := pa_size zPl
  have hz2 := pa_ne zPl
  have LP := hid ((hH.alloc (.cells (PA zPl) 33)).loadP)
  have PN := PoolAt.made (w := w) (p := zPl) (T := 33) rfl
  have ST := hid (PN.storeA h.pl)
  have NW := PN.whole h.pl
  have B := hid (below_put (w := w) (T := 33) zPl h.pl)
  clear PN hH
  have NWH := hid NW
  clear NW
  unfold plV
  go_enter Tryz.func46, Tryz.ntmps46
  go_wp2_with (first | ((with_reducible refine wl_id ?_); refine wl_load rfl rfl rfl LP.out ?_) | ((with_reducible refine wl_id ?_); refine wl_store rfl rfl rfl rfl ST.out ?_; refine end_then ?_; apply_assumption; refine wp_ret ?_; (repeat refine ret_then ?_); (show bodyPost _ _ _ _ _ _); refine bodyPost_ret (v := .agg (PA h.pl)) (results_c1 Tryz.results46 _ rfl NWH.out) rfl ⟨rfl, B.out⟩))
end
end Go.Proofs.YtomlpkojnipkhaaGreat

