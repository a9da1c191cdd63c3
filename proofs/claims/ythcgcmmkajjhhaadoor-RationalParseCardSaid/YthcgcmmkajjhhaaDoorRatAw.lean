/- awake. -/
import Derived.Test.YthcgcmmkajjhhaaDoorRatO
namespace Go.Proofs.YthcgcmmkajjhhaaDoor
open Go.RowKit

theorem awake_val : RM.ofS 6 (-4) = (-3, 2, 0) := by decide +kernel
theorem awake_ok : RM.ok (-3) 2 = true := by decide +kernel

set_option linter.unusedSimpArgs false in
set_option maxHeartbeats 400000 in
theorem awake_c (w : World) : Calls Tryd.prog 10 #[] w fun e w' => e = .returned (.bool true) ∧ Below w.heap.size w w' := by
  have hv := awake_val
  have hk := awake_ok
  go_enter Tryd.func10, Tryd.ntmps10
  go_wp2_with (first | (go_at_call 33; refine (of_c _ _ (by omega) (by omega) _).mono ?_; rintro e w1 ⟨rfl, hb1⟩; have hc1 := old_cell hb1; have hf1 := old_frozen hb1; have hs1 := hb1.size; (try simp only [World.size_alloc, World.size_setCell, World.size_drew, size_drewN] at hs1)) | (go_at_call 34; refine (valid_c _ _ (by omega) (by omega) _).mono ?_; rintro e w2 ⟨rfl, hb2⟩; have hc2 := old_cell hb2; have hf2 := old_frozen hb2; have hs2 := hb2.size; (try simp only [World.size_alloc, World.size_setCell, World.size_drew, size_drewN] at hs2)))
  go_ret
  refine ⟨rfl, ?_⟩
  (repeat' (first | (with_reducible exact Below.refl _ _) | (with_reducible refine Below.alloc ?_ ?_ _) | (with_reducible refine below_drewN' ?_ _) | (with_reducible refine Below.drew ?_) | (with_reducible refine Below.setCell ?_ ?_ _) | (with_reducible refine Below.trans ?_ (Below.mono (by with_reducible assumption) ?_)) | go_size))

end Go.Proofs.YthcgcmmkajjhhaaDoor
