/- awake, and the laws RationalOf and RationalValid, as contracts. -/
import Derived.Test.YtamcnollfjbmbaaRatP
namespace Go.Proofs.Ytamcnollfjbmbaa
open Go.RowKit

theorem awake_val : RM.ofS 6 (-4) = (-3, 2, 0) := by decide +kernel
theorem awake_ok : RM.ok (-3) 2 = true := by decide +kernel

set_option linter.unusedSimpArgs false in
set_option maxHeartbeats 400000 in
theorem awake_c (w : World) : Calls Try.prog 13 #[] w fun e w' => e = .returned (.bool true) ∧ Below w.heap.size w w' := by
  have hv := awake_val
  have hk := awake_ok
  go_enter Try.func13, Try.ntmps13
  go_wp2_with (first | (go_at_call 11; refine (of_c _ _ (by omega) (by omega) _).mono ?_; rintro e w1 ⟨rfl, hb1⟩; have hc1 := old_cell hb1; have hf1 := old_frozen hb1; have hs1 := hb1.size; (try simp only [World.size_alloc, World.size_setCell, World.size_drew, size_drewN] at hs1)) | (go_at_call 14; refine (valid_c _ _ (by omega) (by omega) _).mono ?_; rintro e w2 ⟨rfl, hb2⟩; have hc2 := old_cell hb2; have hf2 := old_frozen hb2; have hs2 := hb2.size; (try simp only [World.size_alloc, World.size_setCell, World.size_drew, size_drewN] at hs2)))
  go_ret
  refine ⟨rfl, ?_⟩
  (repeat' (first | (with_reducible exact Below.refl _ _) | (with_reducible refine Below.alloc ?_ ?_ _) | (with_reducible refine below_drewN' ?_ _) | (with_reducible refine Below.drew ?_) | (with_reducible refine Below.setCell ?_ ?_ _) | (with_reducible refine Below.trans ?_ (Below.mono (by with_reducible assumption) ?_)) | go_size))

set_option linter.unusedSimpArgs false in
set_option maxHeartbeats 400000 in
theorem lawOf_c (n d : Int) (hn : -9223372036854775808 ≤ n ∧ n ≤ 9223372036854775807) (hd : -9223372036854775808 ≤ d ∧ d ≤ 9223372036854775807) (w : World) :
    Calls Try.prog 3 #[.int .i64 n, .int .i64 d] w fun e w' => e = .returned (.bool true) ∧ Below w.heap.size w w' := by
  go_enter Try.func3, Try.ntmps3
  go_wp2_with fail
  refine (of_c _ _ (by omega) (by omega) _).mono ?_
  rintro e w1 ⟨rfl, hb1⟩
  have hc1 := old_cell hb1; have hf1 := old_frozen hb1
  have hs1 := hb1.size
  (try simp only [World.size_alloc, World.size_setCell, World.size_drew, size_drewN] at hs1)
  go_wp2_with fail
  refine (rof_c _ _ (by omega) (by omega) _).mono ?_
  rintro e w2 ⟨rfl, hb2⟩
  have hc2 := old_cell hb2; have hf2 := old_frozen hb2
  have hs2 := hb2.size
  (try simp only [World.size_alloc, World.size_setCell, World.size_drew, size_drewN] at hs2)
  have lw1_2 : w1.heap.size < w2.heap.size := by omega
  have mw1_2 : w1.heap.size < w2.heap.size + 1 := by omega
  have nw1_2 : ¬ w1.heap.size = w2.heap.size := by omega
  go_wp2_with fail
  refine (awake_c _).mono ?_
  rintro e w3 ⟨rfl, hb3⟩
  have hc3 := old_cell hb3; have hf3 := old_frozen hb3
  have hs3 := hb3.size
  (try simp only [World.size_alloc, World.size_setCell, World.size_drew, size_drewN] at hs3)
  have lw1_3 : w1.heap.size < w3.heap.size := by omega
  have mw1_3 : w1.heap.size < w3.heap.size + 1 := by omega
  have nw1_3 : ¬ w1.heap.size = w3.heap.size := by omega
  have lw2_3 : w2.heap.size < w3.heap.size := by omega
  have mw2_3 : w2.heap.size < w3.heap.size + 1 := by omega
  have nw2_3 : ¬ w2.heap.size = w3.heap.size := by omega
  go_wp2
  go_ret
  refine ⟨rfl, ?_⟩
  (repeat' (first | (with_reducible exact Below.refl _ _) | (with_reducible refine Below.alloc ?_ ?_ _) | (with_reducible refine below_drewN' ?_ _) | (with_reducible refine Below.drew ?_) | (with_reducible refine Below.setCell ?_ ?_ _) | (with_reducible refine Below.trans ?_ (Below.mono (by with_reducible assumption) ?_)) | go_size))
set_option linter.unusedSimpArgs false in
set_option maxHeartbeats 400000 in
theorem lawValid_c (n d : Int) (hn : -9223372036854775808 ≤ n ∧ n ≤ 9223372036854775807) (hd : -9223372036854775808 ≤ d ∧ d ≤ 9223372036854775807) (w : World) :
    Calls Try.prog 4 #[.agg #[.int .i64 n, .int .i64 d]] w fun e w' => e = .returned (.bool true) ∧ Below w.heap.size w w' := by
  go_enter Try.func4, Try.ntmps4
  go_wp2_with fail
  go_region_held3 (fun w' => w'.cell? ⟨w.heap.size, 0, none⟩ = some (.int .i64 n) ∧ w'.cell? ⟨w.heap.size, 1, none⟩ = some (.int .i64 d) ∧ w.heap.size < w'.heap.size) ((refine ⟨?_, ?_, ?_⟩ <;> (first | go_keep | (go_simp; done) | omega))) (first | (go_at_call 13; refine (awake_c _).mono ?_; rintro e w1 ⟨rfl, hb1⟩; have hc1 := old_cell hb1; have hf1 := old_frozen hb1; have hs1 := hb1.size; (try simp only [World.size_alloc, World.size_setCell, World.size_drew, size_drewN] at hs1)) | (go_at_call 14; refine (valid_c _ _ (by omega) (by omega) _).mono ?_; rintro e w2 ⟨rfl, hb2⟩; have hc2 := old_cell hb2; have hf2 := old_frozen hb2; have hs2 := hb2.size; (try simp only [World.size_alloc, World.size_setCell, World.size_drew, size_drewN] at hs2)) | (go_at_call 15; refine (rvalid_c _ _ (by omega) (by omega) _).mono ?_; rintro e w3 ⟨rfl, hb3⟩; have hc3 := old_cell hb3; have hf3 := old_frozen hb3; have hs3 := hb3.size; (try simp only [World.size_alloc, World.size_setCell, World.size_drew, size_drewN] at hs3)))
  go_wp2

  go_ret
  refine ⟨rfl, ?_⟩
  (repeat' (first | (with_reducible exact Below.refl _ _) | (with_reducible refine Below.alloc ?_ ?_ _) | (with_reducible refine below_drewN' ?_ _) | (with_reducible refine Below.drew ?_) | (with_reducible refine Below.setCell ?_ ?_ _) | (with_reducible refine Below.trans ?_ (Below.mono (by with_reducible assumption) ?_)) | go_size))

end Go.Proofs.Ytamcnollfjbmbaa
