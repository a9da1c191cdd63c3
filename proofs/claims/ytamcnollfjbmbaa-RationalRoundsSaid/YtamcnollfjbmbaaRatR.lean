/- Floor and Round, on both sides; the law RationalRounds as a contract. -/
import Derived.Test.YtamcnollfjbmbaaRatAw
import Derived.Test.YtamcnollfjbmbaaRatN
namespace Go.Proofs.Ytamcnollfjbmbaa
open Go.RowKit

theorem ret_two {a b c d : Int} (h1 : a = c) (h2 : b = d) : Ending.returned (.tuple #[.int .i64 a, .int .i64 b]) = .returned (.tuple #[.int .i64 c, .int .i64 d]) := by rw [h1, h2]
set_option linter.unusedSimpArgs false in
set_option maxHeartbeats 400000 in
theorem floor_c (n d : Int) (hn : -9223372036854775808 ≤ n ∧ n ≤ 9223372036854775807) (hd : 1 ≤ d ∧ d ≤ 9223372036854775807) (w : World) :
    Calls Try.prog 49 #[.agg #[.int .i64 n, .int .i64 d]] w fun e w' => e = .returned (.tuple #[.int .i64 (n / d), .int .i64 (n % d)]) ∧ Below w.heap.size w w' := by
  have hd0 : ¬ d = 0 := by omega
  by_cases hneg : n < 0
  · obtain ⟨f1, f2, f3, f4, f7, f5, f6⟩ := RM.tdiv_facts n d hneg hd.1
    have v1 := IntWalk.i64_in (n.tdiv d) (by omega)
    by_cases hm : n.tmod d < 0
    · rw [if_pos hm] at f5 f6
      have f8 := f7 hm
      have v2 := IntWalk.i64_in (n.tdiv d - 1) (by omega)
      have v3 := IntWalk.i64_in (n.tmod d + d) (by omega)
      have HQ := Lib.hid f5
      have HR := Lib.hid f6
      clear f5 f6 f7
      go_enter Try.func49, Try.ntmps49
      go_wp2
      go_quiet (fail)
      go_wp2
      go_quiet (fail)
      go_wp2
      go_ret2
      refine ⟨ret_two (by first | rfl | (rw [HQ.out]) | (rw [HQ.out]; omega)) (by first | rfl | (rw [HR.out]) | (rw [HR.out]; omega)), ?_⟩
      (repeat' (first | (with_reducible exact Below.refl _ _) | (with_reducible refine Below.alloc ?_ ?_ _) | (with_reducible refine below_drewN' ?_ _) | (with_reducible refine Below.drew ?_) | (with_reducible refine Below.setCell ?_ ?_ _) | (with_reducible refine Below.trans ?_ (Below.mono (by with_reducible assumption) ?_)) | go_size))
    · rw [if_neg hm] at f5 f6
      have HQ := Lib.hid f5
      have HR := Lib.hid f6
      clear f5 f6 f7
      go_enter Try.func49, Try.ntmps49
      go_wp2
      go_quiet (fail)
      go_wp2
      go_ret2
      refine ⟨ret_two (by first | rfl | (rw [HQ.out]) | (rw [HQ.out]; omega)) (by first | rfl | (rw [HR.out]) | (rw [HR.out]; omega)), ?_⟩
      (repeat' (first | (with_reducible exact Below.refl _ _) | (with_reducible refine Below.alloc ?_ ?_ _) | (with_reducible refine below_drewN' ?_ _) | (with_reducible refine Below.drew ?_) | (with_reducible refine Below.setCell ?_ ?_ _) | (with_reducible refine Below.trans ?_ (Below.mono (by with_reducible assumption) ?_)) | go_size))
  · have hn0 : 0 ≤ n := by omega
    obtain ⟨g1, g2, g3, g4, _⟩ := RM.ediv_facts n d hd.1 hn
    have v1 := IntWalk.i64_in (n / d) (by omega)
    have v2 := Int.tdiv_eq_ediv_of_nonneg (b := d) hn0
    have v3 := Int.tmod_eq_emod_of_nonneg (b := d) hn0
    have HQ := Lib.hid (rfl : n / d = n / d)
    have HR := Lib.hid (rfl : n % d = n % d)
    go_enter Try.func49, Try.ntmps49
    go_wp2
    go_quiet (fail)
    go_wp2
    go_ret2
    refine ⟨ret_two (by first | rfl | (rw [HQ.out]) | (rw [HQ.out]; omega)) (by first | rfl | (rw [HR.out]) | (rw [HR.out]; omega)), ?_⟩
    (repeat' (first | (with_reducible exact Below.refl _ _) | (with_reducible refine Below.alloc ?_ ?_ _) | (with_reducible refine below_drewN' ?_ _) | (with_reducible refine Below.drew ?_) | (with_reducible refine Below.setCell ?_ ?_ _) | (with_reducible refine Below.trans ?_ (Below.mono (by with_reducible assumption) ?_)) | go_size))

set_option linter.unusedSimpArgs false in
set_option maxHeartbeats 400000 in
theorem Floor_c (n d : Int) (hn : -9223372036854775808 ≤ n ∧ n ≤ 9223372036854775807) (hd : -9223372036854775808 ≤ d ∧ d ≤ 9223372036854775807) (w : World) :
    Calls Try.prog 26 #[.agg #[.int .i64 n, .int .i64 d]] w fun e w' => e = .returned (.int .i64 (RM.floorS n d)) ∧ Below w.heap.size w w' := by
  cases hk : RM.ok n d
  · have HE := Lib.hid (RM.floorS_bad hk)
    go_enter Try.func26, Try.ntmps26
    go_wp2_with (first | (go_at_call 14; refine (valid_c _ _ (by omega) (by omega) _).mono ?_; rintro e w1 ⟨rfl, hb1⟩; have hc1 := old_cell hb1; have hf1 := old_frozen hb1; have hs1 := hb1.size; (try simp only [World.size_alloc, World.size_setCell, World.size_drew, size_drewN] at hs1); have lw_1 : w.heap.size < w1.heap.size := (by omega); have mw_1 : w.heap.size < w1.heap.size + 1 := (by omega); have nw_1 : ¬ w.heap.size = w1.heap.size := (by omega)))
    go_ret
    refine ⟨ret_int HE.out.symm, ?_⟩
    (repeat' (first | (with_reducible exact Below.refl _ _) | (with_reducible refine Below.alloc ?_ ?_ _) | (with_reducible refine below_drewN' ?_ _) | (with_reducible refine Below.drew ?_) | (with_reducible refine Below.setCell ?_ ?_ _) | (with_reducible refine Below.trans ?_ (Below.mono (by with_reducible assumption) ?_)) | go_size))
  · have HE := Lib.hid (RM.floorS_ok hk)
    obtain ⟨k1, k2, _⟩ := RM.ok_parts hk
    go_enter Try.func26, Try.ntmps26
    go_wp2_with (first | (go_at_call 14; refine (valid_c _ _ (by omega) (by omega) _).mono ?_; rintro e w1 ⟨rfl, hb1⟩; have hc1 := old_cell hb1; have hf1 := old_frozen hb1; have hs1 := hb1.size; (try simp only [World.size_alloc, World.size_setCell, World.size_drew, size_drewN] at hs1); have lw_1 : w.heap.size < w1.heap.size := (by omega); have mw_1 : w.heap.size < w1.heap.size + 1 := (by omega); have nw_1 : ¬ w.heap.size = w1.heap.size := (by omega)) | (go_at_call 49; refine (floor_c _ _ (by omega) (by omega) _).mono ?_; rintro e w2 ⟨rfl, hb2⟩; have hc2 := old_cell hb2; have hf2 := old_frozen hb2; have hs2 := hb2.size; (try simp only [World.size_alloc, World.size_setCell, World.size_drew, size_drewN] at hs2); have lw_2 : w.heap.size < w2.heap.size := (by omega); have mw_2 : w.heap.size < w2.heap.size + 1 := (by omega); have nw_2 : ¬ w.heap.size = w2.heap.size := (by omega)))
    go_ret
    refine ⟨ret_int HE.out.symm, ?_⟩
    (repeat' (first | (with_reducible exact Below.refl _ _) | (with_reducible refine Below.alloc ?_ ?_ _) | (with_reducible refine below_drewN' ?_ _) | (with_reducible refine Below.drew ?_) | (with_reducible refine Below.setCell ?_ ?_ _) | (with_reducible refine Below.trans ?_ (Below.mono (by with_reducible assumption) ?_)) | go_size))
set_option linter.unusedSimpArgs false in
set_option maxHeartbeats 400000 in
theorem Round_c (n d : Int) (hn : -9223372036854775808 ≤ n ∧ n ≤ 9223372036854775807) (hd : -9223372036854775808 ≤ d ∧ d ≤ 9223372036854775807) (w : World) :
    Calls Try.prog 28 #[.agg #[.int .i64 n, .int .i64 d]] w fun e w' => e = .returned (.int .i64 (RM.roundS n d)) ∧ Below w.heap.size w w' := by
  cases hk : RM.ok n d
  · have HE := Lib.hid (RM.roundS_bad hk)
    go_enter Try.func28, Try.ntmps28
    go_wp2_with (first | (go_at_call 14; refine (valid_c _ _ (by omega) (by omega) _).mono ?_; rintro e w1 ⟨rfl, hb1⟩; have hc1 := old_cell hb1; have hf1 := old_frozen hb1; have hs1 := hb1.size; (try simp only [World.size_alloc, World.size_setCell, World.size_drew, size_drewN] at hs1); have lw_1 : w.heap.size < w1.heap.size := (by omega); have mw_1 : w.heap.size < w1.heap.size + 1 := (by omega); have nw_1 : ¬ w.heap.size = w1.heap.size := (by omega)))
    go_ret
    refine ⟨ret_int HE.out.symm, ?_⟩
    (repeat' (first | (with_reducible exact Below.refl _ _) | (with_reducible refine Below.alloc ?_ ?_ _) | (with_reducible refine below_drewN' ?_ _) | (with_reducible refine Below.drew ?_) | (with_reducible refine Below.setCell ?_ ?_ _) | (with_reducible refine Below.trans ?_ (Below.mono (by with_reducible assumption) ?_)) | go_size))
  · obtain ⟨k1, k2, _⟩ := RM.ok_parts hk
    obtain ⟨g1, g2, g3, g4, g5⟩ := RM.ediv_facts n d k1 hn
    by_cases hh : d - n % d ≤ n % d
    · have HE := Lib.hid (RM.roundS_up hk hh)
      have g6 := g5 hh
      clear g5
      go_enter Try.func28, Try.ntmps28
      go_wp2_with (first | (go_at_call 14; refine (valid_c _ _ (by omega) (by omega) _).mono ?_; rintro e w1 ⟨rfl, hb1⟩; have hc1 := old_cell hb1; have hf1 := old_frozen hb1; have hs1 := hb1.size; (try simp only [World.size_alloc, World.size_setCell, World.size_drew, size_drewN] at hs1); have lw_1 : w.heap.size < w1.heap.size := (by omega); have mw_1 : w.heap.size < w1.heap.size + 1 := (by omega); have nw_1 : ¬ w.heap.size = w1.heap.size := (by omega)) | (go_at_call 49; refine (floor_c _ _ (by omega) (by omega) _).mono ?_; rintro e w2 ⟨rfl, hb2⟩; have hc2 := old_cell hb2; have hf2 := old_frozen hb2; have hs2 := hb2.size; (try simp only [World.size_alloc, World.size_setCell, World.size_drew, size_drewN] at hs2); have lw_2 : w.heap.size < w2.heap.size := (by omega); have mw_2 : w.heap.size < w2.heap.size + 1 := (by omega); have nw_2 : ¬ w.heap.size = w2.heap.size := (by omega)))
      go_ret
      refine ⟨ret_int HE.out.symm, ?_⟩
      (repeat' (first | (with_reducible exact Below.refl _ _) | (with_reducible refine Below.alloc ?_ ?_ _) | (with_reducible refine below_drewN' ?_ _) | (with_reducible refine Below.drew ?_) | (with_reducible refine Below.setCell ?_ ?_ _) | (with_reducible refine Below.trans ?_ (Below.mono (by with_reducible assumption) ?_)) | go_size))
    · have HE := Lib.hid (RM.roundS_down hk hh)
      clear g5
      go_enter Try.func28, Try.ntmps28
      go_wp2_with (first | (go_at_call 14; refine (valid_c _ _ (by omega) (by omega) _).mono ?_; rintro e w1 ⟨rfl, hb1⟩; have hc1 := old_cell hb1; have hf1 := old_frozen hb1; have hs1 := hb1.size; (try simp only [World.size_alloc, World.size_setCell, World.size_drew, size_drewN] at hs1); have lw_1 : w.heap.size < w1.heap.size := (by omega); have mw_1 : w.heap.size < w1.heap.size + 1 := (by omega); have nw_1 : ¬ w.heap.size = w1.heap.size := (by omega)) | (go_at_call 49; refine (floor_c _ _ (by omega) (by omega) _).mono ?_; rintro e w2 ⟨rfl, hb2⟩; have hc2 := old_cell hb2; have hf2 := old_frozen hb2; have hs2 := hb2.size; (try simp only [World.size_alloc, World.size_setCell, World.size_drew, size_drewN] at hs2); have lw_2 : w.heap.size < w2.heap.size := (by omega); have mw_2 : w.heap.size < w2.heap.size + 1 := (by omega); have nw_2 : ¬ w.heap.size = w2.heap.size := (by omega)))
      go_ret
      refine ⟨ret_int HE.out.symm, ?_⟩
      (repeat' (first | (with_reducible exact Below.refl _ _) | (with_reducible refine Below.alloc ?_ ?_ _) | (with_reducible refine below_drewN' ?_ _) | (with_reducible refine Below.drew ?_) | (with_reducible refine Below.setCell ?_ ?_ _) | (with_reducible refine Below.trans ?_ (Below.mono (by with_reducible assumption) ?_)) | go_size))
end Go.Proofs.Ytamcnollfjbmbaa
