/- Comparison of 128 bits and of numbers, in the code. -/
import Derived.Test.YtpoiojacpaglcaaRatB1
import Derived.Test.YtpoiojacpaglcaaRatAw
namespace Go.Proofs.Ytpoiojacpaglcaa
open Go.RowKit
namespace RM
def cmpI (x y : Int) : Int := if x < y then -1 else if y < x then 1 else 0
def cmpS (a b c d : Int) : Int := if ok a b = true ∧ ok c d = true then cmpI (a * d) (c * b) else 0
theorem cmp_lt {x y : Int} (h : x < y) : cmpI x y = -1 := by rw [cmpI, if_pos h]
theorem cmp_gt {x y : Int} (h : y < x) : cmpI x y = 1 := by rw [cmpI, if_neg (by omega), if_pos h]
theorem cmp_eq {x y : Int} (h : x = y) : cmpI x y = 0 := by rw [cmpI, if_neg (by omega), if_neg (by omega)]
theorem cmpI_bd (x y : Int) : -1 ≤ cmpI x y ∧ cmpI x y ≤ 1 := by unfold cmpI; split <;> (try split) <;> omega
theorem cmp_hi (v w : Int) (h : hi64 v ≠ hi64 w) : cmpI v w = cmpI (hi64 v) (hi64 w) := by
  unfold cmpI hi64 at *; split <;> split <;> (try split) <;> (try split) <;> omega
theorem cmp_lo (v w : Int) (h : hi64 v = hi64 w) : cmpI v w = cmpI (lo64 v) (lo64 w) := by
  unfold cmpI hi64 lo64 at *; split <;> split <;> (try split) <;> (try split) <;> omega
theorem cmpS_bad1 {a b c d : Int} (h : ok a b = false) : cmpS a b c d = 0 := by simp [cmpS, h]
theorem cmpS_bad2 {a b c d : Int} (h : ok c d = false) : cmpS a b c d = 0 := by simp [cmpS, h]
theorem cmpS_ok {a b c d : Int} (h : ok a b = true) (h2 : ok c d = true) : cmpS a b c d = cmpI (a * d) (c * b) := by simp [cmpS, h, h2]
end RM

set_option linter.unusedSimpArgs false in
set_option linter.unusedVariables false in
set_option maxHeartbeats 1000000 in
theorem cmpi_c (x y : Int) (w : World) :
    Calls Try.prog 57 #[.int .i64 x, .int .i64 y] w fun e w' => e = .returned (.int .i64 (RM.cmpI x y)) ∧ w = w' := by
  by_cases h1 : x < y
  · have HE := Lib.hid (RM.cmp_lt h1)
    go_enter Try.func57, Try.ntmps57
    go_wp2
    go_ret
    exact ⟨ret_int HE.out.symm, rfl⟩
  · have d1 : decide (x < y) = false := by simpa using h1
    by_cases h2 : y < x
    · have HE := Lib.hid (RM.cmp_gt h2)
      go_enter Try.func57, Try.ntmps57
      go_wp2
      go_ret
      exact ⟨ret_int HE.out.symm, rfl⟩
    · have d2 : decide (y < x) = false := by simpa using h2
      have HE := Lib.hid (RM.cmp_eq (show x = y by omega))
      go_enter Try.func57, Try.ntmps57
      go_wp2
      go_ret
      exact ⟨ret_int HE.out.symm, rfl⟩

set_option linter.unusedSimpArgs false in
set_option linter.unusedVariables false in
set_option maxHeartbeats 1000000 in
theorem cmpu_c (x y : Int) (w : World) :
    Calls Try.prog 58 #[.int .u64 x, .int .u64 y] w fun e w' => e = .returned (.int .i64 (RM.cmpI x y)) ∧ w = w' := by
  by_cases h1 : x < y
  · have HE := Lib.hid (RM.cmp_lt h1)
    go_enter Try.func58, Try.ntmps58
    go_wp2
    go_ret
    exact ⟨ret_int HE.out.symm, rfl⟩
  · have d1 : decide (x < y) = false := by simpa using h1
    by_cases h2 : y < x
    · have HE := Lib.hid (RM.cmp_gt h2)
      go_enter Try.func58, Try.ntmps58
      go_wp2
      go_ret
      exact ⟨ret_int HE.out.symm, rfl⟩
    · have d2 : decide (y < x) = false := by simpa using h2
      have HE := Lib.hid (RM.cmp_eq (show x = y by omega))
      go_enter Try.func58, Try.ntmps58
      go_wp2
      go_ret
      exact ⟨ret_int HE.out.symm, rfl⟩

set_option linter.unusedSimpArgs false in
set_option linter.unusedVariables false in
set_option maxHeartbeats 1000000 in
theorem compare_c (x y : Int) (hx : -9223372036854775808 ≤ RM.hi64 x ∧ RM.hi64 x ≤ 9223372036854775807) (hy : -9223372036854775808 ≤ RM.hi64 y ∧ RM.hi64 y ≤ 9223372036854775807) (w : World) :
    Calls Try.prog 48 #[.agg #[.int .i64 (RM.hi64 (x)), .int .u64 (RM.lo64 (x))], .agg #[.int .i64 (RM.hi64 (y)), .int .u64 (RM.lo64 (y))]] w fun e w' => e = .returned (.int .i64 (RM.cmpI x y)) ∧ Below w.heap.size w w' := by
  by_cases h : RM.hi64 x = RM.hi64 y
  · have HE := Lib.hid (RM.cmp_lo x y h)
    have d1 : (RM.hi64 x != RM.hi64 y) = false := by simpa using h
    clear h
    go_enter Try.func48, Try.ntmps48
    go_wp2_with (first | (go_at_call 57; refine (cmpi_c _ _ _).mono ?_; rintro e w' ⟨rfl, rfl⟩) | (go_at_call 58; refine (cmpu_c _ _ _).mono ?_; rintro e w' ⟨rfl, rfl⟩))
    go_ret
    refine ⟨ret_int HE.out.symm, ?_⟩
    (repeat' (first | (with_reducible exact Below.refl _ _) | (with_reducible refine Below.alloc ?_ ?_ _) | (with_reducible refine below_drewN' ?_ _) | (with_reducible refine Below.drew ?_) | (with_reducible refine Below.setCell ?_ ?_ _) | (with_reducible refine Below.trans ?_ (Below.mono (by with_reducible assumption) ?_)) | go_size))
  · have HE := Lib.hid (RM.cmp_hi x y h)
    have d1 : (RM.hi64 x != RM.hi64 y) = true := by simpa using h
    clear h
    go_enter Try.func48, Try.ntmps48
    go_wp2_with (first | (go_at_call 57; refine (cmpi_c _ _ _).mono ?_; rintro e w' ⟨rfl, rfl⟩) | (go_at_call 58; refine (cmpu_c _ _ _).mono ?_; rintro e w' ⟨rfl, rfl⟩))
    go_ret
    refine ⟨ret_int HE.out.symm, ?_⟩
    (repeat' (first | (with_reducible exact Below.refl _ _) | (with_reducible refine Below.alloc ?_ ?_ _) | (with_reducible refine below_drewN' ?_ _) | (with_reducible refine Below.drew ?_) | (with_reducible refine Below.setCell ?_ ?_ _) | (with_reducible refine Below.trans ?_ (Below.mono (by with_reducible assumption) ?_)) | go_size))

set_option linter.unusedSimpArgs false in
set_option linter.unusedVariables false in
set_option maxHeartbeats 1000000 in
theorem Cmp_c (a b c d : Int) (ha : -9223372036854775808 ≤ a ∧ a ≤ 9223372036854775807) (hb : -9223372036854775808 ≤ b ∧ b ≤ 9223372036854775807) (hc : -9223372036854775808 ≤ c ∧ c ≤ 9223372036854775807) (hd : -9223372036854775808 ≤ d ∧ d ≤ 9223372036854775807) (w : World) :
    Calls Try.prog 24 #[.agg #[.int .i64 a, .int .i64 b], .agg #[.int .i64 c, .int .i64 d]] w fun e w' => e = .returned (.int .i64 (RM.cmpS a b c d)) ∧ Below w.heap.size w w' := by
  cases k1 : RM.ok a b
  · have HE := Lib.hid (RM.cmpS_bad1 (c := c) (d := d) k1)
    go_enter Try.func24, Try.ntmps24
    go_wp2_with fail
    refine (valid_c a b ha hb _).mono ?_
    rintro e w1 ⟨rfl, hb1⟩
    have hc1 := old_cell hb1
    have hf1 := old_frozen hb1
    have hs1 := hb1.size
    (try simp only [World.size_alloc, World.size_setCell, World.size_drew, size_drewN] at hs1)
    have lw_1 : w.heap.size < w1.heap.size := (by omega)
    have mw_1 : w.heap.size < w1.heap.size + 1 := (by omega)
    have nw_1 : ¬ w.heap.size = w1.heap.size := (by omega)
    have lwp1_1 : w.heap.size + 1 < w1.heap.size := (by omega)
    have mwp1_1 : w.heap.size + 1 < w1.heap.size + 1 := (by omega)
    have nwp1_1 : ¬ w.heap.size + 1 = w1.heap.size := (by omega)
    go_wp2
    go_ret
    refine ⟨ret_int HE.out.symm, ?_⟩
    (repeat' (first | (with_reducible exact Below.refl _ _) | (with_reducible refine Below.alloc ?_ ?_ _) | (with_reducible refine below_drewN' ?_ _) | (with_reducible refine Below.drew ?_) | (with_reducible refine Below.setCell ?_ ?_ _) | (with_reducible refine Below.trans ?_ (Below.mono (by with_reducible assumption) ?_)) | go_size))
  · cases k2 : RM.ok c d
    · have HE := Lib.hid (RM.cmpS_bad2 (a := a) (b := b) k2)
      go_enter Try.func24, Try.ntmps24
      go_wp2_with fail
      refine (valid_c a b ha hb _).mono ?_
      rintro e w1 ⟨rfl, hb1⟩
      have hc1 := old_cell hb1
      have hf1 := old_frozen hb1
      have hs1 := hb1.size
      (try simp only [World.size_alloc, World.size_setCell, World.size_drew, size_drewN] at hs1)
      have lw_1 : w.heap.size < w1.heap.size := (by omega)
      have mw_1 : w.heap.size < w1.heap.size + 1 := (by omega)
      have nw_1 : ¬ w.heap.size = w1.heap.size := (by omega)
      have lwp1_1 : w.heap.size + 1 < w1.heap.size := (by omega)
      have mwp1_1 : w.heap.size + 1 < w1.heap.size + 1 := (by omega)
      have nwp1_1 : ¬ w.heap.size + 1 = w1.heap.size := (by omega)
      go_wp2_with fail
      refine (valid_c c d hc hd _).mono ?_
      rintro e w2 ⟨rfl, hb2⟩
      have hc2 := old_cell hb2
      have hf2 := old_frozen hb2
      have hs2 := hb2.size
      (try simp only [World.size_alloc, World.size_setCell, World.size_drew, size_drewN] at hs2)
      have lw_2 : w.heap.size < w2.heap.size := (by omega)
      have mw_2 : w.heap.size < w2.heap.size + 1 := (by omega)
      have nw_2 : ¬ w.heap.size = w2.heap.size := (by omega)
      have lwp1_2 : w.heap.size + 1 < w2.heap.size := (by omega)
      have mwp1_2 : w.heap.size + 1 < w2.heap.size + 1 := (by omega)
      have nwp1_2 : ¬ w.heap.size + 1 = w2.heap.size := (by omega)
      go_wp2
      go_ret
      refine ⟨ret_int HE.out.symm, ?_⟩
      (repeat' (first | (with_reducible exact Below.refl _ _) | (with_reducible refine Below.alloc ?_ ?_ _) | (with_reducible refine below_drewN' ?_ _) | (with_reducible refine Below.drew ?_) | (with_reducible refine Below.setCell ?_ ?_ _) | (with_reducible refine Below.trans ?_ (Below.mono (by with_reducible assumption) ?_)) | go_size))
    · have HE := Lib.hid (RM.cmpS_ok k1 k2)
      have p1 := RM.prod_bd128 a d ha hd
      have p2 := RM.prod_bd128 c b hc hb
      go_enter Try.func24, Try.ntmps24
      go_wp2_with fail
      refine (valid_c a b ha hb _).mono ?_
      rintro e w1 ⟨rfl, hb1⟩
      have hc1 := old_cell hb1
      have hf1 := old_frozen hb1
      have hs1 := hb1.size
      (try simp only [World.size_alloc, World.size_setCell, World.size_drew, size_drewN] at hs1)
      have lw_1 : w.heap.size < w1.heap.size := (by omega)
      have mw_1 : w.heap.size < w1.heap.size + 1 := (by omega)
      have nw_1 : ¬ w.heap.size = w1.heap.size := (by omega)
      have lwp1_1 : w.heap.size + 1 < w1.heap.size := (by omega)
      have mwp1_1 : w.heap.size + 1 < w1.heap.size + 1 := (by omega)
      have nwp1_1 : ¬ w.heap.size + 1 = w1.heap.size := (by omega)
      go_wp2_with fail
      refine (valid_c c d hc hd _).mono ?_
      rintro e w2 ⟨rfl, hb2⟩
      have hc2 := old_cell hb2
      have hf2 := old_frozen hb2
      have hs2 := hb2.size
      (try simp only [World.size_alloc, World.size_setCell, World.size_drew, size_drewN] at hs2)
      have lw_2 : w.heap.size < w2.heap.size := (by omega)
      have mw_2 : w.heap.size < w2.heap.size + 1 := (by omega)
      have nw_2 : ¬ w.heap.size = w2.heap.size := (by omega)
      have lwp1_2 : w.heap.size + 1 < w2.heap.size := (by omega)
      have mwp1_2 : w.heap.size + 1 < w2.heap.size + 1 := (by omega)
      have nwp1_2 : ¬ w.heap.size + 1 = w2.heap.size := (by omega)
      go_wp2_with fail
      go_region_held3 (fun w' => w'.cell? ⟨w.heap.size, 0, none⟩ = some (.int .i64 a) ∧ w'.cell? ⟨w.heap.size, 1, none⟩ = some (.int .i64 b) ∧ w'.cell? ⟨w.heap.size + 1, 0, none⟩ = some (.int .i64 c) ∧ w'.cell? ⟨w.heap.size + 1, 1, none⟩ = some (.int .i64 d) ∧ w.heap.size < w'.heap.size ∧ w.heap.size + 1 < w'.heap.size) ((go_split_ands; refine ⟨?_, ?_, ?_, ?_, ?_, ?_⟩ <;> (first | (with_reducible assumption) | omega | (simp only [World.size_alloc, World.size_setCell, World.size_drew, size_drewN]; omega) | (rw [hc5 _ _ (by first | omega | (simp only [World.size_alloc, World.size_setCell, World.size_drew, size_drewN]; omega))]; (first | (with_reducible assumption) | (go_simp; done))) | (rw [hc4 _ _ (by first | omega | (simp only [World.size_alloc, World.size_setCell, World.size_drew, size_drewN]; omega))]; (first | (with_reducible assumption) | (go_simp; done))) | (rw [hc3 _ _ (by first | omega | (simp only [World.size_alloc, World.size_setCell, World.size_drew, size_drewN]; omega))]; (first | (with_reducible assumption) | (go_simp; done))) | (go_simp; done) | go_keep))) (first | (go_at_call_of 37 a; refine (product_c a d ha hd _).mono ?_; rintro e w3 ⟨rfl, hb3⟩; have hc3 := old_cell hb3; have hf3 := old_frozen hb3; have hs3 := hb3.size; (try simp only [World.size_alloc, World.size_setCell, World.size_drew, size_drewN] at hs3); have lw_3 : w.heap.size < w3.heap.size := (by omega); have mw_3 : w.heap.size < w3.heap.size + 1 := (by omega); have nw_3 : ¬ w.heap.size = w3.heap.size := (by omega); have lwp1_3 : w.heap.size + 1 < w3.heap.size := (by omega); have mwp1_3 : w.heap.size + 1 < w3.heap.size + 1 := (by omega); have nwp1_3 : ¬ w.heap.size + 1 = w3.heap.size := (by omega)) | (go_at_call_of 37 c; refine (product_c c b hc hb _).mono ?_; rintro e w4 ⟨rfl, hb4⟩; have hc4 := old_cell hb4; have hf4 := old_frozen hb4; have hs4 := hb4.size; (try simp only [World.size_alloc, World.size_setCell, World.size_drew, size_drewN] at hs4); have lw_4 : w.heap.size < w4.heap.size := (by omega); have mw_4 : w.heap.size < w4.heap.size + 1 := (by omega); have nw_4 : ¬ w.heap.size = w4.heap.size := (by omega); have lwp1_4 : w.heap.size + 1 < w4.heap.size := (by omega); have mwp1_4 : w.heap.size + 1 < w4.heap.size + 1 := (by omega); have nwp1_4 : ¬ w.heap.size + 1 = w4.heap.size := (by omega)) | (go_at_call 48; refine (compare_c _ _ p1 p2 _).mono ?_; rintro e w5 ⟨rfl, hb5⟩; have hc5 := old_cell hb5; have hf5 := old_frozen hb5; have hs5 := hb5.size; (try simp only [World.size_alloc, World.size_setCell, World.size_drew, size_drewN] at hs5); have lw_5 : w.heap.size < w5.heap.size := (by omega); have mw_5 : w.heap.size < w5.heap.size + 1 := (by omega); have nw_5 : ¬ w.heap.size = w5.heap.size := (by omega); have lwp1_5 : w.heap.size + 1 < w5.heap.size := (by omega); have mwp1_5 : w.heap.size + 1 < w5.heap.size + 1 := (by omega); have nwp1_5 : ¬ w.heap.size + 1 = w5.heap.size := (by omega)))
      go_wp2
      go_ret
      refine ⟨ret_int HE.out.symm, ?_⟩
      (repeat' (first | (with_reducible exact Below.refl _ _) | (with_reducible refine Below.alloc ?_ ?_ _) | (with_reducible refine below_drewN' ?_ _) | (with_reducible refine Below.drew ?_) | (with_reducible refine Below.setCell ?_ ?_ _) | (with_reducible refine Below.trans ?_ (Below.mono (by with_reducible assumption) ?_)) | go_size))
end Go.Proofs.Ytpoiojacpaglcaa
