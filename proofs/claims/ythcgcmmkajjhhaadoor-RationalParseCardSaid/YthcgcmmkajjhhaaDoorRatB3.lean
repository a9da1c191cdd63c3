/- The reference's numbers of 128 bits. -/
import Derived.Test.YthcgcmmkajjhhaaDoorRatE1
import Derived.Shelf.Spec.BitsCarry
namespace Go.Proofs.YthcgcmmkajjhhaaDoor
open Go.RowKit
namespace RM
theorem uplus (v w : Int) (h : hi64 (v + w) ≤ 18446744073709551615) (hv : 0 ≤ hi64 v) (hw : 0 ≤ hi64 w) :
    lo64 (hi64 v + hi64 w + hi64 (lo64 v + lo64 w)) = hi64 (v + w) ∧ lo64 (lo64 v + lo64 w) = lo64 (v + w) := by
  simp only [hi64, lo64] at *; omega
theorem uminus (v w : Int) (h : w ≤ v) (hv : hi64 v ≤ 18446744073709551615) (hw : 0 ≤ hi64 w) :
    lo64 (hi64 v - hi64 w - -hi64 (lo64 v - lo64 w)) = hi64 (v - w) ∧ lo64 (lo64 v - lo64 w) = lo64 (v - w) := by
  simp only [hi64, lo64] at *; omega
theorem borrow_bd (v w : Int) : 0 ≤ -hi64 (lo64 v - lo64 w) ∧ -hi64 (lo64 v - lo64 w) ≤ 1 := by unfold hi64 lo64; omega
def lessB (v w : Int) : Bool := decide (v < w)
theorem less_hi (v w : Int) (h : hi64 v < hi64 w) : lessB v w = true := by simp only [lessB, hi64, decide_eq_true_eq] at *; omega
theorem less_no (v w : Int) (h : hi64 w < hi64 v) : lessB v w = false := by simp only [lessB, hi64, decide_eq_false_iff_not] at *; omega
theorem less_lo (v w : Int) (h : hi64 v = hi64 w) : lessB v w = decide (lo64 v < lo64 w) := by
  unfold lessB
  apply decide_eq_decide.2
  unfold hi64 at h
  unfold lo64
  omega
def signB (neg : Bool) (q : Int) : Bool := decide (q ≤ if neg = true then 9223372036854775808 else 9223372036854775807)
def signZ (neg : Bool) (q : Int) : Int := IntKind.i64.wrap (if neg = true then -q else q)
theorem u_eq (v : Int) (d : Int) : dq (hi64 v) (lo64 v) d = v / d ∧ dr (hi64 v) (lo64 v) d = v % d := by unfold dq dr; rw [hi_lo]; exact ⟨rfl, rfl⟩
end RM

theorem sub64_run (x y c : Int) (hx : 0 ≤ x ∧ x ≤ 18446744073709551615) (hy : 0 ≤ y ∧ y ≤ 18446744073709551615) (hc0 : 0 ≤ c) (hc : c ≤ 1) (w : World) :
    (callFunc 50 #[.int .u64 x, .int .u64 y, .int .u64 c]).run Tryd.prog w = .ok (.value (.tuple #[.int .u64 (RM.lo64 (x - y - c)), .int .u64 (-RM.hi64 (x - y - c))])) w := by
  obtain ⟨a, rfl⟩ := Int.eq_ofNat_of_zero_le hx.1
  obtain ⟨b, rfl⟩ := Int.eq_ofNat_of_zero_le hy.1
  obtain ⟨k, rfl⟩ := Int.eq_ofNat_of_zero_le hc0
  rw [run_callFunc_extern Tryd.func50 (by kernel_rfl) (by kernel_rfl) (by kernel_rfl) (e := sub64Entry) (by kernel_rfl), run_sub64 a b k (by omega)]
  simp only [Result.andThen, RM.hi64, RM.lo64]
  have e1 : (((a + 18446744073709551616 - b - k) % 18446744073709551616 : Nat) : Int) = ((a : Int) - b - k) % 18446744073709551616 := by omega
  have e2 : ((if a < b + k then 1 else 0 : Nat) : Int) = -(((a : Int) - b - k) / 18446744073709551616) := by split <;> omega
  rw [e1, e2]

set_option linter.unusedSimpArgs false in
set_option linter.unusedVariables false in
set_option maxHeartbeats 1000000 in
theorem times_c (x y : Int) (hx : 0 ≤ x ∧ x ≤ 18446744073709551615) (hy : 0 ≤ y ∧ y ≤ 18446744073709551615) (w : World) :
    Calls Tryd.prog 26 #[.int .u64 x, .int .u64 y] w fun e w' => e = .returned (.agg #[.int .u64 (RM.hi64 (x * y)), .int .u64 (RM.lo64 (x * y))]) ∧ Below w.heap.size w w' := by
  go_enter Tryd.func26, Tryd.ntmps26
  go_wp2_with (first | (go_at_call 48; refine (mul64_c _ _ (by omega) (by omega) _).mono ?_; rintro e w' ⟨rfl, rfl⟩))
  refine bodyPost_ret (v := .agg #[.int .u64 (RM.hi64 (x * y)), .int .u64 (RM.lo64 (x * y))]) ?_ rfl ⟨rfl, ?_⟩
  · simp [results, Tryd.results26, go_sem]
  (repeat' (first | (with_reducible exact Below.refl _ _) | (with_reducible refine Below.alloc ?_ ?_ _) | (with_reducible refine below_drewN' ?_ _) | (with_reducible refine Below.drew ?_) | (with_reducible refine Below.setCell ?_ ?_ _) | (with_reducible refine Below.trans ?_ (Below.mono (by with_reducible assumption) ?_)) | go_size))

set_option linter.unusedSimpArgs false in
set_option linter.unusedVariables false in
set_option maxHeartbeats 1000000 in
theorem rplus_c (x y : Int) (hx : 0 ≤ RM.hi64 x ∧ RM.hi64 x ≤ 18446744073709551615) (hy : 0 ≤ RM.hi64 y ∧ RM.hi64 y ≤ 18446744073709551615) (hs : RM.hi64 (x + y) ≤ 18446744073709551615) (w : World) :
    Calls Tryd.prog 28 #[.agg #[.int .u64 (RM.hi64 (x)), .int .u64 (RM.lo64 (x))], .agg #[.int .u64 (RM.hi64 (y)), .int .u64 (RM.lo64 (y))]] w fun e w' => e = .returned (.agg #[.int .u64 (RM.hi64 (x + y)), .int .u64 (RM.lo64 (x + y))]) ∧ Below w.heap.size w w' := by
  obtain ⟨e1, e2⟩ := RM.uplus x y hs hx.1 hy.1
  have HE1 := Lib.hid e1
  have HE2 := Lib.hid e2
  clear e1 e2
  have bx := RM.lo_bd x
  have by' := RM.lo_bd y
  have bc := RM.carry_bd x y
  have a1 := add64_run (RM.lo64 x) (RM.lo64 y) 0 (by omega) (by omega) (by omega) (by omega)
  rw [Int.add_zero] at a1
  have a2 := add64_run (RM.hi64 x) (RM.hi64 y) (RM.hi64 (RM.lo64 x + RM.lo64 y)) (by omega) (by omega) (by omega) (by omega)
  go_enter Tryd.func28, Tryd.ntmps28
  go_wp2
  refine bodyPost_ret (v := .agg #[.int .u64 (RM.hi64 (x + y)), .int .u64 (RM.lo64 (x + y))]) ?_ rfl ⟨rfl, ?_⟩
  · rw [← HE1.out, ← HE2.out]; simp [results, Tryd.results28, go_sem]
  (repeat' (first | (with_reducible exact Below.refl _ _) | (with_reducible refine Below.alloc ?_ ?_ _) | (with_reducible refine below_drewN' ?_ _) | (with_reducible refine Below.drew ?_) | (with_reducible refine Below.setCell ?_ ?_ _) | (with_reducible refine Below.trans ?_ (Below.mono (by with_reducible assumption) ?_)) | go_size))

set_option linter.unusedSimpArgs false in
set_option linter.unusedVariables false in
set_option maxHeartbeats 1000000 in
theorem rminus_c (x y : Int) (hx : 0 ≤ RM.hi64 x ∧ RM.hi64 x ≤ 18446744073709551615) (hy : 0 ≤ RM.hi64 y ∧ RM.hi64 y ≤ 18446744073709551615) (hs : y ≤ x) (w : World) :
    Calls Tryd.prog 30 #[.agg #[.int .u64 (RM.hi64 (x)), .int .u64 (RM.lo64 (x))], .agg #[.int .u64 (RM.hi64 (y)), .int .u64 (RM.lo64 (y))]] w fun e w' => e = .returned (.agg #[.int .u64 (RM.hi64 (x - y)), .int .u64 (RM.lo64 (x - y))]) ∧ Below w.heap.size w w' := by
  obtain ⟨e1, e2⟩ := RM.uminus x y hs hx.2 hy.1
  have HE1 := Lib.hid e1
  have HE2 := Lib.hid e2
  clear e1 e2
  have bx := RM.lo_bd x
  have by' := RM.lo_bd y
  have bc := RM.borrow_bd x y
  have a1 := sub64_run (RM.lo64 x) (RM.lo64 y) 0 (by omega) (by omega) (by omega) (by omega)
  rw [Int.sub_zero] at a1
  have a2 := sub64_run (RM.hi64 x) (RM.hi64 y) (-RM.hi64 (RM.lo64 x - RM.lo64 y)) (by omega) (by omega) (by omega) (by omega)
  go_enter Tryd.func30, Tryd.ntmps30
  go_wp2
  refine bodyPost_ret (v := .agg #[.int .u64 (RM.hi64 (x - y)), .int .u64 (RM.lo64 (x - y))]) ?_ rfl ⟨rfl, ?_⟩
  · rw [← HE1.out, ← HE2.out]; simp [results, Tryd.results30, go_sem]
  (repeat' (first | (with_reducible exact Below.refl _ _) | (with_reducible refine Below.alloc ?_ ?_ _) | (with_reducible refine below_drewN' ?_ _) | (with_reducible refine Below.drew ?_) | (with_reducible refine Below.setCell ?_ ?_ _) | (with_reducible refine Below.trans ?_ (Below.mono (by with_reducible assumption) ?_)) | go_size))

set_option linter.unusedSimpArgs false in
set_option linter.unusedVariables false in
set_option maxHeartbeats 1000000 in
theorem rless_c (x y : Int) (hx : 0 ≤ RM.hi64 x ∧ RM.hi64 x ≤ 18446744073709551615) (hy : 0 ≤ RM.hi64 y ∧ RM.hi64 y ≤ 18446744073709551615) (w : World) :
    Calls Tryd.prog 29 #[.agg #[.int .u64 (RM.hi64 (x)), .int .u64 (RM.lo64 (x))], .agg #[.int .u64 (RM.hi64 (y)), .int .u64 (RM.lo64 (y))]] w fun e w' => e = .returned (.bool (RM.lessB x y)) ∧ Below w.heap.size w w' := by
  by_cases h1 : RM.hi64 x < RM.hi64 y
  · have HE := Lib.hid (RM.less_hi x y h1)
    go_enter Tryd.func29, Tryd.ntmps29
    go_wp2
    go_ret
    refine ⟨ret_bool HE.out.symm, ?_⟩
    (repeat' (first | (with_reducible exact Below.refl _ _) | (with_reducible refine Below.alloc ?_ ?_ _) | (with_reducible refine below_drewN' ?_ _) | (with_reducible refine Below.drew ?_) | (with_reducible refine Below.setCell ?_ ?_ _) | (with_reducible refine Below.trans ?_ (Below.mono (by with_reducible assumption) ?_)) | go_size))
  · have d1 : decide (RM.hi64 x < RM.hi64 y) = false := by simpa using h1
    by_cases h2 : RM.hi64 x = RM.hi64 y
    · have HE := Lib.hid (RM.less_lo x y h2)
      have e2 : (RM.hi64 x == RM.hi64 y) = true := by simpa using h2
      clear h2
      go_enter Tryd.func29, Tryd.ntmps29
      go_wp2
      go_ret
      refine ⟨ret_bool HE.out.symm, ?_⟩
      (repeat' (first | (with_reducible exact Below.refl _ _) | (with_reducible refine Below.alloc ?_ ?_ _) | (with_reducible refine below_drewN' ?_ _) | (with_reducible refine Below.drew ?_) | (with_reducible refine Below.setCell ?_ ?_ _) | (with_reducible refine Below.trans ?_ (Below.mono (by with_reducible assumption) ?_)) | go_size))
    · have HE := Lib.hid (RM.less_no x y (by omega))
      have e2 : (RM.hi64 x == RM.hi64 y) = false := by simpa using h2
      go_enter Tryd.func29, Tryd.ntmps29
      go_wp2
      go_ret
      refine ⟨ret_bool HE.out.symm, ?_⟩
      (repeat' (first | (with_reducible exact Below.refl _ _) | (with_reducible refine Below.alloc ?_ ?_ _) | (with_reducible refine below_drewN' ?_ _) | (with_reducible refine Below.drew ?_) | (with_reducible refine Below.setCell ?_ ?_ _) | (with_reducible refine Below.trans ?_ (Below.mono (by with_reducible assumption) ?_)) | go_size))

set_option linter.unusedSimpArgs false in
set_option linter.unusedVariables false in
set_option maxHeartbeats 1000000 in
theorem over_big (v d : Int) (hv : 0 ≤ RM.hi64 v ∧ RM.hi64 v ≤ 18446744073709551615) (hd : 1 ≤ d ∧ d ≤ 18446744073709551615) (hb : d ≤ RM.hi64 v) (w : World) :
    Calls Tryd.prog 31 #[.agg #[.int .u64 (RM.hi64 (v)), .int .u64 (RM.lo64 (v))], .int .u64 d] w fun e w' => e = .returned (.tuple #[.int .u64 0, .int .u64 0, .bool false]) ∧ Below w.heap.size w w' := by
  go_enter Tryd.func31, Tryd.ntmps31
  go_wp2
  go_ret3
  refine ⟨rfl, ?_⟩
  (repeat' (first | (with_reducible exact Below.refl _ _) | (with_reducible refine Below.alloc ?_ ?_ _) | (with_reducible refine below_drewN' ?_ _) | (with_reducible refine Below.drew ?_) | (with_reducible refine Below.setCell ?_ ?_ _) | (with_reducible refine Below.trans ?_ (Below.mono (by with_reducible assumption) ?_)) | go_size))

set_option linter.unusedSimpArgs false in
set_option linter.unusedVariables false in
set_option maxHeartbeats 1000000 in
theorem over_ok (v d : Int) (hv : 0 ≤ RM.hi64 v ∧ RM.hi64 v ≤ 18446744073709551615) (hd : 1 ≤ d ∧ d ≤ 18446744073709551615) (hb : RM.hi64 v < d) (w : World) :
    Calls Tryd.prog 31 #[.agg #[.int .u64 (RM.hi64 (v)), .int .u64 (RM.lo64 (v))], .int .u64 d] w fun e w' => e = .returned (.tuple #[.int .u64 (v / d), .int .u64 (v % d), .bool true]) ∧ Below w.heap.size w w' := by
  have bl := RM.lo_bd v
  obtain ⟨e1, e2⟩ := RM.u_eq v d
  rw [← e1, ← e2]
  clear e1 e2
  go_enter Tryd.func31, Tryd.ntmps31
  go_wp2_with (first | (go_at_call 51; refine (div64_c _ _ _ (by omega) (by omega) (by omega) _).mono ?_; rintro e w' ⟨rfl, nd, rfl⟩))
  go_ret3
  refine ⟨rfl, ?_⟩
  (repeat' (first | (with_reducible exact Below.refl _ _) | (with_reducible refine Below.alloc ?_ ?_ _) | (with_reducible refine below_drewN' ?_ _) | (with_reducible refine Below.drew ?_) | (with_reducible refine Below.setCell ?_ ?_ _) | (with_reducible refine Below.trans ?_ (Below.mono (by with_reducible assumption) ?_)) | go_size))

theorem ret_uint {a b : Int} (h : a = b) : Ending.returned (.int .u64 a) = .returned (.int .u64 b) := by rw [h]
set_option linter.unusedSimpArgs false in
set_option linter.unusedVariables false in
set_option maxHeartbeats 1000000 in
theorem rest_c (v d : Int) (hv : 0 ≤ RM.hi64 v ∧ RM.hi64 v ≤ 18446744073709551615) (hd : 1 ≤ d ∧ d ≤ 18446744073709551615) (w : World) :
    Calls Tryd.prog 42 #[.agg #[.int .u64 (RM.hi64 (v)), .int .u64 (RM.lo64 (v))], .int .u64 d] w fun e w' => e = .returned (.int .u64 (v % d)) ∧ Below w.heap.size w w' := by
  have bl := RM.lo_bd v
  obtain ⟨_, _, e3, m1, m2⟩ := RM.wide_div v d hd
  have HE := Lib.hid e3
  clear e3
  go_enter Tryd.func42, Tryd.ntmps42
  go_wp2
  go_quiet ((go_at_call 51; exact Calls.quiet_of (div64_c _ _ _ (by omega) (by omega) (by omega) _)))
  go_wp2
  go_ret
  refine ⟨ret_uint HE.out.symm, ?_⟩
  (repeat' (first | (with_reducible exact Below.refl _ _) | (with_reducible refine Below.alloc ?_ ?_ _) | (with_reducible refine below_drewN' ?_ _) | (with_reducible refine Below.drew ?_) | (with_reducible refine Below.setCell ?_ ?_ _) | (with_reducible refine Below.trans ?_ (Below.mono (by with_reducible assumption) ?_)) | go_size))

set_option linter.unusedSimpArgs false in
set_option linter.unusedVariables false in
set_option maxHeartbeats 1000000 in
theorem signed_c (neg : Bool) (q : Int) (hq : 0 ≤ q ∧ q ≤ 18446744073709551615) (w : World) :
    Calls Tryd.prog 32 #[.bool neg, .int .u64 q] w fun e w' => e = .returned (.tuple #[.int .i64 (RM.signZ neg q), .bool (RM.signB neg q)]) ∧ w = w' := by
  cases neg
  · have HZ := Lib.hid (show RM.signZ false q = wrap64 q by simp [RM.signZ, wrap64, IntKind.wrap_i64])
    have HB := Lib.hid (show RM.signB false q = decide (q ≤ 9223372036854775807) by simp [RM.signB])
    by_cases h : q ≤ 9223372036854775807
    · have e := IntWalk.wrap64_in q (by omega)
      go_enter Tryd.func32, Tryd.ntmps32
      go_wp2
      go_ret2
      exact ⟨by rw [HZ.out, HB.out]; simp [*], rfl⟩
    · have d1 : decide (q ≤ 9223372036854775807) = false := by simpa using h
      go_enter Tryd.func32, Tryd.ntmps32
      go_wp2
      go_ret2
      exact ⟨by rw [HZ.out, HB.out]; simp [*], rfl⟩
  · by_cases h : q = 9223372036854775808
    · subst h
      have HZ := Lib.hid (show RM.signZ true 9223372036854775808 = -9223372036854775808 by decide)
      have HB := Lib.hid (show RM.signB true 9223372036854775808 = true by decide)
      go_enter Tryd.func32, Tryd.ntmps32
      go_wp2
      go_ret2
      exact ⟨by rw [HZ.out, HB.out]; rfl, rfl⟩
    · have e2 : (q == 9223372036854775808) = false := by simpa using h
      have HZ := Lib.hid (show RM.signZ true q = wrap64 (-wrap64 q) by simp only [RM.signZ, wrap64, IntKind.wrap_i64, if_true]; omega)
      have HB := Lib.hid (show RM.signB true q = decide (q ≤ 9223372036854775807) by rw [Bool.eq_iff_iff]; simp only [RM.signB, if_true, decide_eq_true_eq]; omega)
      by_cases h2 : q ≤ 9223372036854775807
      · have e := IntWalk.wrap64_in q (by omega)
        have e3 := IntWalk.wrap64_in (-q) (by omega)
        go_enter Tryd.func32, Tryd.ntmps32
        go_wp2
        go_ret2
        exact ⟨by rw [HZ.out, HB.out]; simp [*], rfl⟩
      · have d1 : decide (q ≤ 9223372036854775807) = false := by simpa using h2
        go_enter Tryd.func32, Tryd.ntmps32
        go_wp2
        go_ret2
        exact ⟨by rw [HZ.out, HB.out]; simp [*], rfl⟩

end Go.Proofs.YthcgcmmkajjhhaaDoor
