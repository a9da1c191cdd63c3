/- The library's multiplication and addition of 64 bits; the code's product, plus, complement and narrow of 128 bits. -/
import Derived.Test.YthcgcmmkajjhhaaDoorRatShelf
import Derived.Test.YthcgcmmkajjhhaaDoorRatV
import Derived.Test.YthcgcmmkajjhhaaDoorRatN2
import Derived.Laws.Externs
import Derived.Handy
namespace Go.Proofs.YthcgcmmkajjhhaaDoor
open Go.RowKit

theorem mul64_c (x y : Int) (hx : 0 ≤ x ∧ x ≤ 18446744073709551615) (hy : 0 ≤ y ∧ y ≤ 18446744073709551615) (w : World) :
    Calls Tryd.prog 48 #[.int .u64 x, .int .u64 y] w fun e w' => e = .returned (.tuple #[.int .u64 (RM.hi64 (x * y)), .int .u64 (RM.lo64 (x * y))]) ∧ w = w' := by
  obtain ⟨a, rfl⟩ := Int.eq_ofNat_of_zero_le hx.1
  obtain ⟨b, rfl⟩ := Int.eq_ofNat_of_zero_le hy.1
  refine (Tryd.bits_Mul64 a b (by omega) (by omega) w).mono ?_
  rintro e w' ⟨rfl, rfl⟩
  refine ⟨?_, rfl⟩
  simp only [RM.hi64, RM.lo64, Int.natCast_ediv, Int.natCast_emod, Int.natCast_mul]
  rfl

theorem add64_run (x y c : Int) (hx : 0 ≤ x) (hy : 0 ≤ y) (hc0 : 0 ≤ c) (hc : c ≤ 1) (w : World) :
    (callFunc 49 #[.int .u64 x, .int .u64 y, .int .u64 c]).run Tryd.prog w = .ok (.value (.tuple #[.int .u64 (RM.lo64 (x + y + c)), .int .u64 (RM.hi64 (x + y + c))])) w := by
  rw [run_callFunc_extern Tryd.func49 (by kernel_rfl) (by kernel_rfl) (by kernel_rfl) (e := add64Entry) (by kernel_rfl), run_add64 x y c hx hy hc0 hc]
  rfl

theorem ret_wide {a b c d : Int} (h1 : a = c) (h2 : b = d) : Ending.returned (.agg #[.int .i64 a, .int .u64 b]) = .returned (.agg #[.int .i64 c, .int .u64 d]) := by rw [h1, h2]
theorem ret_uwide {a b c d : Int} (h1 : a = c) (h2 : b = d) : Ending.returned (.agg #[.int .u64 a, .int .u64 b]) = .returned (.agg #[.int .u64 c, .int .u64 d]) := by rw [h1, h2]
set_option linter.unusedSimpArgs false in
set_option maxHeartbeats 400000 in
theorem product_c (x y : Int) (hx : -9223372036854775808 ≤ x ∧ x ≤ 9223372036854775807) (hy : -9223372036854775808 ≤ y ∧ y ≤ 9223372036854775807) (w : World) :
    Calls Tryd.prog 43 #[.int .i64 x, .int .i64 y] w fun e w' => e = .returned (.agg #[.int .i64 (RM.hi64 (x * y)), .int .u64 (RM.lo64 (x * y))]) ∧ Below w.heap.size w w' := by
  by_cases a : x < 0
  · by_cases b : y < 0
    · skip
      have e := RM.prod_hi x y hx hy
      rw [if_pos a, if_pos b] at e
      obtain ⟨e1, e2⟩ := e
      have HE1 := Lib.hid e1
      have HE2 := Lib.hid e2
      clear e1 e2
      have bx := RM.u64_bd x
      have by' := RM.u64_bd y
      go_enter Tryd.func43, Tryd.ntmps43
      go_wp2_with (first | (go_at_call 48; refine (mul64_c _ _ (by omega) (by omega) _).mono ?_; rintro e w' ⟨rfl, rfl⟩))
      refine bodyPost_ret (v := .agg #[.int .i64 (RM.hi64 (x * y)), .int .u64 (RM.lo64 (x * y))]) ?_ rfl ⟨rfl, ?_⟩
      · rw [HE1.out, HE2.out]; simp [results, Tryd.results43, go_sem]; simp only [wrap64, IntKind.wrap_u64, IntKind.wrap_i64] <;> omega
      (repeat' (first | (with_reducible exact Below.refl _ _) | (with_reducible refine Below.alloc ?_ ?_ _) | (with_reducible refine below_drewN' ?_ _) | (with_reducible refine Below.drew ?_) | (with_reducible refine Below.setCell ?_ ?_ _) | (with_reducible refine Below.trans ?_ (Below.mono (by with_reducible assumption) ?_)) | go_size))
    · skip
      have e := RM.prod_hi x y hx hy
      rw [if_pos a, if_neg b] at e
      obtain ⟨e1, e2⟩ := e
      rw [IntWalk.u64_in y (by omega)] at e1 e2
      have HE1 := Lib.hid e1
      have HE2 := Lib.hid e2
      clear e1 e2
      have bx := RM.u64_bd x
      have by' := RM.u64_bd y
      go_enter Tryd.func43, Tryd.ntmps43
      go_wp2_with (first | (go_at_call 48; refine (mul64_c _ _ (by omega) (by omega) _).mono ?_; rintro e w' ⟨rfl, rfl⟩))
      refine bodyPost_ret (v := .agg #[.int .i64 (RM.hi64 (x * y)), .int .u64 (RM.lo64 (x * y))]) ?_ rfl ⟨rfl, ?_⟩
      · rw [HE1.out, HE2.out]; simp [results, Tryd.results43, go_sem]; simp only [wrap64, IntKind.wrap_u64, IntKind.wrap_i64] <;> omega
      (repeat' (first | (with_reducible exact Below.refl _ _) | (with_reducible refine Below.alloc ?_ ?_ _) | (with_reducible refine below_drewN' ?_ _) | (with_reducible refine Below.drew ?_) | (with_reducible refine Below.setCell ?_ ?_ _) | (with_reducible refine Below.trans ?_ (Below.mono (by with_reducible assumption) ?_)) | go_size))
  · by_cases b : y < 0
    · skip
      have e := RM.prod_hi x y hx hy
      rw [if_neg a, if_pos b] at e
      obtain ⟨e1, e2⟩ := e
      rw [IntWalk.u64_in x (by omega)] at e1 e2
      have HE1 := Lib.hid e1
      have HE2 := Lib.hid e2
      clear e1 e2
      have bx := RM.u64_bd x
      have by' := RM.u64_bd y
      go_enter Tryd.func43, Tryd.ntmps43
      go_wp2_with (first | (go_at_call 48; refine (mul64_c _ _ (by omega) (by omega) _).mono ?_; rintro e w' ⟨rfl, rfl⟩))
      refine bodyPost_ret (v := .agg #[.int .i64 (RM.hi64 (x * y)), .int .u64 (RM.lo64 (x * y))]) ?_ rfl ⟨rfl, ?_⟩
      · rw [HE1.out, HE2.out]; simp [results, Tryd.results43, go_sem]; simp only [wrap64, IntKind.wrap_u64, IntKind.wrap_i64] <;> omega
      (repeat' (first | (with_reducible exact Below.refl _ _) | (with_reducible refine Below.alloc ?_ ?_ _) | (with_reducible refine below_drewN' ?_ _) | (with_reducible refine Below.drew ?_) | (with_reducible refine Below.setCell ?_ ?_ _) | (with_reducible refine Below.trans ?_ (Below.mono (by with_reducible assumption) ?_)) | go_size))
    · skip
      have bd := RM.prod_bd128 x y hx hy
      have bn := RM.uprod_bd x y (by omega) (by omega)
      have bh := RM.hi_nn (x * y) (by omega)
      clear bn
      go_enter Tryd.func43, Tryd.ntmps43
      go_wp2_with (first | (go_at_call 48; refine (mul64_c _ _ (by omega) (by omega) _).mono ?_; rintro e w' ⟨rfl, rfl⟩))
      refine bodyPost_ret (v := .agg #[.int .i64 (RM.hi64 (x * y)), .int .u64 (RM.lo64 (x * y))]) ?_ rfl ⟨rfl, ?_⟩
      · simp [results, Tryd.results43, go_sem]
      (repeat' (first | (with_reducible exact Below.refl _ _) | (with_reducible refine Below.alloc ?_ ?_ _) | (with_reducible refine below_drewN' ?_ _) | (with_reducible refine Below.drew ?_) | (with_reducible refine Below.setCell ?_ ?_ _) | (with_reducible refine Below.trans ?_ (Below.mono (by with_reducible assumption) ?_)) | go_size))

set_option linter.unusedSimpArgs false in
set_option maxHeartbeats 400000 in
theorem plus_c (x y : Int) (_hx : -9223372036854775808 ≤ RM.hi64 x ∧ RM.hi64 x ≤ 9223372036854775807) (_hy : -9223372036854775808 ≤ RM.hi64 y ∧ RM.hi64 y ≤ 9223372036854775807) (hs : -9223372036854775808 ≤ RM.hi64 (x + y) ∧ RM.hi64 (x + y) ≤ 9223372036854775807) (w : World) :
    Calls Tryd.prog 44 #[.agg #[.int .i64 (RM.hi64 (x)), .int .u64 (RM.lo64 (x))], .agg #[.int .i64 (RM.hi64 (y)), .int .u64 (RM.lo64 (y))]] w fun e w' => e = .returned (.agg #[.int .i64 (RM.hi64 (x + y)), .int .u64 (RM.lo64 (x + y))]) ∧ Below w.heap.size w w' := by
  obtain ⟨e1, e2⟩ := RM.plus_hi x y hs
  have HE1 := Lib.hid e1
  have HE2 := Lib.hid e2
  clear e1 e2
  have bx := RM.lo_bd x
  have by' := RM.lo_bd y
  have bc := RM.carry_bd x y
  have bl := RM.lo_bd (RM.lo64 x + RM.lo64 y)
  have ux := RM.u64_bd (RM.hi64 x)
  have uy := RM.u64_bd (RM.hi64 y)
  have a1 := add64_run (RM.lo64 x) (RM.lo64 y) 0 (by omega) (by omega) (by omega) (by omega)
  rw [Int.add_zero] at a1
  have a2 := add64_run (IntKind.u64.wrap (RM.hi64 x)) (IntKind.u64.wrap (RM.hi64 y)) (RM.hi64 (RM.lo64 x + RM.lo64 y)) (by omega) (by omega) (by omega) (by omega)
  go_enter Tryd.func44, Tryd.ntmps44
  go_wp2
  refine bodyPost_ret (v := .agg #[.int .i64 (RM.hi64 (x + y)), .int .u64 (RM.lo64 (x + y))]) ?_ rfl ⟨rfl, ?_⟩
  · rw [← HE1.out, ← HE2.out]; simp [results, Tryd.results44, go_sem, wrap64, IntKind.wrap_i64]
  (repeat' (first | (with_reducible exact Below.refl _ _) | (with_reducible refine Below.alloc ?_ ?_ _) | (with_reducible refine below_drewN' ?_ _) | (with_reducible refine Below.drew ?_) | (with_reducible refine Below.setCell ?_ ?_ _) | (with_reducible refine Below.trans ?_ (Below.mono (by with_reducible assumption) ?_)) | go_size))

set_option linter.unusedSimpArgs false in
set_option maxHeartbeats 400000 in
theorem compl_c (v : Int) (hv : -9223372036854775808 ≤ RM.hi64 v ∧ RM.hi64 v ≤ 9223372036854775807) (w : World) :
    Calls Tryd.prog 58 #[.agg #[.int .i64 (RM.hi64 (v)), .int .u64 (RM.lo64 (v))]] w fun e w' => e = .returned (.agg #[.int .i64 (RM.hi64 (-v - 1)), .int .u64 (RM.lo64 (-v - 1))]) ∧ Below w.heap.size w w' := by
  obtain ⟨e1, e2⟩ := RM.compl_halves v
  have HE1 := Lib.hid e1
  have HE2 := Lib.hid e2
  clear e1 e2
  have bl := RM.lo_bd v
  go_enter Tryd.func58, Tryd.ntmps58
  go_wp2
  refine bodyPost_ret (v := .agg #[.int .i64 (RM.hi64 (-v - 1)), .int .u64 (RM.lo64 (-v - 1))]) ?_ rfl ⟨rfl, ?_⟩
  · rw [HE1.out, HE2.out, ← RM.not_i64 _ hv, ← RM.not_u64 _ bl]; simp [results, Tryd.results58, go_sem]; try decide
  (repeat' (first | (with_reducible exact Below.refl _ _) | (with_reducible refine Below.alloc ?_ ?_ _) | (with_reducible refine below_drewN' ?_ _) | (with_reducible refine Below.drew ?_) | (with_reducible refine Below.setCell ?_ ?_ _) | (with_reducible refine Below.trans ?_ (Below.mono (by with_reducible assumption) ?_)) | go_size))

set_option linter.unusedSimpArgs false in
set_option maxHeartbeats 400000 in
theorem narrow_c (v : Int) (_hv : -9223372036854775808 ≤ RM.hi64 v ∧ RM.hi64 v ≤ 9223372036854775807) (w : World) :
    Calls Tryd.prog 46 #[.agg #[.int .i64 (RM.hi64 (v)), .int .u64 (RM.lo64 (v))]] w fun e w' => e = .returned (.tuple #[.int .i64 (RM.narrowV v), .bool (RM.narrowB v)]) ∧ Below w.heap.size w w' := by
  have bl := RM.lo_bd v
  go_enter Tryd.func46, Tryd.ntmps46
  go_wp2
  · obtain ⟨e1, e2⟩ := RM.narrow_no v ‹_›
    go_ret2
    exact ⟨by rw [e1, e2]; rfl, (Below.refl _ _).alloc (Nat.le_refl _) _⟩
  · obtain ⟨e1, e2⟩ := RM.narrow_yes v ‹_›
    go_ret2
    exact ⟨by rw [e1, e2]; rfl, (Below.refl _ _).alloc (Nat.le_refl _) _⟩

end Go.Proofs.YthcgcmmkajjhhaaDoor
