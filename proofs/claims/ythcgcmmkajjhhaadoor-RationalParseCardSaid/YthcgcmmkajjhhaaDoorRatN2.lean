/- Plain numbers for 128 bits. Imports nothing of the program. -/
import Derived.Test.YthcgcmmkajjhhaaDoorRatN
import Derived.WalkKit
import Derived.Lib.Zigzag
namespace Go.Proofs.YthcgcmmkajjhhaaDoor
namespace RM
open Go.RowKit

/-- the two halves of an integer of 128 bits -/
def hi64 (v : Int) : Int := v / 18446744073709551616
def lo64 (v : Int) : Int := v % 18446744073709551616
theorem lo_bd (v : Int) : 0 ≤ lo64 v ∧ lo64 v ≤ 18446744073709551615 := by unfold lo64; omega
theorem hi_lo (v : Int) : hi64 v * 18446744073709551616 + lo64 v = v := by unfold hi64 lo64; omega
theorem hi_bd (v : Int) (h : -170141183460469231731687303715884105728 ≤ v ∧ v < 170141183460469231731687303715884105728) : -9223372036854775808 ≤ hi64 v ∧ hi64 v ≤ 9223372036854775807 := by unfold hi64; omega
theorem hi_nn (v : Int) (h : 0 ≤ v ∧ v < 340282366920938463463374607431768211456) : 0 ≤ hi64 v ∧ hi64 v ≤ 18446744073709551615 := by unfold hi64; omega
theorem hi_neg (v : Int) : hi64 v < 0 ↔ v < 0 := by unfold hi64; omega
theorem halves (v a b : Int) (hb : 0 ≤ b ∧ b ≤ 18446744073709551615) (h : v = a * 18446744073709551616 + b) : hi64 v = a ∧ lo64 v = b := by unfold hi64 lo64; omega
theorem u64_bd (x : Int) : 0 ≤ IntKind.u64.wrap x ∧ IntKind.u64.wrap x ≤ 18446744073709551615 := by rw [IntKind.wrap_u64]; omega

theorem prod_hi (x y : Int) (hx : -9223372036854775808 ≤ x ∧ x ≤ 9223372036854775807) (hy : -9223372036854775808 ≤ y ∧ y ≤ 9223372036854775807) :
    hi64 (x * y) = IntKind.i64.wrap (IntKind.u64.wrap (IntKind.u64.wrap (hi64 (IntKind.u64.wrap x * IntKind.u64.wrap y) - (if x < 0 then IntKind.u64.wrap y else 0)) - (if y < 0 then IntKind.u64.wrap x else 0)))
    ∧ lo64 (x * y) = lo64 (IntKind.u64.wrap x * IntKind.u64.wrap y) := by
  have e := prod_split x y hx hy
  have bd := prod_bound x y hx hy
  simp only [IntKind.wrap_u64, IntKind.wrap_i64, hi64, lo64]
  generalize (x % 18446744073709551616) * (y % 18446744073709551616) = P at *
  generalize x * y = Q at *
  by_cases a : x < 0 <;> by_cases b : y < 0 <;> simp only [a, b, if_true, if_false] at e ⊢ <;> omega
theorem prod_bd128 (x y : Int) (hx : -9223372036854775808 ≤ x ∧ x ≤ 9223372036854775807) (hy : -9223372036854775808 ≤ y ∧ y ≤ 9223372036854775807) :
    -9223372036854775808 ≤ hi64 (x * y) ∧ hi64 (x * y) ≤ 9223372036854775807 := by
  have bd := prod_bound x y hx hy
  exact hi_bd _ (by omega)
theorem uprod_bd (x y : Int) (hx : 0 ≤ x ∧ x ≤ 18446744073709551615) (hy : 0 ≤ y ∧ y ≤ 18446744073709551615) : 0 ≤ x * y ∧ x * y ≤ 340282366920938463426481119284349108225 := by
  obtain ⟨a, rfl⟩ := Int.eq_ofNat_of_zero_le hx.1
  obtain ⟨b, rfl⟩ := Int.eq_ofNat_of_zero_le hy.1
  have : a * b ≤ 18446744073709551615 * 18446744073709551615 := Nat.mul_le_mul (by omega) (by omega)
  rw [← Int.natCast_mul]
  omega
theorem plus_hi (v w : Int) (h : -9223372036854775808 ≤ hi64 (v + w) ∧ hi64 (v + w) ≤ 9223372036854775807) :
    IntKind.i64.wrap (lo64 (IntKind.u64.wrap (hi64 v) + IntKind.u64.wrap (hi64 w) + hi64 (lo64 v + lo64 w))) = hi64 (v + w) ∧ lo64 (lo64 v + lo64 w) = lo64 (v + w) := by
  simp only [IntKind.wrap_u64, IntKind.wrap_i64, hi64, lo64] at *
  omega
theorem carry_bd (v w : Int) : 0 ≤ hi64 (lo64 v + lo64 w) ∧ hi64 (lo64 v + lo64 w) ≤ 1 := by unfold hi64 lo64; omega
theorem compl_halves (v : Int) : hi64 (-v - 1) = -hi64 v - 1 ∧ lo64 (-v - 1) = 18446744073709551615 - lo64 v := by unfold hi64 lo64; omega
theorem not_i64 (x : Int) (h : -9223372036854775808 ≤ x ∧ x ≤ 9223372036854775807) : Go.bits .xor .i64 (-1) x = -x - 1 := by
  show IntKind.i64.wrap ((BitVec.ofInt 64 (-1) ^^^ BitVec.ofInt 64 x).toNat : Int) = _
  have h1 : (BitVec.ofInt 64 (-1)).toNat = 2 ^ 64 - 1 := by decide
  have h2 : (BitVec.ofInt 64 x).toNat = (x % 18446744073709551616).toNat := by rw [BitVec.toNat_ofInt]; rfl
  rw [BitVec.toNat_xor, h1, h2, Lib.xor_ones64 _ (by omega), IntKind.wrap_i64]
  omega
theorem not_u64 (x : Int) (h : 0 ≤ x ∧ x ≤ 18446744073709551615) : Go.bits .xor .u64 IntKind.u64.max x = 18446744073709551615 - x := by
  obtain ⟨a, rfl⟩ := Int.eq_ofNat_of_zero_le h.1
  have e2 : IntKind.u64.max = ((2 ^ 64 - 1 : Nat) : Int) := by decide
  rw [e2, bits_xor_u64_nat _ _ (by decide) (by omega), Lib.xor_ones64 _ (by omega)]
  omega
def narrowB (v : Int) : Bool := decide (-9223372036854775808 ≤ v ∧ v ≤ 9223372036854775807)
def narrowV (v : Int) : Int := if narrowB v = true then v else 0
theorem narrow_no (v : Int) (h : (hi64 v != wrap64 (lo64 v) / 9223372036854775808) = true) : narrowV v = 0 ∧ narrowB v = false := by
  have hb : narrowB v = false := by
    simp only [narrowB, decide_eq_false_iff_not, bne_iff_ne, ne_eq, wrap64, hi64, lo64] at *
    omega
  simp [narrowV, hb]
theorem narrow_yes (v : Int) (h : (hi64 v != wrap64 (lo64 v) / 9223372036854775808) = false) : narrowV v = wrap64 (lo64 v) ∧ narrowB v = true := by
  have hb : -9223372036854775808 ≤ v ∧ v ≤ 9223372036854775807 ∧ v = wrap64 (lo64 v) := by
    simp only [bne_eq_false_iff_eq, wrap64, hi64, lo64] at *
    omega
  have h2 : narrowB v = true := by simp only [narrowB, decide_eq_true_eq]; omega
  refine ⟨?_, h2⟩
  rw [narrowV, if_pos h2]
  exact hb.2.2
end RM
end Go.Proofs.YthcgcmmkajjhhaaDoor
