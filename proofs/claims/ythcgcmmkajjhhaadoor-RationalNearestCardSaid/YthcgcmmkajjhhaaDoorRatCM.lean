/- Plain numbers for comparisons. -/
import Derived.Test.YthcgcmmkajjhhaaDoorRatB1
namespace Go.Proofs.YthcgcmmkajjhhaaDoor
open Go.RowKit
namespace RM
def cmpI (x y : Int) : Int := if x < y then -1 else if y < x then 1 else 0
def cmpS (a b c d : Int) : Int := if ok a b = true ∧ ok c d = true then cmpI (a * d) (c * b) else 0
theorem cmp_lt {x y : Int} (h : x < y) : cmpI x y = -1 := by rw [cmpI, if_pos h]
theorem cmp_gt {x y : Int} (h : y < x) : cmpI x y = 1 := by rw [cmpI, if_neg (by omega), if_pos h]
theorem cmp_eq {x y : Int} (h : x = y) : cmpI x y = 0 := by rw [cmpI, if_neg (by omega), if_neg (by omega)]
theorem cmpI_bd (x y : Int) : -1 ≤ cmpI x y ∧ cmpI x y ≤ 1 := by unfold cmpI; split <;> (try split) <;> omega
theorem cmp_hi (v w : Int) (h : hi64 v ≠ hi64 w) : cmpI v w = cmpI (hi64 v) (hi64 w) := by
  unfold cmpI hi64 at *; split <;> split <;> (try split) <;> (try split) <;> omega
theorem cmp_lo (v w : Int) (h : hi64 v = hi64 w) : cmpI v w = cmpI (lo64 v) (lo64 w) := by
  unfold cmpI hi64 lo64 at *; split <;> split <;> (try split) <;> (try split) <;> omega
theorem cmpS_bad1 {a b c d : Int} (h : ok a b = false) : cmpS a b c d = 0 := by simp [cmpS, h]
theorem cmpS_bad2 {a b c d : Int} (h : ok c d = false) : cmpS a b c d = 0 := by simp [cmpS, h]
theorem cmpS_ok {a b c d : Int} (h : ok a b = true) (h2 : ok c d = true) : cmpS a b c d = cmpI (a * d) (c * b) := by simp [cmpS, h, h2]
end RM
end Go.Proofs.YthcgcmmkajjhhaaDoor
