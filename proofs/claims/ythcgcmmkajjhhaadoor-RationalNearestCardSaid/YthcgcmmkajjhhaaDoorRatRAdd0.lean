/- The reference's Add: common facts. -/
import Derived.Test.YthcgcmmkajjhhaaDoorRatRAddM
namespace Go.Proofs.YthcgcmmkajjhhaaDoor
set_option linter.unusedVariables false
set_option linter.unusedSimpArgs false
open Go.RowKit Go.Sort
theorem mul_bd (x y : Int) (hx : 0 ≤ x ∧ x ≤ 9223372036854775808) (hy : 0 ≤ y ∧ y ≤ 9223372036854775807) : 0 ≤ x * y ∧ x * y ≤ 9223372036854775808 * 9223372036854775807 :=
  ⟨Int.mul_nonneg hx.1 hy.1, Int.mul_le_mul hx.2 hy.2 hy.1 (by omega)⟩
theorem hi_sum {X Y : Int} (hx : 0 ≤ X ∧ X ≤ 9223372036854775808 * 9223372036854775807) (hy : 0 ≤ Y ∧ Y ≤ 9223372036854775808 * 9223372036854775807) : RM.hi64 (X + Y) ≤ 18446744073709551615 := by unfold RM.hi64; omega
theorem RM.div_bd {t e : Int} (bt : 0 ≤ RM.hi64 t ∧ RM.hi64 t ≤ 18446744073709551615) (he : 1 ≤ e) (o : RM.hi64 t < e) : 0 ≤ t / e ∧ t / e ≤ 18446744073709551615 := by
  unfold RM.hi64 at *
  refine ⟨Int.ediv_nonneg (by omega) (by omega), ?_⟩
  have h1 : t < 18446744073709551616 * e := by omega
  have h2 : t / e < 18446744073709551616 := Int.ediv_lt_of_lt_mul (by omega) h1
  omega
theorem widene_run (a b : Int) (hne : ¬ (a = 0 ∧ b = 0)) (u : World) : (binOp .eql 43 (.agg #[.int .u64 a, .int .u64 b]) (.agg #[.int .u64 0, .int .u64 0])).run Tryd.prog u = .ok (.bool false) u := by
  by_cases e : a = 0
  · have e2 : (b == 0) = false := beq_eq_false_iff_ne.2 (fun e2 => hne ⟨e, e2⟩)
    subst e
    clear hne
    go_simp
  · have e2 : (a == 0) = false := beq_eq_false_iff_ne.2 e
    clear hne
    go_simp
theorem wideeq_run (u : World) : (binOp .eql 43 (.agg #[.int .u64 0, .int .u64 0]) (.agg #[.int .u64 0, .int .u64 0])).run Tryd.prog u = .ok (.bool true) u := by go_simp
end Go.Proofs.YthcgcmmkajjhhaaDoor
