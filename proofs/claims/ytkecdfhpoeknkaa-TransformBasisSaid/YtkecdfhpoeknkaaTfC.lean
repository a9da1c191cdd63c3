/- The reference's Clamp; blocks as values. -/
import Derived.Test.YtkecdfhpoeknkaaTfB
namespace Go.Proofs.Ytkecdfhpoeknkaa
set_option linter.unusedVariables false
set_option linter.unusedSimpArgs false
open Go.RowKit

/-- the reference's Clamp -/
def cl (v : Int) : Int := max (-2097152) (min v 2097152)
theorem clamp_c (v : Int) (w : World) : Calls Try.prog 23 #[.int .i64 v] w fun e w' => e = .returned (.int .i64 (cl v)) ∧ w' = w := by
  go_enter Try.func23, Try.ntmps23
  go_wp2
  all_goals
    go_ret
    refine ⟨congrArg (fun x => Ending.returned (Value.int .i64 x)) ?_, rfl⟩
    unfold cl
    omega

end Go.Proofs.Ytkecdfhpoeknkaa
