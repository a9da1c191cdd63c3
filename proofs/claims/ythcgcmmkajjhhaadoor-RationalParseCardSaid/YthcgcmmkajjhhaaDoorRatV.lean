/- Valid, on both sides. -/
import Derived.Test.YthcgcmmkajjhhaaDoorRatM
import Derived.Test.YthcgcmmkajjhhaaDoorRatG
namespace Go.Proofs.YthcgcmmkajjhhaaDoor
open Go.RowKit

theorem ret_bool {a b : Bool} (h : a = b) : Ending.returned (.bool a) = .returned (.bool b) := by rw [h]
theorem below_drewN' {B : Nat} {a w : World} (h : Below B a w) (n : Nat) : Below B a (w.drewN n) := ⟨h.os, h.tape, h.output, h.size, h.block⟩
theorem below_one (w : World) (o : Obj) (k : Nat) : Below w.heap.size w ((w.alloc o).drewN k) := below_drewN' ((Below.refl _ _).alloc (Nat.le_refl _) _) k
theorem ok_gcd (n d : Int) (h1 : 1 ≤ d) (h2 : -9223372036854775808 < n) : RM.ok n d = (((Nat.gcd n.natAbs d.natAbs : Nat) : Int) == 1) := by
  rw [Bool.eq_iff_iff]
  simp only [RM.ok, decide_eq_true_eq, beq_iff_eq]
  omega
theorem ok_num (n d : Int) (h2 : n ≤ -9223372036854775808) : RM.ok n d = false := by
  simp only [RM.ok, decide_eq_false_iff_not]; omega
theorem ok_den (n d : Int) (h2 : d < 1) : RM.ok n d = false := by
  simp only [RM.ok, decide_eq_false_iff_not]; omega

set_option maxHeartbeats 400000 in
theorem valid_c (n d : Int) (hn : -9223372036854775808 ≤ n ∧ n ≤ 9223372036854775807) (hd : -9223372036854775808 ≤ d ∧ d ≤ 9223372036854775807) (w : World) :
    Calls Tryd.prog 34 #[.agg #[.int .i64 n, .int .i64 d]] w fun e w' => e = .returned (.bool (RM.ok n d)) ∧ Below w.heap.size w w' := by
  have hB := fun (k : Nat) => below_one w (.cells #[Value.int IntKind.i64 n, Value.int IntKind.i64 d] 23) k
  by_cases h1 : 1 ≤ d
  · by_cases h2 : -9223372036854775808 < n
    · have HE := Lib.hid (ok_gcd n d h1 (by omega))
      go_enter Tryd.func34, Tryd.ntmps34
      go_wp2
      go_quiet ((first | (go_at_call 53; exact Calls.quiet_of_same ((mag_c _ (by omega) _).mono fun _ _ h => ⟨h.1, h.2.symm⟩)) | (go_at_call 52; exact Calls.quiet_of (gcd_c _ _ (by omega) (by omega) _))))
      go_wp2
      go_ret
      exact ⟨ret_bool HE.out.symm, hB _⟩
    · have HE := Lib.hid (ok_num n d (by omega))
      have h2' : decide (-9223372036854775808 < n) = false := by simpa using h2
      go_enter Tryd.func34, Tryd.ntmps34
      go_wp2
      go_quiet (fail)
      go_wp2
      go_ret
      exact ⟨ret_bool HE.out.symm, hB _⟩
  · have HE := Lib.hid (ok_den n d (by omega))
    have h1' : decide (1 ≤ d) = false := by simpa using h1
    go_enter Tryd.func34, Tryd.ntmps34
    go_wp2
    go_quiet (fail)
    go_wp2
    go_ret
    exact ⟨ret_bool HE.out.symm, hB _⟩

set_option maxHeartbeats 400000 in
theorem rvalid_c (n d : Int) (hn : -9223372036854775808 ≤ n ∧ n ≤ 9223372036854775807) (hd : -9223372036854775808 ≤ d ∧ d ≤ 9223372036854775807) (w : World) :
    Calls Tryd.prog 14 #[.agg #[.int .i64 n, .int .i64 d]] w fun e w' => e = .returned (.bool (RM.ok n d)) ∧ Below w.heap.size w w' := by
  have hB := fun (k : Nat) => below_one w (.cells #[Value.int IntKind.i64 n, Value.int IntKind.i64 d] 23) k
  by_cases h1 : 1 ≤ d
  · by_cases h2 : -9223372036854775807 ≤ n
    · have HE := Lib.hid (ok_gcd n d h1 (by omega))
      go_enter Tryd.func14, Tryd.ntmps14
      go_wp2
      go_quiet ((first | (go_at_call 27; exact Calls.quiet_of_same ((rmag_c _ (by omega) _).mono fun _ _ h => ⟨h.1, h.2.symm⟩)) | (go_at_call 39; exact Calls.quiet_of (rgcd_c _ _ (by omega) (by omega) _))))
      go_wp2
      go_ret
      exact ⟨ret_bool HE.out.symm, hB _⟩
    · have HE := Lib.hid (ok_num n d (by omega))
      have h2' : decide (-9223372036854775807 ≤ n) = false := by simpa using h2
      go_enter Tryd.func14, Tryd.ntmps14
      go_wp2
      go_quiet (fail)
      go_wp2
      go_ret
      exact ⟨ret_bool HE.out.symm, hB _⟩
  · have HE := Lib.hid (ok_den n d (by omega))
    have h1' : decide (1 ≤ d) = false := by simpa using h1
    go_enter Tryd.func14, Tryd.ntmps14
    go_wp2
    go_quiet (fail)
    go_wp2
    go_ret
    exact ⟨ret_bool HE.out.symm, hB _⟩

end Go.Proofs.YthcgcmmkajjhhaaDoor
