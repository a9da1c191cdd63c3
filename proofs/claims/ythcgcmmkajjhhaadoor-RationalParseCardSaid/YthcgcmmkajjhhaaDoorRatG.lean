/- The greatest common divisor and the absolute value, on both sides: contracts. -/
import Derived.Test.YthcgcmmkajjhhaaDoorProg
import Derived.WalkKit
import Derived.BigRegion
import Derived.BigQuiet
import Derived.Deep.QuietTactic
import Derived.Lib.Hide
namespace Go.Proofs.YthcgcmmkajjhhaaDoor
open Go.RowKit

/-- What lay in memory before reads as it did. -/
theorem old_cell {W V : World} (h : Below W.heap.size W V) (b o : Nat) (hlt : b < W.heap.size) : V.cell? ⟨b, o, none⟩ = W.cell? ⟨b, o, none⟩ := Below.cell h hlt
theorem old_frozen {W V : World} (h : Below W.heap.size W V) (b o : Nat) (hlt : b < W.heap.size) : V.frozen? ⟨b, o, none⟩ = W.frozen? ⟨b, o, none⟩ := Below.frozen h hlt


theorem gcd_step (a b : Int) (ha : 0 ≤ a) (hb : 0 < b) : Nat.gcd b.natAbs (a % b).natAbs = Nat.gcd a.natAbs b.natAbs := by
  have : (a % b).natAbs = a.natAbs % b.natAbs := by
    obtain ⟨x, rfl⟩ := Int.eq_ofNat_of_zero_le ha
    obtain ⟨y, rfl⟩ := Int.eq_ofNat_of_zero_le (Int.le_of_lt hb)
    rw [← Int.natCast_emod]; rfl
  rw [this, Nat.gcd_comm a.natAbs, Nat.gcd_rec b.natAbs a.natAbs, Nat.gcd_comm]

/-- A contract that leaves the world alone serves as a quiet call in a world that has drawn before. -/
theorem calls_again {P : Program} {f : FuncId} {args : Array Value} {V : World} {j k : Nat} {x : Value}
    (c : Calls P f args (V.drewN (j + k)) fun e U => e = .returned x ∧ V.drewN (j + k) = U) : Calls P f args (V.drewN (j + k)) fun e U => e = .returned x ∧ ∃ m, U = V.drewN (j + m) :=
  c.mono (by rintro e U ⟨he, rfl⟩; exact ⟨he, k, rfl⟩)
theorem size_drewN (w : World) (n : Nat) : (w.drewN n).heap.size = w.heap.size := rfl
theorem drewN_some (w : World) (n : Nat) : ∃ m, (w.drewN n).drew = w.drewN m := ⟨n + 1, rfl⟩
theorem drewN_some2 (w : World) (n m : Nat) : ∃ k, (w.drewN n).drewN m = w.drewN k := ⟨n + m, World.drewN_drewN _ _ _⟩

set_option maxHeartbeats 400000 in
theorem gcd_c (a0 b0 : Int) (ha : 0 ≤ a0 ∧ a0 ≤ 18446744073709551615) (hb : 0 ≤ b0 ∧ b0 ≤ 18446744073709551615) (w : World) :
    Calls Tryd.prog 52 #[.int .u64 a0, .int .u64 b0] w fun e w' => e = .returned (.int .u64 (Nat.gcd a0.natAbs b0.natAbs : Nat)) ∧ ∃ n, w' = w.drewN n := by
  go_enter Tryd.func52, Tryd.ntmps52
  go_wp2
  go_loopw [0, 1] (fun va vb wr => ∃ a b : Int, va = .int .u64 a ∧ vb = .int .u64 b ∧ 0 ≤ a ∧ a ≤ 18446744073709551615 ∧ 0 ≤ b ∧ b ≤ 18446744073709551615 ∧ Nat.gcd a.natAbs b.natAbs = Nat.gcd a0.natAbs b0.natAbs ∧ ∃ n, wr = w.drewN n) (fun _ vb _ => (intOf vb).natAbs)
  case atStart => exact ⟨a0, b0, rfl, rfl, ha.1, ha.2, hb.1, hb.2, rfl, 0, rfl⟩
  case round =>
    obtain ⟨a, b, rfl, rfl, ha1, ha2, hb1, hb2, hg, n, rfl⟩ := hrel
    have HG := Lib.hid hg
    clear hg
    by_cases hz : 1 ≤ b
    · have hne : (b != 0) = true := by rw [bne_iff_ne]; omega
      have hb0 : ¬ b = 0 := by omega
      have hm1 := Int.emod_nonneg a hb0
      have hm2 := Int.emod_lt_of_pos a (show 0 < b by omega)
      have HS := Lib.hid (gcd_step a b ha1 (by omega))
      go_wp2
      go_quiet (fail)
      go_wp2
      go_roundw
      case rel => exact ⟨b, a % b, rfl, rfl, hb1, hb2, hm1, by omega, by rw [HS.out, HG.out], drewN_some2 _ _ _⟩
      case measure => simp [intOf]; omega
    · have hb0 : b = 0 := by omega
      subst hb0
      go_wp2
      go_ret
      exact ⟨by rw [← HG.out]; simp; omega, n, rfl⟩

set_option maxHeartbeats 400000 in
theorem rgcd_c (a0 b0 : Int) (ha : 0 ≤ a0 ∧ a0 ≤ 18446744073709551615) (hb : 0 ≤ b0 ∧ b0 ≤ 18446744073709551615) (w : World) :
    Calls Tryd.prog 39 #[.int .u64 a0, .int .u64 b0] w fun e w' => e = .returned (.int .u64 (Nat.gcd a0.natAbs b0.natAbs : Nat)) ∧ ∃ n, w' = w.drewN n := by
  go_enter Tryd.func39, Tryd.ntmps39
  go_wp2
  go_loopw [0, 1] (fun va vb wr => ∃ a b : Int, va = .int .u64 a ∧ vb = .int .u64 b ∧ 0 ≤ a ∧ a ≤ 18446744073709551615 ∧ 0 ≤ b ∧ b ≤ 18446744073709551615 ∧ Nat.gcd a.natAbs b.natAbs = Nat.gcd a0.natAbs b0.natAbs ∧ ∃ n, wr = w.drewN n) (fun _ vb _ => (intOf vb).natAbs)
  case atStart => exact ⟨a0, b0, rfl, rfl, ha.1, ha.2, hb.1, hb.2, rfl, 0, rfl⟩
  case round =>
    obtain ⟨a, b, rfl, rfl, ha1, ha2, hb1, hb2, hg, n, rfl⟩ := hrel
    have HG := Lib.hid hg
    clear hg
    by_cases hz : 1 ≤ b
    · have hne : (b != 0) = true := by rw [bne_iff_ne]; omega
      have hb0 : ¬ b = 0 := by omega
      have hm1 := Int.emod_nonneg a hb0
      have hm2 := Int.emod_lt_of_pos a (show 0 < b by omega)
      have HS := Lib.hid (gcd_step a b ha1 (by omega))
      go_wp2
      go_quiet (fail)
      go_wp2
      go_roundw
      case rel => exact ⟨b, a % b, rfl, rfl, hb1, hb2, hm1, by omega, by rw [HS.out, HG.out], drewN_some2 _ _ _⟩
      case measure => simp [intOf]; omega
    · have hb0 : b = 0 := by omega
      subst hb0
      go_wp2
      go_ret
      exact ⟨by rw [← HG.out]; simp; omega, n, rfl⟩

theorem ret_int {k : IntKind} {a b : Int} (h : a = b) : Ending.returned (.int k a) = .returned (.int k b) := by rw [h]

set_option maxHeartbeats 400000 in
theorem mag_c (n : Int) (hn : -9223372036854775808 ≤ n ∧ n ≤ 9223372036854775807) (w : World) :
    Calls Tryd.prog 53 #[.int .i64 n] w fun e w' => e = .returned (.int .u64 (n.natAbs : Int)) ∧ w = w' := by
  by_cases h : n < 0
  · go_enter Tryd.func53, Tryd.ntmps53
    go_wp2
    go_ret
    exact ⟨ret_int (by first | omega | (simp only [IntKind.wrap_u64]; omega)), rfl⟩
  · go_enter Tryd.func53, Tryd.ntmps53
    go_wp2
    go_ret
    exact ⟨ret_int (by omega), rfl⟩

set_option maxHeartbeats 400000 in
theorem rmag_c (n : Int) (hn : -9223372036854775808 ≤ n ∧ n ≤ 9223372036854775807) (w : World) :
    Calls Tryd.prog 27 #[.int .i64 n] w fun e w' => e = .returned (.int .u64 (n.natAbs : Int)) ∧ w = w' := by
  by_cases h : n < 0
  · go_enter Tryd.func27, Tryd.ntmps27
    go_wp2
    go_ret
    exact ⟨ret_int (by first | omega | (simp only [IntKind.wrap_u64]; omega)), rfl⟩
  · go_enter Tryd.func27, Tryd.ntmps27
    go_wp2
    go_ret
    exact ⟨ret_int (by omega), rfl⟩

end Go.Proofs.YthcgcmmkajjhhaaDoor
