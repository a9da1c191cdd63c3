/- The reference of chapter 4: May, half, Bits, Code. -/
import Derived.Test.YtodolejhdellbaaVlA
import Derived.Test.YtodolejhdellbaaBitG
import Derived.Test.YtodolejhdellbaaBitF
namespace Go.Proofs.Ytodolejhdellbaa
open Go.RowKit

theorem rmay_c (w : World) (v : Int) : Calls Try.prog 13 #[.int .i64 v] w fun e w' => e = .returned (.bool (decide (0 ≤ v ∧ v ≤ 65534))) ∧ w' = w := by
  by_cases h0 : 0 ≤ v
  · have hd : decide (0 ≤ v) = true := by simpa using h0
    have e : decide (0 ≤ v ∧ v ≤ 65534) = decide (v ≤ 65534) := by simp [h0]
    rw [e]
    go_enter Try.func13, Try.ntmps13
    go_wp2
    go_ret
    exact ⟨rfl, rfl⟩
  · have hd : decide (0 ≤ v) = false := by simpa using h0
    have e : decide (0 ≤ v ∧ v ≤ 65534) = false := by simp [h0]
    rw [e]
    go_enter Try.func13, Try.ntmps13
    go_wp2
    go_ret
    exact ⟨rfl, rfl⟩
theorem rmays_c (w : World) (v : Int) : Calls Try.prog 23 #[.int .i64 v] w fun e w' => e = .returned (.bool (decide (-32767 ≤ v ∧ v ≤ 32767))) ∧ w' = w := by
  by_cases h0 : -32767 ≤ v
  · have hd : decide (-32767 ≤ v) = true := by simpa using h0
    have e : decide (-32767 ≤ v ∧ v ≤ 32767) = decide (v ≤ 32767) := by simp [h0]
    rw [e]
    go_enter Try.func23, Try.ntmps23
    go_wp2
    go_ret
    exact ⟨rfl, rfl⟩
  · have hd : decide (-32767 ≤ v) = false := by simpa using h0
    have e : decide (-32767 ≤ v ∧ v ≤ 32767) = false := by simp [h0]
    rw [e]
    go_enter Try.func23, Try.ntmps23
    go_wp2
    go_ret
    exact ⟨rfl, rfl⟩

theorem two_pow_small (k : Nat) (h : k ≤ 15) : ∃ m : Nat, (2 : Int) * 2 ^ k = (m : Int) ∧ m = 2 ^ (k + 1) ∧ m ≤ 65536 :=
  ⟨2 ^ (k + 1), by push_cast; rw [Int.pow_succ, Int.mul_comm], rfl, Nat.pow_le_pow_right (j := 16) (n := 2) (by decide) (by omega)⟩

theorem half_c (w : World) (n : Nat) (hn : n ≤ 65534) : Calls Try.prog 36 #[.int .i64 (n : Int)] w fun e w' => e = .returned (.int .i64 (BM.hf n : Int)) ∧ w' = w := by
  have hh := BM.hf_le n hn
  have hlo := BM.hf_lo n
  have hhi := BM.hf_hi n
  generalize BM.hf n = K at *
  go_enter Try.func36, Try.ntmps36
  go_wp2_with fail
  go_loop [3] (fun i => ∃ k : Nat, k ≤ K ∧ i = .int .i64 (k : Int)) (fun i => K - (intOf i).toNat)
  case atStart => exact ⟨0, Nat.zero_le _, rfl⟩
  case round =>
    obtain ⟨k, hk, rfl⟩ := hrel
    obtain ⟨m, he, hm, hb⟩ := two_pow_small k (by omega)
    by_cases hlt : k < K
    · have hp : 2 ^ (k + 1) ≤ n + 1 := Nat.le_trans (Nat.pow_le_pow_right (by decide) hlt) hlo
      rw [← hm] at hp
      have hd : decide ((2 : Int) * 2 ^ k ≤ (n : Int) + 1) = true := by rw [he]; simp; omega
      have hr : (-9223372036854775808 : Int) ≤ 2 * 2 ^ k ∧ (2 : Int) * 2 ^ k ≤ 9223372036854775807 := by rw [he]; omega
      have hw : IntKind.i64.wrap ((2 : Int) * 2 ^ k) = 2 * 2 ^ k := IntWalk.i64_in _ hr
      clear he hm hp hlo hhi hb
      go_wp2_with fail
      go_round
      case rel => exact ⟨k + 1, by omega, by go_num⟩
      case measure => simp [intOf]; omega
    · obtain rfl : k = K := by omega
      rw [← hm] at hhi
      have hd : decide ((2 : Int) * 2 ^ k ≤ (n : Int) + 1) = false := by rw [he]; simp; omega
      have hr : (-9223372036854775808 : Int) ≤ 2 * 2 ^ k ∧ (2 : Int) * 2 ^ k ≤ 9223372036854775807 := by rw [he]; omega
      have hw : IntKind.i64.wrap ((2 : Int) * 2 ^ k) = 2 * 2 ^ k := IntWalk.i64_in _ hr
      clear he hm hlo hhi hb
      go_wp2
      go_ret
      exact ⟨rfl, rfl⟩

theorem rbits_c (w : World) (v : Int) : Calls Try.prog 12 #[.int .i64 v] w fun e w' => e = .returned (.int .i64 (BM.blen v)) ∧ w' = w := by
  by_cases hv : 0 ≤ v ∧ v ≤ 65534
  · obtain ⟨n, rfl⟩ : ∃ n : Nat, v = (n : Int) := ⟨v.toNat, by omega⟩
    rw [BM.blen_yes (by omega)]
    have hh := BM.hf_le n (by omega)
    have hhalf := fun w => half_c w n (by omega)
    have hmay := fun w => rmay_c w (n : Int)
    rw [decide_eq_true hv] at hmay
    generalize BM.hf n = k at *
    clear hv
    go_enter Try.func12, Try.ntmps12
    go_wp2_with fail
    refine (hmay _).mono ?_
    rintro e w' ⟨rfl, rfl⟩
    go_wp2_with fail
    refine (hhalf _).mono ?_
    rintro e w' ⟨rfl, rfl⟩
    go_wp2
    go_ret
    exact ⟨rfl, rfl⟩
  · rw [BM.blen_no (by omega)]
    have hmay := fun w => rmay_c w v
    rw [decide_eq_false hv] at hmay
    clear hv
    go_enter Try.func12, Try.ntmps12
    go_wp2_with fail
    refine (hmay _).mono ?_
    rintro e w' ⟨rfl, rfl⟩
    go_wp2
    go_ret
    exact ⟨rfl, rfl⟩

theorem runs_c (w : World) (v : Int) (h1 : -32767 ≤ v) (h2 : v ≤ 32767) : Calls Try.prog 41 #[.int .i64 v] w fun e w' => e = .returned (.int .i64 (BM.uns v)) ∧ w' = w := by
  unfold BM.uns
  by_cases hp : 0 < v
  · rw [if_pos hp]
    have hd3 : decide (0 < v) = true := by simpa using hp
    go_enter Try.func41, Try.ntmps41
    go_wp2
    go_ret
    exact ⟨rfl, rfl⟩
  · rw [if_neg hp]
    have hd3 : decide (0 < v) = false := by simp; omega
    go_enter Try.func41, Try.ntmps41
    go_wp2
    go_ret
    exact ⟨rfl, rfl⟩

theorem rslen_c (w : World) (v : Int) : Calls Try.prog 22 #[.int .i64 v] w fun e w' => e = .returned (.int .i64 (BM.slen v)) ∧ w' = w := by
  unfold BM.slen
  by_cases hv : -32767 ≤ v ∧ v ≤ 32767
  · rw [if_pos hv]
    have hmay := fun w => rmays_c w v
    have hu := fun w => runs_c w v hv.1 hv.2
    rw [decide_eq_true hv] at hmay
    clear hv
    generalize BM.uns v = u at *
    go_enter Try.func22, Try.ntmps22
    go_wp2_with fail
    refine (hmay _).mono ?_
    rintro e w' ⟨rfl, rfl⟩
    go_wp2_with fail
    refine (hu _).mono ?_
    rintro e w' ⟨rfl, rfl⟩
    go_wp2_with fail
    refine (rbits_c _ u).mono ?_
    rintro e w' ⟨rfl, rfl⟩
    go_wp2
    go_ret
    exact ⟨rfl, rfl⟩
  · rw [if_neg hv, BM.blen_no (.inl (by decide))]
    have hmay := fun w => rmays_c w v
    rw [decide_eq_false hv] at hmay
    clear hv
    go_enter Try.func22, Try.ntmps22
    go_wp2_with fail
    refine (hmay _).mono ?_
    rintro e w' ⟨rfl, rfl⟩
    go_wp2
    go_ret
    exact ⟨rfl, rfl⟩
end Go.Proofs.Ytodolejhdellbaa
