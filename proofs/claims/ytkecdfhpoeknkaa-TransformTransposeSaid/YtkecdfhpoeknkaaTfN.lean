/- The code's Basis, Norm, rounded. -/
import Derived.Test.YtkecdfhpoeknkaaTfA
import Derived.Test.YtkecdfhpoeknkaaTfI
namespace Go.Proofs.Ytkecdfhpoeknkaa
set_option linter.unusedVariables false
set_option linter.unusedSimpArgs false
open Go.RowKit Go.Sort

set_option maxHeartbeats 1000000 in
theorem cbasis_c (i k : Int) (w : World) :
    Calls Try.prog 12 #[.int .i64 i, .int .i64 k] w fun e w' => e = .returned (.int .i64 (tz i k)) ∧ Below w.heap.size w w' := by
  by_cases h : 0 ≤ i ∧ i < 8
  · obtain ⟨a, rfl⟩ := Int.eq_ofNat_of_zero_le h.1
    have ha : a < 8 := by omega
    have hi1 := fun w => inside_c (a : Int) w
    have d1 : decide (0 ≤ (a : Int) ∧ (a : Int) < 8) = true := by simpa using h
    simp only [d1] at hi1
    by_cases h2 : 0 ≤ k ∧ k < 8
    · obtain ⟨b, rfl⟩ := Int.eq_ofNat_of_zero_le h2.1
      have hb : b < 8 := by omega
      have hi2 := fun w => inside_c (b : Int) w
      have d2 : decide (0 ≤ (b : Int) ∧ (b : Int) < 8) = true := by simpa using h2
      simp only [d2] at hi2
      rw [tz_in a b ha hb]
      have i1 := idx88 tb a ha
      have i2 := idx8 (fun k => tb (8 * a + k)) b hb
      simp only [tb_at a b hb] at i2
      have HM := Lib.hid matrix_c
      have H1 := Lib.hid hi1
      have H2 := Lib.hid hi2
      clear hi1 hi2 d1 d2 h h2
      go_enter Try.func12, Try.ntmps12
      go_wp2_with fail
      refine (H1.out _).mono ?_
      rintro e _ ⟨rfl, rfl⟩
      go_wp2_with fail
      refine (H2.out _).mono ?_
      rintro e _ ⟨rfl, rfl⟩
      go_wp2_with fail
      refine (HM.out _).mono ?_
      rintro e w1 ⟨rfl, hb1⟩
      have HB1 := Lib.hid hb1
      clear hb1
      go_wp2_with fail
      go_ret
      exact ⟨rfl, HB1.out⟩
    · have hi2 := fun w => inside_c k w
      have d2 : decide (0 ≤ k ∧ k < 8) = false := by simpa using h2
      simp only [d2] at hi2
      have hz : tz a k = 0 := by unfold tz; rw [if_neg (by omega)]
      rw [hz]
      have H1 := Lib.hid hi1
      have H2 := Lib.hid hi2
      clear hi1 hi2 d1 d2 h h2 hz
      go_enter Try.func12, Try.ntmps12
      go_wp2_with fail
      refine (H1.out _).mono ?_
      rintro e _ ⟨rfl, rfl⟩
      go_wp2_with fail
      refine (H2.out _).mono ?_
      rintro e _ ⟨rfl, rfl⟩
      go_wp2_with fail
      go_ret
      exact ⟨rfl, Below.refl _ _⟩
  · have hi1 := fun w => inside_c i w
    have d1 : decide (0 ≤ i ∧ i < 8) = false := by simpa using h
    simp only [d1] at hi1
    have hz : tz i k = 0 := by unfold tz; rw [if_neg (by omega)]
    rw [hz]
    have H1 := Lib.hid hi1
    clear hi1 d1 h hz
    go_enter Try.func12, Try.ntmps12
    go_wp2_with fail
    refine (H1.out _).mono ?_
    rintro e _ ⟨rfl, rfl⟩
    go_wp2_with fail
    go_ret
    exact ⟨rfl, Below.refl _ _⟩

theorem nz_out (i : Int) (h : ¬ (0 ≤ i ∧ i < 8)) : nz i = 0 := by
  have hz : ∀ k : Int, tz i k = 0 := fun k => by unfold tz; rw [if_neg (by omega)]
  unfold nz
  simp only [hz]
  rfl
set_option maxHeartbeats 1000000 in
theorem cnorm_c (i : Int) (w : World) :
    Calls Try.prog 14 #[.int .i64 i] w fun e w' => e = .returned (.int .i64 (nz i)) ∧ Below w.heap.size w w' := by
  by_cases h : 0 ≤ i ∧ i < 8
  · obtain ⟨a, rfl⟩ := Int.eq_ofNat_of_zero_le h.1
    have ha : a < 8 := by omega
    have hi1 := fun w => inside_c (a : Int) w
    have d1 : decide (0 ≤ (a : Int) ∧ (a : Int) < 8) = true := by simpa using h
    simp only [d1] at hi1
    obtain ⟨f, hf⟩ : ∃ f : Nat → Int, f = fun k : Nat => TF.tm a k * TF.tm a k := ⟨_, rfl⟩
    have hbd := sm_bd f 144 (fun k => by rw [hf]; exact sq_bd _ (tm_any a k))
    have hz : nz a = sm f 8 := by rw [sm_s8, hf, (nz_in a ha).1]; rfl
    rw [hz]
    have i1 := idx88 tb a ha
    have HI := Lib.hid (idx8 (fun k => tb (8 * a + k)))
    have HM := Lib.hid matrix_c
    have H1 := Lib.hid hi1
    have HB := Lib.hid hbd
    have HF := Lib.hid hf
    clear hi1 d1 h hbd hf hz
    go_enter Try.func14, Try.ntmps14
    go_wp2_with fail
    refine (H1.out _).mono ?_
    rintro e _ ⟨rfl, rfl⟩
    go_wp2_with fail
    refine (HM.out _).mono ?_
    rintro e w1 ⟨rfl, hb1⟩
    have HB1 := Lib.hid hb1
    clear hb1
    go_wp2_with fail
    clear i1
    go_loopw [3, 12] (fun s b wr => ∃ k : Nat, k ≤ 8 ∧ s = .int .i64 (sm f k) ∧ b = .int .i64 (k : Int) ∧ wr = w1) (fun _ b _ => 8 - (intOf b).toNat)
    case atStart => exact ⟨0, by decide, rfl, rfl, rfl⟩
    case round =>
      obtain ⟨k, hk, rfl, rfl, rfl⟩ := hrel
      by_cases hlt : k < 8
      · have d1 : decide ((k : Int) < 8) = true := by simp; omega
        have i1 := HI.out k hlt
        simp only [tb_at a k hlt] at i1
        have h1 := HB.out k
        have h2 := HB.out (k + 1)
        have t1 := tm_any a k
        have t2 := sq_bd _ t1
        have hs : sm f (k + 1) = sm f k + TF.tm a k * TF.tm a k := by rw [HF.out]; rfl
        have HS := Lib.hid hs
        clear hs
        generalize TF.tm a k = t at *
        generalize hpp : t * t = p at *
        have w4 := IntWalk.i64_in p (by omega)
        have w5 := IntWalk.i64_in (sm f k + p) (by omega)
        go_wp2_with fail
        go_roundw
        case rel => exact ⟨k + 1, by omega, by rw [HS.out], congrArg (Value.int .i64) (by omega), by trivial⟩
        case measure => simp [intOf]; omega
      · have e : k = 8 := by omega
        subst e
        go_wp2
        go_ret
        exact ⟨rfl, HB1.out⟩
  · have hi1 := fun w => inside_c i w
    have d1 : decide (0 ≤ i ∧ i < 8) = false := by simpa using h
    simp only [d1] at hi1
    rw [nz_out i h]
    have H1 := Lib.hid hi1
    clear hi1 d1 h
    go_enter Try.func14, Try.ntmps14
    go_wp2_with fail
    refine (H1.out _).mono ?_
    rintro e _ ⟨rfl, rfl⟩
    go_wp2_with fail
    go_ret
    exact ⟨rfl, Below.refl _ _⟩

theorem rounded_c (s : Int) (h : -4611686018427387904 ≤ s ∧ s ≤ 4611686018427387904) (w : World) :
    Calls Try.prog 28 #[.int .i64 s] w fun e w' => e = .returned (.int .i64 (TF.near s)) ∧ w' = w := by
  have hqn := quo_near s
  rw [Int.add_comm 273681612800 s] at hqn
  have hnb : -8500000 ≤ TF.near s ∧ TF.near s ≤ 8500000 := by unfold TF.near; omega
  have w1 := IntWalk.i64_in (s + 273681612800) (by omega)
  obtain ⟨h1, h2⟩ | ⟨h1, h2⟩ := hqn
  · have dr : decide ((s + 273681612800).tmod 547363225600 < 0) = true := by simpa using h1
    have h3 : (s + 273681612800).tdiv 547363225600 = TF.near s + 1 := by omega
    clear h1 h2
    generalize TF.near s = v at *
    have w5 := IntWalk.i64_in (v + 1 - 1) (by omega)
    have w6 := IntWalk.i64_in (v + 1) (by omega)
    go_enter Try.func28, Try.ntmps28
    go_wp2
    go_ret
    exact ⟨congrArg (fun z => Ending.returned (Value.int .i64 z)) (by omega), rfl⟩
  · have dr : decide ((s + 273681612800).tmod 547363225600 < 0) = false := by simpa using h1
    clear h1
    generalize TF.near s = v at *
    have w6 := IntWalk.i64_in v (by omega)
    go_enter Try.func28, Try.ntmps28
    go_wp2
    go_ret
    exact ⟨rfl, rfl⟩
end Go.Proofs.Ytkecdfhpoeknkaa
