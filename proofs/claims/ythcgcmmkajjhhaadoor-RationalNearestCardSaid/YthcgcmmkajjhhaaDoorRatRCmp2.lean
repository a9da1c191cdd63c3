/- The reference's Cmp, whole. -/
import Derived.Test.YthcgcmmkajjhhaaDoorRatRCmp
namespace Go.Proofs.YthcgcmmkajjhhaaDoor
set_option linter.unusedVariables false
set_option linter.unusedSimpArgs false
open Go.RowKit Go.Sort
namespace RM
theorem cross_eq {a b c d : Int} (h1 : ok a b = true) (h2 : ok c d = true) (h : a * d = c * b) : a = c ∧ b = d := by
  obtain ⟨hb, _, g1⟩ := ok_parts h1
  obtain ⟨hd, _, g2⟩ := ok_parts h2
  have hn : a.natAbs * d.natAbs = c.natAbs * b.natAbs := by rw [← Int.natAbs_mul, ← Int.natAbs_mul, h]
  have e1 : b.natAbs ∣ d.natAbs := Nat.Coprime.dvd_of_dvd_mul_left (m := a.natAbs) (Nat.Coprime.symm g1) (by rw [hn]; exact Nat.dvd_mul_left _ _)
  have e2 : d.natAbs ∣ b.natAbs := Nat.Coprime.dvd_of_dvd_mul_left (m := c.natAbs) (Nat.Coprime.symm g2) (by rw [← hn]; exact Nat.dvd_mul_left _ _)
  have e3 : b.natAbs = d.natAbs := Nat.dvd_antisymm e1 e2
  have e4 : b = d := by omega
  subst e4
  exact ⟨Int.eq_of_mul_eq_mul_right (by omega) h, rfl⟩
end RM
theorem cmp_same {a b c d : Int} (h1 : RM.ok a b = true) (h2 : RM.ok c d = true) (hne : ¬ (a = c ∧ b = d)) (hs : (a < 0 ∧ c < 0) ∨ (0 ≤ a ∧ 0 ≤ c)) :
    signL (RM.lessB (a.natAbs * d) (c.natAbs * b)) (decide (a < 0)) = RM.cmpS a b c d := by
  have hx : a * d ≠ c * b := fun e => hne (RM.cross_eq h1 h2 e)
  rw [RM.cmpS_ok h1 h2]
  rcases hs with ⟨s1, s2⟩ | ⟨s1, s2⟩
  · have e1 : ((a.natAbs : Nat) : Int) * d = -(a * d) := by rw [ratnat, if_pos s1, Int.neg_mul]
    have e2 : ((c.natAbs : Nat) : Int) * b = -(c * b) := by rw [ratnat, if_pos s2, Int.neg_mul]
    rw [e1, e2]
    generalize a * d = x at *
    generalize c * b = y at *
    simp only [signL, RM.lessB, s1, decide_true, decide_eq_true_eq, RM.cmpI]
    split <;> split <;> (try split) <;> omega
  · have e1 : ((a.natAbs : Nat) : Int) = a := by omega
    have e2 : ((c.natAbs : Nat) : Int) = c := by omega
    rw [e1, e2]
    generalize a * d = x at *
    generalize c * b = y at *
    have s3 : decide (a < 0) = false := by simp; omega
    simp only [signL, RM.lessB, s3, decide_eq_false_iff_not, RM.cmpI]
    split <;> split <;> (try split) <;> omega
theorem cmp_apart {a b c d : Int} (h1 : RM.ok a b = true) (h2 : RM.ok c d = true) (hs : ¬ ((a < 0 ∧ c < 0) ∨ (0 ≤ a ∧ 0 ≤ c))) : RM.cmpS a b c d = if a < 0 then -1 else 1 := by
  rw [RM.cmpS_ok h1 h2]
  obtain ⟨hb, _⟩ := RM.ok_parts h1
  obtain ⟨hd, _⟩ := RM.ok_parts h2
  split
  · rename_i h
    have e1 : a * d < 0 := Int.mul_neg_of_neg_of_pos h (by omega)
    have e2 : 0 ≤ c * b := Int.mul_nonneg (by omega) (by omega)
    exact RM.cmp_lt (by omega)
  · rename_i h
    have e1 : c * b < 0 := Int.mul_neg_of_neg_of_pos (by omega) (by omega)
    have e2 : 0 ≤ a * d := Int.mul_nonneg (by omega) (by omega)
    exact RM.cmp_gt (by omega)

theorem rateq_run (a b : Int) (u : World) : (binOp .eql 23 (.agg #[.int .i64 a, .int .i64 b]) (.agg #[.int .i64 a, .int .i64 b])).run Tryd.prog u = .ok (.bool true) u := by go_simp

set_option maxHeartbeats 1000000 in
theorem rcmp_easy (a b c d : Int) (ha : -9223372036854775808 ≤ a ∧ a ≤ 9223372036854775807) (hb : -9223372036854775808 ≤ b ∧ b ≤ 9223372036854775807) (hc : -9223372036854775808 ≤ c ∧ c ≤ 9223372036854775807) (hd : -9223372036854775808 ≤ d ∧ d ≤ 9223372036854775807)
    (z : Int) (hh : (RM.ok a b = false ∧ z = 0) ∨ (RM.ok a b = true ∧ RM.ok c d = false ∧ z = 0) ∨ (RM.ok a b = true ∧ RM.ok c d = true ∧ a = c ∧ b = d ∧ z = 0)
      ∨ (RM.ok a b = true ∧ RM.ok c d = true ∧ ¬ (a = c ∧ b = d) ∧ a < 0 ∧ 0 ≤ c ∧ z = -1) ∨ (RM.ok a b = true ∧ RM.ok c d = true ∧ ¬ (a = c ∧ b = d) ∧ 0 ≤ a ∧ c < 0 ∧ z = 1)) (w : World) :
    Calls Tryd.prog 21 #[.agg #[.int .i64 a, .int .i64 b], .agg #[.int .i64 c, .int .i64 d]] w fun e w' => e = .returned (.int .i64 z) ∧ Below w.heap.size w w' := by
  have K0 : ((w.alloc (.cells #[.int .i64 a, .int .i64 b] 23)).alloc (.cells #[.int .i64 c, .int .i64 d] 23)).cell? ⟨w.heap.size, 0, none⟩ = some (.int .i64 a) ∧ ((w.alloc (.cells #[.int .i64 a, .int .i64 b] 23)).alloc (.cells #[.int .i64 c, .int .i64 d] 23)).cell? ⟨w.heap.size, 1, none⟩ = some (.int .i64 b)
      ∧ ((w.alloc (.cells #[.int .i64 a, .int .i64 b] 23)).alloc (.cells #[.int .i64 c, .int .i64 d] 23)).cell? ⟨w.heap.size + 1, 0, none⟩ = some (.int .i64 c) ∧ ((w.alloc (.cells #[.int .i64 a, .int .i64 b] 23)).alloc (.cells #[.int .i64 c, .int .i64 d] 23)).cell? ⟨w.heap.size + 1, 1, none⟩ = some (.int .i64 d) := by
    refine ⟨?_, ?_, ?_, ?_⟩ <;> go_simp
  have B0 : Below w.heap.size w ((w.alloc (.cells #[.int .i64 a, .int .i64 b] 23)).alloc (.cells #[.int .i64 c, .int .i64 d] 23)) := ((Below.refl _ _).alloc (Nat.le_refl _) _).alloc (by simp) _
  have HK0 := Lib.hid K0
  have HB0 := Lib.hid B0
  clear K0 B0
  rcases hh with ⟨k1, rfl⟩ | hh
  · obtain ⟨q0, q1, q2, q3⟩ := HK0.out
    go_enter Tryd.func21, Tryd.ntmps21
    go_wp2_with fail
    refine (rvalid_c _ _ (by omega) (by omega) _).mono ?_
    rintro e w1 ⟨rfl, hb1⟩
    have HB1 := Lib.hid (HB0.out.trans (hb1.mono HB0.out.size))
    clear hb1
    go_wp2_with fail
    go_ret
    exact ⟨rfl, HB1.out⟩
  have k1 : RM.ok a b = true := by rcases hh with h | h | h | h <;> exact h.1
  rcases hh with ⟨_, k2, rfl⟩ | hh
  · go_enter Tryd.func21, Tryd.ntmps21
    go_wp2_with fail
    refine (rvalid_c _ _ (by omega) (by omega) _).mono ?_
    rintro e w1 ⟨rfl, hb1⟩
    have HK1 := Lib.hid (four_below hb1 HK0.out)
    have HB1 := Lib.hid (HB0.out.trans (hb1.mono HB0.out.size))
    clear hb1
    obtain ⟨q0, q1, q2, q3⟩ := HK1.out
    go_wp2_with fail
    refine (rvalid_c _ _ (by omega) (by omega) _).mono ?_
    rintro e w2 ⟨rfl, hb2⟩
    have HB2 := Lib.hid (HB1.out.trans (hb2.mono HB1.out.size))
    clear hb2 q0 q1 q2 q3
    go_wp2_with fail
    go_ret
    exact ⟨rfl, HB2.out⟩
  have k2 : RM.ok c d = true := by rcases hh with h | h | h <;> exact h.2.1
  rcases hh with ⟨_, _, rfl, rfl, rfl⟩ | ⟨_, _, hne, s1, s2, rfl⟩ | ⟨_, _, hne, s1, s2, rfl⟩
  · have heq := rateq_run a b
    go_enter Tryd.func21, Tryd.ntmps21
    go_wp2_with fail
    refine (rvalid_c _ _ (by omega) (by omega) _).mono ?_
    rintro e w1 ⟨rfl, hb1⟩
    have HK1 := Lib.hid (four_below hb1 HK0.out)
    have HB1 := Lib.hid (HB0.out.trans (hb1.mono HB0.out.size))
    clear hb1
    obtain ⟨q0, q1, q2, q3⟩ := HK1.out
    go_wp2_with fail
    refine (rvalid_c _ _ (by omega) (by omega) _).mono ?_
    rintro e w2 ⟨rfl, hb2⟩
    have HK2 := Lib.hid (four_below hb2 HK1.out)
    have HB2 := Lib.hid (HB1.out.trans (hb2.mono HB1.out.size))
    clear hb2 q0 q1 q2 q3
    obtain ⟨q0, q1, q2, q3⟩ := HK2.out
    go_wp2_with fail
    go_ret
    exact ⟨rfl, HB2.out⟩
  all_goals
    have hneq := ratneq_run a b c d hne
    have z1 : decide (a < 0) = !decide (c < 0) := by by_cases h : c < 0 <;> simp [h] <;> omega
    first
      | (have z2 : decide (a < 0) = true := decide_eq_true s1
         rw [z2] at z1
         have z3 : decide (c < 0) = false := by simp; omega
         clear z1)
      | (have z2 : decide (c < 0) = true := decide_eq_true s2
         rw [z2] at z1
         have z3 : decide (a < 0) = false := by simp; omega
         clear z1)
    clear hne s1 s2
    go_enter Tryd.func21, Tryd.ntmps21
    go_wp2_with fail
    refine (rvalid_c _ _ (by omega) (by omega) _).mono ?_
    rintro e w1 ⟨rfl, hb1⟩
    have HK1 := Lib.hid (four_below hb1 HK0.out)
    have HB1 := Lib.hid (HB0.out.trans (hb1.mono HB0.out.size))
    clear hb1
    obtain ⟨q0, q1, q2, q3⟩ := HK1.out
    go_wp2_with fail
    refine (rvalid_c _ _ (by omega) (by omega) _).mono ?_
    rintro e w2 ⟨rfl, hb2⟩
    have HK2 := Lib.hid (four_below hb2 HK1.out)
    have HB2 := Lib.hid (HB1.out.trans (hb2.mono HB1.out.size))
    clear hb2 q0 q1 q2 q3
    obtain ⟨q0, q1, q2, q3⟩ := HK2.out
    go_wp2_with fail
    go_ret
    exact ⟨rfl, HB2.out⟩

theorem rcmp_c (a b c d : Int) (ha : -9223372036854775808 ≤ a ∧ a ≤ 9223372036854775807) (hb : -9223372036854775808 ≤ b ∧ b ≤ 9223372036854775807) (hc : -9223372036854775808 ≤ c ∧ c ≤ 9223372036854775807) (hd : -9223372036854775808 ≤ d ∧ d ≤ 9223372036854775807) (w : World) :
    Calls Tryd.prog 21 #[.agg #[.int .i64 a, .int .i64 b], .agg #[.int .i64 c, .int .i64 d]] w fun e w' => e = .returned (.int .i64 (RM.cmpS a b c d)) ∧ Below w.heap.size w w' := by
  rcases hk1 : RM.ok a b with _ | _
  · exact rcmp_easy a b c d ha hb hc hd _ (.inl ⟨hk1, RM.cmpS_bad1 hk1⟩) w
  rcases hk2 : RM.ok c d with _ | _
  · exact rcmp_easy a b c d ha hb hc hd _ (.inr (.inl ⟨hk1, hk2, RM.cmpS_bad2 hk2⟩)) w
  by_cases he : a = c ∧ b = d
  · exact rcmp_easy a b c d ha hb hc hd _ (.inr (.inr (.inl ⟨hk1, hk2, he.1, he.2, by rw [RM.cmpS_ok hk1 hk2, he.1, he.2]; exact RM.cmp_eq rfl⟩))) w
  by_cases hs : (a < 0 ∧ c < 0) ∨ (0 ≤ a ∧ 0 ≤ c)
  · rw [← cmp_same hk1 hk2 he hs]
    have h1 := (RM.ok_parts hk1).1
    have h2 := (RM.ok_parts hk2).1
    exact rcmp_more a b c d ha (by omega) hc (by omega) hk1 hk2 he hs w
  · have hz := cmp_apart hk1 hk2 hs
    by_cases h : a < 0
    · rw [if_pos h] at hz
      exact rcmp_easy a b c d ha hb hc hd _ (.inr (.inr (.inr (.inl ⟨hk1, hk2, he, h, by omega, hz⟩)))) w
    · rw [if_neg h] at hz
      exact rcmp_easy a b c d ha hb hc hd _ (.inr (.inr (.inr (.inr ⟨hk1, hk2, he, by omega, by omega, hz⟩)))) w
end Go.Proofs.YthcgcmmkajjhhaaDoor
