/- Mathematics of the reference's Mul: its reduced parts give the same as the specification function. -/
import Derived.Test.YthcgcmmkajjhhaaDoorRatMul
namespace Go.Proofs.YthcgcmmkajjhhaaDoor
set_option linter.unusedVariables false
set_option linter.unusedSimpArgs false
open Go.RowKit
namespace RM
theorem made_fit (X D : Int) (hD : 1 ≤ D) : madeS (decide (X < 0)) (X.natAbs : Int) D = fitS X D := by
  by_cases h : 9223372036854775807 < (X.natAbs : Int) ∨ 9223372036854775807 < D
  · have e : fitS X D = (0, 0, 2) := by
      unfold fitS
      refine if_neg ?_
      simp only [narrowB, decide_eq_true_eq]
      omega
    rw [e, madeS, if_pos h]
  · have e : fitS X D = (X, D, 0) := by
      unfold fitS
      refine if_pos ?_
      simp only [narrowB, decide_eq_true_eq]
      omega
    rw [e, madeS, if_neg h]
    by_cases hx : X < 0
    · rw [if_pos (by simpa using hx)]
      have t : -(X.natAbs : Int) = X := by omega
      rw [t]
    · rw [if_neg (by simpa using hx)]
      have t : (X.natAbs : Int) = X := by omega
      rw [t]
theorem abs_ediv (a : Int) (g : Nat) (hg : g ∣ a.natAbs) (h0 : 0 < g) : (a.natAbs : Int) / (g : Int) = ((a / (g : Int)).natAbs : Int) ∧ (a < 0 ↔ a / (g : Int) < 0) := by
  have hd : (g : Int) ∣ a := by rw [← Int.dvd_natAbs]; exact Int.natCast_dvd_natCast.2 hg
  obtain ⟨k, rfl⟩ := hd
  have hne : (g : Int) ≠ 0 := by omega
  have hp : 0 < (g : Int) := by omega
  rw [Int.mul_ediv_cancel_left k hne, Int.natAbs_mul, Int.natAbs_natCast, Int.natCast_mul, Int.mul_ediv_cancel_left _ hne]
  refine ⟨rfl, ?_, ?_⟩
  · intro h
    by_cases hk : k < 0
    · exact hk
    · have := Int.mul_nonneg (Int.le_of_lt hp) (by omega : 0 ≤ k)
      omega
  · intro h; exact Int.mul_neg_of_pos_of_neg hp h
theorem sign_mul (k l : Int) : (decide (0 < ((k.natAbs : Int) * (l.natAbs : Int))) && (decide (k < 0) != decide (l < 0))) = decide (k * l < 0) := by
  have e : (k.natAbs : Int) * (l.natAbs : Int) = ((k * l).natAbs : Int) := by rw [Int.natAbs_mul, Int.natCast_mul]
  rw [e]
  by_cases hk : k < 0
  · by_cases hl : l < 0
    · have := Int.mul_pos_of_neg_of_neg hk hl
      have h3 : ¬ k * l < 0 := by omega
      simp [hk, hl, h3]
    · by_cases h0 : l = 0
      · subst h0; simp
      · have := Int.mul_neg_of_neg_of_pos hk (by omega : 0 < l)
        have h4 : 0 < ((k * l).natAbs : Int) := by omega
        simp only [hk, hl, this, h4, decide_true, decide_false]; rfl
  · by_cases h0 : k = 0
    · subst h0; simp
    · by_cases hl : l < 0
      · have := Int.mul_neg_of_pos_of_neg (by omega : 0 < k) hl
        have h4 : 0 < ((k * l).natAbs : Int) := by omega
        simp only [hk, hl, this, h4, decide_true, decide_false]; rfl
      · have := Int.mul_nonneg (by omega : 0 ≤ k) (by omega : 0 ≤ l)
        have h3 : ¬ k * l < 0 := by omega
        simp [hk, hl, h3]
/-- the reference's reduced parts -/
theorem rmul_facts {a b c d : Int} (h1 : ok a b = true) (h2 : ok c d = true) (ha : a ≤ 9223372036854775807) (hc : c ≤ 9223372036854775807) (hb : b ≤ 9223372036854775807) (hd : d ≤ 9223372036854775807) :
    ∃ g1 g2 : Int, ((Nat.gcd a.natAbs d.natAbs : Nat) : Int) = g1 ∧ ((Nat.gcd c.natAbs b.natAbs : Nat) : Int) = g2 ∧ 1 ≤ g1 ∧ g1 ≤ 9223372036854775807 ∧ 1 ≤ g2 ∧ g2 ≤ 9223372036854775807
    ∧ (0 ≤ (a.natAbs : Int) / g1 ∧ (a.natAbs : Int) / g1 ≤ 9223372036854775808) ∧ (0 ≤ (c.natAbs : Int) / g2 ∧ (c.natAbs : Int) / g2 ≤ 9223372036854775808)
    ∧ (1 ≤ b / g2 ∧ b / g2 ≤ 9223372036854775807) ∧ (1 ≤ d / g1 ∧ d / g1 ≤ 9223372036854775807)
    ∧ madeS (decide (0 < (a.natAbs : Int) / g1 * ((c.natAbs : Int) / g2)) && (decide (a < 0) != decide (c < 0))) ((a.natAbs : Int) / g1 * ((c.natAbs : Int) / g2)) (b / g2 * (d / g1)) = mulS a b c d := by
  obtain ⟨p1, p2, _⟩ := ok_parts h1
  obtain ⟨p3, p4, _⟩ := ok_parts h2
  obtain ⟨g1, g2, e1, e2, l1, u1, l2, u2, _, x1, x2, _, y1, y2, m1, m2, n1, n2, hfit⟩ := mul_facts h1 h2 ha hc hb hd
  have k1 : 0 < Nat.gcd a.natAbs d.natAbs := Nat.gcd_pos_of_pos_right _ (by omega)
  have k2 : 0 < Nat.gcd c.natAbs b.natAbs := Nat.gcd_pos_of_pos_right _ (by omega)
  have A := abs_ediv a _ (Nat.gcd_dvd_left a.natAbs d.natAbs) k1
  have C := abs_ediv c _ (Nat.gcd_dvd_left c.natAbs b.natAbs) k2
  rw [e1] at A
  rw [e2] at C
  refine ⟨g1, g2, e1, e2, l1, u1, l2, u2, by omega, by omega, ⟨m1, m2⟩, ⟨n1, n2⟩, ?_⟩
  have sa : decide (a < 0) = decide (a / g1 < 0) := by simp only [A.2]
  have sc : decide (c < 0) = decide (c / g2 < 0) := by simp only [C.2]
  have hD : 1 ≤ b / g2 * (d / g1) := by
    have := Int.mul_le_mul m1 n1 (by omega) (by omega : 0 ≤ b / g2)
    omega
  rw [A.1, C.1, sa, sc, sign_mul, ← Int.natCast_mul, ← Int.natAbs_mul, made_fit _ _ hD, hfit]
theorem madeS_far (s : Bool) (x y : Int) (h : 0 < hi64 x ∨ 0 < hi64 y) : madeS s x y = (0, 0, 2) := by
  unfold madeS hi64 at *
  rw [if_pos (by omega)]
end RM
end Go.Proofs.YthcgcmmkajjhhaaDoor
