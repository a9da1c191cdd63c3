/- Mathematics of the reference's Add. -/
import Derived.Test.YthcgcmmkajjhhaaDoorRatAddM
import Derived.Test.YthcgcmmkajjhhaaDoorRatRDiv
namespace Go.Proofs.YthcgcmmkajjhhaaDoor
set_option linter.unusedVariables false
set_option linter.unusedSimpArgs false
open Go.RowKit
namespace RM
theorem abs_sign (a : Int) : ((a.natAbs : Nat) : Int) = if a < 0 then -a else a := by split <;> omega
theorem abs_mul (a y : Int) (hy : 1 ≤ y) : a * y = if a < 0 then -((a.natAbs : Int) * y) else (a.natAbs : Int) * y := by
  rw [abs_sign]
  split
  · rw [Int.neg_mul]; omega
  · rfl
theorem radd_same {a c x y : Int} {sa sc : Bool} (hx : 1 ≤ x) (hy : 1 ≤ y) (h1 : decide (a < 0) = sa) (h2 : decide (c < 0) = sc) (h : sa = sc) :
    (a.natAbs : Int) * y + c.natAbs * x = ((a * y + c * x).natAbs : Nat) ∧ (a * y + c * x ≠ 0 → sa = decide (a * y + c * x < 0)) := by
  have e1 := abs_mul a y hy
  have e2 := abs_mul c x hx
  have p1 : 0 ≤ (a.natAbs : Int) * y := Int.mul_nonneg (by omega) (by omega)
  have p2 : 0 ≤ (c.natAbs : Int) * x := Int.mul_nonneg (by omega) (by omega)
  subst h
  subst h1
  have h3 : (c < 0) ↔ (a < 0) := by simpa [decide_eq_decide] using h2
  generalize (a.natAbs : Int) * y = X at *
  generalize (c.natAbs : Int) * x = Y at *
  generalize a * y = A at *
  generalize c * x = C at *
  by_cases ha : a < 0
  · rw [if_pos ha] at e1
    rw [if_pos (h3.2 ha)] at e2
    refine ⟨by omega, fun hne => ?_⟩
    rw [decide_eq_decide]
    omega
  · rw [if_neg ha] at e1
    rw [if_neg (fun h => ha (h3.1 h))] at e2
    refine ⟨by omega, fun hne => ?_⟩
    rw [decide_eq_decide]
    omega
theorem radd_less {a c x y : Int} {sa sc : Bool} (hx : 1 ≤ x) (hy : 1 ≤ y) (h1 : decide (a < 0) = sa) (h2 : decide (c < 0) = sc) (h : sa ≠ sc) (hl : lessB ((a.natAbs : Int) * y) (c.natAbs * x) = true) :
    (c.natAbs : Int) * x - a.natAbs * y = ((a * y + c * x).natAbs : Nat) ∧ (a * y + c * x ≠ 0 → sc = decide (a * y + c * x < 0)) := by
  have e1 := abs_mul a y hy
  have e2 := abs_mul c x hx
  have p1 : 0 ≤ (a.natAbs : Int) * y := Int.mul_nonneg (by omega) (by omega)
  have p2 : 0 ≤ (c.natAbs : Int) * x := Int.mul_nonneg (by omega) (by omega)
  subst h1
  subst h2
  simp only [lessB, decide_eq_true_eq] at hl
  have h3 : ¬ ((a < 0) ↔ (c < 0)) := by simpa [decide_eq_decide] using h
  generalize (a.natAbs : Int) * y = X at *
  generalize (c.natAbs : Int) * x = Y at *
  generalize a * y = A at *
  generalize c * x = C at *
  by_cases ha : a < 0
  · have hc : ¬ c < 0 := fun h => h3 ⟨fun _ => h, fun _ => ha⟩
    rw [if_pos ha] at e1
    rw [if_neg hc] at e2
    refine ⟨by omega, fun hne => ?_⟩
    rw [decide_eq_decide]
    omega
  · have hc : c < 0 := Decidable.byContradiction fun h => h3 ⟨fun t => absurd t ha, fun t => absurd t h⟩
    rw [if_neg ha] at e1
    rw [if_pos hc] at e2
    refine ⟨by omega, fun hne => ?_⟩
    rw [decide_eq_decide]
    omega
theorem radd_more {a c x y : Int} {sa sc : Bool} (hx : 1 ≤ x) (hy : 1 ≤ y) (h1 : decide (a < 0) = sa) (h2 : decide (c < 0) = sc) (h : sa ≠ sc) (hl : lessB ((a.natAbs : Int) * y) (c.natAbs * x) = false) :
    (a.natAbs : Int) * y - c.natAbs * x = ((a * y + c * x).natAbs : Nat) ∧ (a * y + c * x ≠ 0 → sa = decide (a * y + c * x < 0)) := by
  have e1 := abs_mul a y hy
  have e2 := abs_mul c x hx
  have p1 : 0 ≤ (a.natAbs : Int) * y := Int.mul_nonneg (by omega) (by omega)
  have p2 : 0 ≤ (c.natAbs : Int) * x := Int.mul_nonneg (by omega) (by omega)
  subst h1
  subst h2
  simp only [lessB, decide_eq_false_iff_not] at hl
  have h3 : ¬ ((a < 0) ↔ (c < 0)) := by simpa [decide_eq_decide] using h
  generalize (a.natAbs : Int) * y = X at *
  generalize (c.natAbs : Int) * x = Y at *
  generalize a * y = A at *
  generalize c * x = C at *
  by_cases ha : a < 0
  · have hc : ¬ c < 0 := fun h => h3 ⟨fun _ => h, fun _ => ha⟩
    rw [if_pos ha] at e1
    rw [if_neg hc] at e2
    refine ⟨by omega, fun hne => ?_⟩
    rw [decide_eq_decide]
    omega
  · have hc : c < 0 := Decidable.byContradiction fun h => h3 ⟨fun t => absurd t ha, fun t => absurd t h⟩
    rw [if_neg ha] at e1
    rw [if_pos hc] at e2
    refine ⟨by omega, fun hne => ?_⟩
    rw [decide_eq_decide]
    omega

theorem add_zero {a b c d x y g : Int} (h1 : ok a b = true) (h2 : ok c d = true) (hx : x * g = b) (hy : y * g = d) (h : a * y + c * x = 0) : addS a b c d = (0, 1, 0) := by
  have e : a * d + c * b = 0 := by
    rw [← hx, ← hy, ← Int.mul_assoc, ← Int.mul_assoc, ← Int.add_mul, h, Int.zero_mul]
  obtain ⟨p1, _⟩ := ok_parts h1
  obtain ⟨p2, _⟩ := ok_parts h2
  have hq : q a b + q c d = 0 := by
    unfold q
    rw [Rat.mkRat_add_mkRat _ _ (by omega) (by omega)]
    have f1 : ((d.toNat : Nat) : Int) = d := by omega
    have f2 : ((b.toNat : Nat) : Int) = b := by omega
    rw [f1, f2, e]
    exact Rat.zero_mkRat _
  rw [addS, if_pos ⟨h1, h2⟩, hq]
  decide

theorem radd_facts {a b c d : Int} (h1 : ok a b = true) (h2 : ok c d = true) (ha : a ≤ 9223372036854775807) (hc : c ≤ 9223372036854775807) (hb : b ≤ 9223372036854775807) (hd : d ≤ 9223372036854775807) :
    ∃ g x y e z : Int, ((Nat.gcd b.natAbs d.natAbs : Nat) : Int) = g ∧ 1 ≤ g ∧ g ≤ 9223372036854775807 ∧ b / g = x ∧ 1 ≤ x ∧ x ≤ 9223372036854775807 ∧ d / g = y ∧ 1 ≤ y ∧ y ≤ 9223372036854775807
    ∧ ((Nat.gcd ((((a * y + c * x).natAbs : Nat) : Int) % g).natAbs g.natAbs : Nat) : Int) = e ∧ 1 ≤ e ∧ e ≤ 9223372036854775807 ∧ d / e = z ∧ 1 ≤ z ∧ z ≤ 9223372036854775807
    ∧ (a * y + c * x = 0 → addS a b c d = (0, 1, 0))
    ∧ madeS (decide (a * y + c * x < 0)) ((((a * y + c * x).natAbs : Nat) : Int) / e) (x * z) = addS a b c d := by
  obtain ⟨g, x, y, e, z, e1, l1, u1, e2, l2, u2, e3, l3, u3, e4, l4, u4, e5, l5, u5, _, _, hfit⟩ := add_facts h1 h2 ha hc hb hd
  have hgb : g ∣ b := by rw [← e1, ← Int.dvd_natAbs]; exact Int.natCast_dvd_natCast.2 (Nat.gcd_dvd_left _ _)
  have hgd : g ∣ d := by rw [← e1, ← Int.dvd_natAbs]; exact Int.natCast_dvd_natCast.2 (Nat.gcd_dvd_right _ _)
  have hx : x * g = b := by rw [← e2]; exact Int.ediv_mul_cancel hgb
  have hy : y * g = d := by rw [← e3]; exact Int.ediv_mul_cancel hgd
  have hz := fun h => add_zero (g := g) h1 h2 hx hy h
  generalize hN : a * y + c * x = N at *
  have q1 := gcd_mod N g (by omega)
  have q2 := gcd_mod ((N.natAbs : Nat) : Int) g (by omega)
  have q3 : Nat.gcd ((((N.natAbs : Nat) : Int)) % g).natAbs g.natAbs = Nat.gcd (N % g).natAbs g.natAbs := by rw [q1, q2]; rfl
  refine ⟨g, x, y, e, z, e1, l1, u1, e2, l2, u2, e3, l3, u3, by rw [hN, q3, e4], l4, u4, e5, l5, u5, ?_, ?_⟩
  · rw [hN]; exact hz
  · rw [hN]
    have hdv : Nat.gcd (N % g).natAbs g.natAbs ∣ N.natAbs := by rw [q1]; exact Nat.gcd_dvd_left _ _
    have A := abs_ediv N _ hdv (by omega)
    rw [e4] at A
    have hD : 1 ≤ x * z := by
      have := Int.mul_le_mul l2 l5 (by omega) (by omega : 0 ≤ x)
      omega
    have sn : decide (N < 0) = decide (N / e < 0) := by simp only [A.2]
    rw [sn, A.1, made_fit _ _ hD, hfit]
theorem far_of {t e : Int} (he : 1 ≤ e) (h : ¬ hi64 t < e) : 0 < hi64 (t / e) := by
  unfold hi64 at *
  have h1 : e * 18446744073709551616 ≤ t := by omega
  have h2 : 18446744073709551616 ≤ t / e := by
    rw [Int.le_ediv_iff_mul_le (by omega), Int.mul_comm]
    exact h1
  omega
end RM
end Go.Proofs.YthcgcmmkajjhhaaDoor
