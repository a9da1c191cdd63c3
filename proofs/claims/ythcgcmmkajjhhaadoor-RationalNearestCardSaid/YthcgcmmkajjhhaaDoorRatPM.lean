/- Plain numbers for positions: the nearest unit, by the quotient in lowest terms and by magnitudes. Imports nothing of the program. -/
import Derived.Test.YthcgcmmkajjhhaaDoorRatN2
namespace Go.Proofs.YthcgcmmkajjhhaaDoor
namespace RM

def scaleB (n d : Int) : Bool := ok n d && decide (0 < n ∧ n ≤ 2147483648 ∧ d ≤ 2147483648)
theorem scale_parts {n d : Int} (h : scaleB n d = true) : ok n d = true ∧ 0 < n ∧ n ≤ 2147483648 ∧ 1 ≤ d ∧ d ≤ 2147483648 := by
  simp only [scaleB, Bool.and_eq_true, decide_eq_true_eq] at h
  exact ⟨h.1, h.2.1, h.2.2.1, (ok_parts h.1).1, h.2.2.2⟩
/-- the nearest unit -/
def posQ (n fn fd tn td : Int) : Int := (2 * n * (tn * fd) + td * fn) / (2 * (td * fn))
def posS (n fn fd tn td : Int) : Int × Int := if scaleB fn fd = true ∧ scaleB tn td = true then (if narrowB (posQ n fn fd tn td) = true then (posQ n fn fd tn td, 0) else (0, 2)) else (0, 1)
theorem posS_bad {n fn fd tn td : Int} (h : ¬ (scaleB fn fd = true ∧ scaleB tn td = true)) : posS n fn fd tn td = (0, 1) := by rw [posS, if_neg h]
theorem posS_ok {n fn fd tn td : Int} (h1 : scaleB fn fd = true) (h2 : scaleB tn td = true) (h : narrowB (posQ n fn fd tn td) = true) : posS n fn fd tn td = (posQ n fn fd tn td, 0) := by rw [posS, if_pos ⟨h1, h2⟩, if_pos h]
theorem posS_no {n fn fd tn td : Int} (h1 : scaleB fn fd = true) (h2 : scaleB tn td = true) (h : narrowB (posQ n fn fd tn td) = false) : posS n fn fd tn td = (0, 2) := by rw [posS, if_pos ⟨h1, h2⟩, if_neg (by simp [h])]

/-- sn/sd is to/from, in some terms -/
def Step (fn fd tn td sn sd : Int) : Prop := 1 ≤ sn ∧ sn ≤ 4611686018427387904 ∧ 1 ≤ sd ∧ sd ≤ 4611686018427387904 ∧ ∃ k, 1 ≤ k ∧ sn * k = tn * fd ∧ sd * k = td * fn

theorem mul_31 {a b : Int} (ha : 0 < a ∧ a ≤ 2147483648) (hb : 0 < b ∧ b ≤ 2147483648) : 0 < a * b ∧ a * b ≤ 4611686018427387904 :=
  ⟨Int.mul_pos ha.1 hb.1, Int.le_trans (Int.mul_le_mul ha.2 hb.2 (by omega) (by omega)) (by decide)⟩

theorem posQ_step {fn fd tn td sn sd : Int} (n : Int) (h : Step fn fd tn td sn sd) : (n * sn + n * sn + sd) / (2 * sd) = posQ n fn fd tn td := by
  obtain ⟨_, _, _, _, k, hk, h1, h2⟩ := h
  unfold posQ
  rw [← h1, ← h2]
  have e1 : 2 * n * (sn * k) + sd * k = k * (n * sn + n * sn + sd) := by
    rw [← Int.mul_assoc, Int.mul_comm k, Int.add_mul, Int.mul_assoc 2, Int.two_mul]
  have e2 : 2 * (sd * k) = k * (2 * sd) := by rw [← Int.mul_assoc, Int.mul_comm k]
  rw [e1, e2, Int.mul_ediv_mul_of_pos _ _ (by omega)]

/-- the quotient of two scales, as Div gives it -/
theorem step_enc {fn fd tn td : Int} (h1 : scaleB fn fd = true) (h2 : scaleB tn td = true) : ∃ sn sd, divS tn td fn fd = (sn, sd, 0) ∧ Step fn fd tn td sn sd := by
  obtain ⟨o1, p1, p2, p3, p4⟩ := scale_parts h1
  obtain ⟨o2, r1, r2, r3, r4⟩ := scale_parts h2
  have hq : ∀ c d : Int, 0 ≤ d → q c d = Rat.divInt c d := by
    intro c d h
    unfold q
    rw [← Rat.divInt_ofNat, Int.toNat_of_nonneg h]
  have e : q tn td / q fn fd = Rat.divInt (tn * fd) (td * fn) := by
    rw [Rat.div_def, hq tn td (by omega), hq fn fd (by omega), Rat.inv_divInt, Rat.divInt_mul_divInt]
  obtain ⟨b1, b2⟩ := mul_31 ⟨r1, r2⟩ ⟨by omega, p4⟩ (a := tn) (b := fd)
  obtain ⟨b3, b4⟩ := mul_31 (a := td) (b := fn) ⟨by omega, r4⟩ ⟨p1, p2⟩
  rw [divS, if_pos ⟨o2, o1, by omega⟩, e]
  unfold Step
  generalize tn * fd = A at *
  generalize td * fn = B at *
  obtain ⟨e1, e2⟩ := of_parts A B (by omega)
  rw [if_pos (by omega)] at e1
  have hg1 : Nat.gcd A.natAbs B.natAbs ∣ A.natAbs := Nat.gcd_dvd_left _ _
  have hg2 : Nat.gcd A.natAbs B.natAbs ∣ B.natAbs := Nat.gcd_dvd_right _ _
  have hgp : 0 < Nat.gcd A.natAbs B.natAbs := Nat.gcd_pos_of_pos_right _ (by omega)
  generalize Nat.gcd A.natAbs B.natAbs = g at *
  have m1 := Nat.div_mul_cancel hg1
  have m2 := Nat.div_mul_cancel hg2
  have l1 := Nat.div_le_self A.natAbs g
  have l2 := Nat.div_le_self B.natAbs g
  have q1 : 0 < A.natAbs / g := Nat.div_pos (Nat.le_of_dvd (by omega) hg1) hgp
  have q2 : 0 < B.natAbs / g := Nat.div_pos (Nat.le_of_dvd (by omega) hg2) hgp
  generalize A.natAbs / g = x at *
  generalize B.natAbs / g = y at *
  have hf : fits (Rat.divInt A B) = true := by
    simp only [fits, decide_eq_true_eq, e1, e2]; omega
  refine ⟨x, y, ?_, by omega, by omega, by omega, by omega, g, by omega, ?_, ?_⟩
  · rw [enc, if_pos hf, e1, e2]
  · rw [← Int.natCast_mul, m1]; omega
  · rw [← Int.natCast_mul, m2]; omega

theorem near_bd {n sn sd : Int} (hn : -9223372036854775808 ≤ n ∧ n ≤ 9223372036854775807) (h1 : 1 ≤ sn ∧ sn ≤ 4611686018427387904) (h2 : 1 ≤ sd ∧ sd ≤ 4611686018427387904) :
    (-9223372036854775808 ≤ hi64 (n * sn) ∧ hi64 (n * sn) ≤ 9223372036854775807) ∧ (-9223372036854775808 ≤ hi64 (n * sn + n * sn) ∧ hi64 (n * sn + n * sn) ≤ 9223372036854775807) ∧ (-9223372036854775808 ≤ hi64 (n * sn + n * sn + sd) ∧ hi64 (n * sn + n * sn + sd) ≤ 9223372036854775807) ∧ hi64 sd = 0 ∧ lo64 sd = sd := by
  have h : (n * sn).natAbs ≤ 9223372036854775808 * 4611686018427387904 := by
    rw [Int.natAbs_mul]; exact Nat.mul_le_mul (by omega) (by omega)
  have hb : -(9223372036854775808 * 4611686018427387904) ≤ n * sn ∧ n * sn ≤ 9223372036854775808 * 4611686018427387904 := by omega
  generalize n * sn = x at *
  refine ⟨hi_bd _ (by omega), hi_bd _ (by omega), hi_bd _ (by omega), ?_, ?_⟩
  · unfold hi64; omega
  · unfold lo64; omega

/-- by magnitudes -/
theorem posQ_mag {n fn fd tn td m T d : Int} (hm : m = n.natAbs) (hT : T = tn * fd) (hd : d = td * fn) (h0 : 0 < d) :
    (n < 0 → m * T + m * T ≤ d → 0 ≤ m * T + m * T → posQ n fn fd tn td = 0) ∧ (n < 0 → posQ n fn fd tn td = -(m * T + m * T - d) / (2 * d)) ∧ (0 ≤ n → posQ n fn fd tn td = (m * T + m * T + d) / (2 * d)) := by
  unfold posQ
  rw [← hT, ← hd]
  have e1 : n < 0 → 2 * n * T + d = -(m * T + m * T - d) := by
    intro h
    have : n = -m := by omega
    rw [this, Int.mul_assoc, Int.neg_mul]; omega
  have e2 : 0 ≤ n → 2 * n * T + d = m * T + m * T + d := by
    intro h
    have : n = m := by omega
    rw [this, Int.mul_assoc]; omega
  refine ⟨fun h h2 h3 => ?_, fun h => by rw [e1 h], fun h => by rw [e2 h]⟩
  rw [e1 h]
  exact Int.ediv_eq_zero_of_lt (by omega) (by omega)
end RM
end Go.Proofs.YthcgcmmkajjhhaaDoor
