/- The law RationalField as a contract. -/
import Derived.Test.YtamcnollfjbmbaaRatMul
namespace Go.Proofs.Ytamcnollfjbmbaa
open Go.RowKit
namespace RM
theorem enc_okF (x : Rat) (h : (enc x).2.2 = 0) : enc x = (x.num, (x.den : Int), 0) ∧ fits x = true := by
  unfold enc at *
  by_cases hf : fits x = true
  · rw [if_pos hf]; exact ⟨rfl, hf⟩
  · rw [if_neg hf] at h; simp at h
theorem enc_good (x : Rat) (h : (enc x).2.2 = 0) : ok (enc x).1 (enc x).2.1 = true ∧ q (enc x).1 (enc x).2.1 = x := by
  obtain ⟨e, hf⟩ := enc_okF x h
  rw [e]
  exact ⟨ok_of x hf, q_of x⟩
theorem enc_bd (x : Rat) : (-9223372036854775808 ≤ (enc x).1 ∧ (enc x).1 ≤ 9223372036854775807) ∧ (-9223372036854775808 ≤ (enc x).2.1 ∧ (enc x).2.1 ≤ 9223372036854775807) := by
  unfold enc
  by_cases h : fits x = true
  · rw [if_pos h]
    simp only [fits, decide_eq_true_eq] at h
    have := x.den_pos
    exact ⟨⟨by simp only []; omega, by simp only []; omega⟩, ⟨by simp only []; omega, by simp only []; omega⟩⟩
  · rw [if_neg h]; decide
theorem add_bd (a b c d : Int) : (-9223372036854775808 ≤ (addS a b c d).1 ∧ (addS a b c d).1 ≤ 9223372036854775807) ∧ (-9223372036854775808 ≤ (addS a b c d).2.1 ∧ (addS a b c d).2.1 ≤ 9223372036854775807) := by
  unfold addS; split
  · exact enc_bd _
  · decide
theorem mul_bd (a b c d : Int) : (-9223372036854775808 ≤ (mulS a b c d).1 ∧ (mulS a b c d).1 ≤ 9223372036854775807) ∧ (-9223372036854775808 ≤ (mulS a b c d).2.1 ∧ (mulS a b c d).2.1 ≤ 9223372036854775807) := by
  unfold mulS; split
  · exact enc_bd _
  · decide
theorem add_good {a b c d : Int} (h : (addS a b c d).2.2 = 0) : ok a b = true ∧ ok c d = true ∧ ok (addS a b c d).1 (addS a b c d).2.1 = true ∧ q (addS a b c d).1 (addS a b c d).2.1 = q a b + q c d := by
  unfold addS at *
  by_cases hk : ok a b = true ∧ ok c d = true
  · rw [if_pos hk] at *
    have := enc_good _ h
    exact ⟨hk.1, hk.2, this.1, this.2⟩
  · rw [if_neg hk] at h; simp at h
theorem mul_good {a b c d : Int} (h : (mulS a b c d).2.2 = 0) : ok a b = true ∧ ok c d = true ∧ ok (mulS a b c d).1 (mulS a b c d).2.1 = true ∧ q (mulS a b c d).1 (mulS a b c d).2.1 = q a b * q c d := by
  unfold mulS at *
  by_cases hk : ok a b = true ∧ ok c d = true
  · rw [if_pos hk] at *
    have := enc_good _ h
    exact ⟨hk.1, hk.2, this.1, this.2⟩
  · rw [if_neg hk] at h; simp at h
theorem add_comm' (a b c d : Int) : addS c d a b = addS a b c d := by
  unfold addS; simp only [and_comm, Rat.add_comm]

theorem mul_comm' (a b c d : Int) : mulS c d a b = mulS a b c d := by
  unfold mulS; simp only [and_comm, Rat.mul_comm]

theorem add_eval {a b c d : Int} (h1 : ok a b = true) (h2 : ok c d = true) : addS a b c d = enc (q a b + q c d) := by rw [addS, if_pos ⟨h1, h2⟩]
theorem mul_eval {a b c d : Int} (h1 : ok a b = true) (h2 : ok c d = true) : mulS a b c d = enc (q a b * q c d) := by rw [mulS, if_pos ⟨h1, h2⟩]
theorem add_assoc' {a b c d e f : Int} (h1 : (addS a b c d).2.2 = 0) (h2 : (addS c d e f).2.2 = 0) :
    addS (addS a b c d).1 (addS a b c d).2.1 e f = addS a b (addS c d e f).1 (addS c d e f).2.1 := by
  obtain ⟨k1, k2, k3, k4⟩ := add_good h1
  obtain ⟨_, k5, k6, k7⟩ := add_good h2
  rw [add_eval k3 k5, add_eval k1 k6, k4, k7, Rat.add_assoc]
theorem enc_q {a b : Int} (h : ok a b = true) (ha : a ≤ 9223372036854775807) (hb : b ≤ 9223372036854775807) : enc (q a b) = (a, b, 0) := by
  rw [enc, if_pos (fits_q h (by omega) (by omega)), q_num h, q_den h]
theorem sub_back {a b c d : Int} (h1 : (addS a b c d).2.2 = 0) (ha : a ≤ 9223372036854775807) (hb : b ≤ 9223372036854775807) :
    subS (addS a b c d).1 (addS a b c d).2.1 c d = (a, b, 0) := by
  obtain ⟨k1, k2, k3, k4⟩ := add_good h1
  rw [subS, if_pos ⟨k3, k2⟩, k4, Rat.add_sub_cancel, enc_q k1 ha hb]
theorem div_back {a b c d : Int} (h1 : (mulS a b c d).2.2 = 0) (h0 : c ≠ 0) (ha : a ≤ 9223372036854775807) (hb : b ≤ 9223372036854775807) :
    divS (mulS a b c d).1 (mulS a b c d).2.1 c d = (a, b, 0) := by
  obtain ⟨k1, k2, k3, k4⟩ := mul_good h1
  have hq : q c d ≠ 0 := fun h => h0 (by rw [← q_num k2, h]; rfl)
  rw [divS, if_pos ⟨k3, k2, h0⟩, k4, Rat.mul_div_cancel hq, enc_q k1 ha hb]
theorem distrib {a b c d e f : Int} (h1 : (addS a b c d).2.2 = 0) (h2 : (mulS a b e f).2.2 = 0) (h3 : (mulS c d e f).2.2 = 0) :
    addS (mulS a b e f).1 (mulS a b e f).2.1 (mulS c d e f).1 (mulS c d e f).2.1 = mulS (addS a b c d).1 (addS a b c d).2.1 e f := by
  obtain ⟨k1, k2, k3, k4⟩ := add_good h1
  obtain ⟨_, k5, k6, k7⟩ := mul_good h2
  obtain ⟨_, _, k8, k9⟩ := mul_good h3
  rw [add_eval k6 k8, mul_eval k3 k5, k4, k7, k9, Rat.add_mul]
end RM

end Go.Proofs.Ytamcnollfjbmbaa
