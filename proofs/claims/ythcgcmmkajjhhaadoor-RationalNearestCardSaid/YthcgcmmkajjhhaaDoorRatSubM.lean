/- Plain numbers for differences and the order. -/
import Derived.Test.YthcgcmmkajjhhaaDoorRatAddM
import Derived.Test.YthcgcmmkajjhhaaDoorRatCM
namespace Go.Proofs.YthcgcmmkajjhhaaDoor
open Go.RowKit
namespace RM
theorem ok_neg {c d : Int} (h0 : -9223372036854775808 < c) (h1 : c ≤ 9223372036854775807) : ok (-c) d = ok c d := by
  rw [Bool.eq_iff_iff]
  simp only [ok, decide_eq_true_eq, Int.natAbs_neg]
  omega
theorem sub_add {a b c d : Int} (h0 : -9223372036854775808 < c) (h1 : c ≤ 9223372036854775807) : addS a b (-c) d = subS a b c d := by
  unfold addS subS
  rw [ok_neg h0 h1]
  by_cases h : ok a b = true ∧ ok c d = true
  · rw [if_pos h, if_pos h, Rat.sub_eq_add_neg]
    unfold q
    rw [Rat.neg_mkRat]
  · rw [if_neg h, if_neg h]
theorem ok_min (d : Int) : ok (-9223372036854775808) d = false := by simp only [ok, decide_eq_false_iff_not]; omega
theorem sub_min {a b d : Int} : addS a b (-9223372036854775808) d = subS a b (-9223372036854775808) d := by
  simp [addS, subS, ok_min]
theorem enc_ok (x : Rat) (h : (enc x).2.2 = 0) : enc x = (x.num, (x.den : Int), 0) ∧ fits x = true := by
  unfold enc at *
  by_cases hf : fits x = true
  · rw [if_pos hf]; exact ⟨rfl, hf⟩
  · rw [if_neg hf] at h; simp at h
theorem sub_ok {a b c d : Int} (h : (subS a b c d).2.2 = 0) : ok a b = true ∧ ok c d = true ∧ (subS a b c d).1 = (q a b - q c d).num := by
  unfold subS at *
  by_cases hk : ok a b = true ∧ ok c d = true
  · rw [if_pos hk] at *
    have := enc_ok _ h
    exact ⟨hk.1, hk.2, by rw [this.1]⟩
  · rw [if_neg hk] at h; simp at h
theorem cmp_q {a b c d : Int} (h1 : ok a b = true) (h2 : ok c d = true) : (a * d < c * b) ↔ q a b < q c d := by
  rw [Rat.lt_iff, q_num h1, q_num h2, q_den h1, q_den h2]
theorem num_pos_iff (x : Rat) : 0 < x.num ↔ 0 < x := by
  rw [Rat.lt_iff]; simp
theorem num_neg_iff (x : Rat) : x.num < 0 ↔ x < 0 := by
  rw [Rat.lt_iff]; simp
def sgn (n : Int) : Int := if 0 < n then 1 else if n < 0 then -1 else 0
theorem order_sign {a b c d : Int} (h : (subS a b c d).2.2 = 0) : cmpS a b c d = sgn (subS a b c d).1 ∧ cmpS c d a b = -sgn (subS a b c d).1 := by
  obtain ⟨h1, h2, h3⟩ := sub_ok h
  have p1 : 0 < (subS a b c d).1 ↔ c * b < a * d := by
    rw [h3, num_pos_iff, ← Rat.lt_iff_sub_pos, ← cmp_q h2 h1]
  have p2 : (subS a b c d).1 < 0 ↔ a * d < c * b := by
    rw [h3, num_neg_iff, cmp_q h1 h2]
    constructor
    · intro h
      have := (Rat.add_lt_add_right (c := q c d)).2 h
      rwa [Rat.sub_add_cancel, Rat.zero_add] at this
    · intro h
      have := (Rat.add_lt_add_right (c := -(q c d))).2 h
      rwa [← Rat.sub_eq_add_neg, Rat.add_neg_cancel] at this
  rw [cmpS, if_pos ⟨h1, h2⟩, cmpS, if_pos ⟨h2, h1⟩]
  unfold cmpI sgn
  by_cases a1 : c * b < a * d <;> by_cases a2 : a * d < c * b
  · omega
  · rw [if_neg a2, if_pos a1, if_pos (p1.2 a1), if_pos a1]; exact ⟨rfl, rfl⟩
  · have n1 : ¬ 0 < (subS a b c d).1 := fun h => a1 (p1.1 h)
    rw [if_pos a2, if_neg n1, if_pos (p2.2 a2), if_neg a1, if_pos a2]; exact ⟨rfl, rfl⟩
  · have n1 : ¬ 0 < (subS a b c d).1 := fun h => a1 (p1.1 h)
    have n2 : ¬ (subS a b c d).1 < 0 := fun h => a2 (p2.1 h)
    rw [if_neg a2, if_neg a1, if_neg n1, if_neg n2, if_neg a1, if_neg a2]; exact ⟨rfl, rfl⟩
theorem cmp_less {a b c d : Int} (h : cmpS a b c d < 0) : ok a b = true ∧ ok c d = true ∧ q a b < q c d := by
  unfold cmpS cmpI at h
  by_cases hk : ok a b = true ∧ ok c d = true
  · rw [if_pos hk] at h
    refine ⟨hk.1, hk.2, ?_⟩
    rw [← cmp_q hk.1 hk.2]
    split at h
    · assumption
    · split at h <;> omega
  · rw [if_neg hk] at h; omega
theorem cmp_trans {a b c d e f : Int} (h1 : cmpS a b c d < 0) (h2 : cmpS c d e f < 0) : cmpS a b e f < 0 := by
  obtain ⟨k1, k2, l1⟩ := cmp_less h1
  obtain ⟨k3, k4, l2⟩ := cmp_less h2
  have l3 : q a b < q e f := by
    rw [Rat.lt_iff_le_and_ne] at *
    refine ⟨Rat.le_trans l1.1 l2.1, fun he => ?_⟩
    rw [he] at l1
    exact l2.2 (Rat.le_antisymm l2.1 l1.1)
  rw [cmpS, if_pos ⟨k1, k4⟩, cmpI, if_pos ((cmp_q k1 k4).2 l3)]
  omega
end RM
end Go.Proofs.YthcgcmmkajjhhaaDoor
