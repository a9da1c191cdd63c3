/- Plain numbers for the law of Nearest. -/
import Derived.Test.YthcgcmmkajjhhaaDoorRatPM
import Derived.Test.YthcgcmmkajjhhaaDoorRatSubM
namespace Go.Proofs.YthcgcmmkajjhhaaDoor
namespace RM

def smallB (n d : Int) : Bool := ok n d && decide (0 < n ∧ n ≤ 1048576 ∧ d ≤ 1048576)
theorem small_parts {n d : Int} (h : smallB n d = true) : ok n d = true ∧ 0 < n ∧ n ≤ 1048576 ∧ 1 ≤ d ∧ d ≤ 1048576 := by
  simp only [smallB, Bool.and_eq_true, decide_eq_true_eq] at h
  exact ⟨h.1, h.2.1, h.2.2.1, (ok_parts h.1).1, h.2.2.2⟩
theorem small_scale {n d : Int} (h : smallB n d = true) : scaleB n d = true := by
  obtain ⟨h1, h2, h3, h4, h5⟩ := small_parts h
  simp only [scaleB, Bool.and_eq_true, decide_eq_true_eq]
  exact ⟨h1, by omega, by omega, by omega⟩
def In (s : Int × Int × Int) : Prop := (-9223372036854775808 < s.1 ∧ s.1 < 9223372036854775808) ∧ 0 ≤ s.2.1 ∧ s.2.1 < 9223372036854775808
theorem enc_in (x : Rat) : In (enc x) := by
  unfold enc
  by_cases h : fits x = true
  · rw [if_pos h]
    simp only [fits, decide_eq_true_eq] at h
    unfold In
    simp only
    omega
  · rw [if_neg h]; unfold In; simp
theorem zero_in : In (0, 0, 1) := by unfold In; simp
theorem mulS_in (a b c d : Int) : In (mulS a b c d) := by unfold mulS; split; exact enc_in _; exact zero_in
theorem divS_in (a b c d : Int) : In (divS a b c d) := by unfold divS; split; exact enc_in _; exact zero_in
theorem addS_in (a b c d : Int) : In (addS a b c d) := by unfold addS; split; exact enc_in _; exact zero_in

theorem mul_20 {a b : Int} (ha : 0 < a ∧ a ≤ 1048576) (hb : 0 < b ∧ b ≤ 1048576) : 0 < a * b ∧ a * b ≤ 1099511627776 :=
  ⟨Int.mul_pos ha.1 hb.1, Int.le_trans (Int.mul_le_mul ha.2 hb.2 (by omega) (by omega)) (by decide)⟩
theorem near_fit {n fn fd tn td : Int} (h1 : smallB fn fd = true) (h2 : smallB tn td = true) (hn : 0 ≤ n ∧ n ≤ 2097152) : narrowB (posQ n fn fd tn td) = true ∧ -9223372036854775808 ≤ posQ n fn fd tn td ∧ posQ n fn fd tn td ≤ 9223372036854775807 := by
  obtain ⟨_, p1, p2, p3, p4⟩ := small_parts h1
  obtain ⟨_, r1, r2, r3, r4⟩ := small_parts h2
  obtain ⟨a1, a2⟩ := mul_20 ⟨r1, r2⟩ ⟨by omega, p4⟩ (a := tn) (b := fd)
  obtain ⟨b1, b2⟩ := mul_20 (a := td) (b := fn) ⟨by omega, r4⟩ ⟨p1, p2⟩
  unfold posQ narrowB
  generalize tn * fd = A at *
  generalize td * fn = B at *
  have h : 0 ≤ n * A ∧ n * A ≤ 2305843009213693952 := ⟨Int.mul_nonneg hn.1 (by omega), Int.le_trans (Int.mul_le_mul hn.2 a2 (by omega) (by omega)) (by decide)⟩
  rw [Int.mul_assoc]
  generalize n * A = X at *
  have q1 : 0 ≤ (2 * X + B) / (2 * B) := Int.ediv_nonneg (by omega) (by omega)
  have q2 : (2 * X + B) / (2 * B) ≤ 2 * X + B := Int.ediv_le_self _ (by omega)
  simp only [decide_eq_true_eq]
  omega
theorem posQ_mono {n m fn fd tn td : Int} (h1 : smallB fn fd = true) (h2 : smallB tn td = true) (h : n ≤ m) : posQ n fn fd tn td ≤ posQ m fn fd tn td := by
  obtain ⟨_, p1, p2, p3, p4⟩ := small_parts h1
  obtain ⟨_, r1, r2, r3, r4⟩ := small_parts h2
  obtain ⟨a1, a2⟩ := mul_20 ⟨r1, r2⟩ ⟨by omega, p4⟩ (a := tn) (b := fd)
  obtain ⟨b1, b2⟩ := mul_20 (a := td) (b := fn) ⟨by omega, r4⟩ ⟨p1, p2⟩
  unfold posQ
  refine Int.ediv_le_ediv (by omega) ?_
  have : n * (tn * fd) ≤ m * (tn * fd) := Int.mul_le_mul_of_nonneg_right h (by omega)
  rw [Int.mul_assoc, Int.mul_assoc]
  omega

theorem near_cmp {n p fn fd tn td m1 m2 d1 d2 o1 o2 : Int} (h1 : scaleB fn fd = true) (h2 : scaleB tn td = true) (hn : 0 ≤ n) (hp : p = posQ n fn fd tn td) (hd : -9223372036854775808 < d1 ∧ d1 ≤ 9223372036854775807)
    (hM : mulS tn td n 1 = (m1, m2, 0)) (hD : divS m1 m2 fn fd = (d1, d2, 0)) (hO : addS p 1 (-d1) d2 = (o1, o2, 0)) : cmpS o1 o2 1 2 ≤ 0 ∧ 0 < cmpS o1 o2 (-1) 2 := by
  obtain ⟨k1, p1, p2, p3, p4⟩ := scale_parts h1
  obtain ⟨k2, r1, r2, r3, r4⟩ := scale_parts h2
  have hq : ∀ c d : Int, 0 ≤ d → q c d = Rat.divInt c d := by
    intro c d h
    unfold q
    rw [← Rat.divInt_ofNat, Int.toNat_of_nonneg h]
  -- the product
  have hMo : ok tn td = true ∧ ok n 1 = true := by
    apply Decidable.byContradiction
    intro hc
    rw [mulS, if_neg hc] at hM
    simp at hM
  rw [mulS, if_pos hMo] at hM
  have e1 := enc_ok (q tn td * q n 1) (by rw [hM])
  rw [hM] at e1
  obtain ⟨e1, f1⟩ := e1
  simp only [Prod.mk.injEq, and_true] at e1
  -- the quotient
  have hDo : ok m1 m2 = true ∧ ok fn fd = true ∧ fn ≠ 0 := by
    apply Decidable.byContradiction
    intro hc
    rw [divS, if_neg hc] at hD
    simp at hD
  rw [divS, if_pos hDo] at hD
  have hx : q m1 m2 = q tn td * q n 1 := by rw [e1.1, e1.2, q_of]
  rw [hx] at hD
  have e2 := enc_ok (q tn td * q n 1 / q fn fd) (by rw [hD])
  rw [hD] at e2
  obtain ⟨e2, f2⟩ := e2
  simp only [Prod.mk.injEq, and_true] at e2
  -- the difference
  rw [sub_add (by omega) (by omega)] at hO
  have hOo : ok p 1 = true ∧ ok d1 d2 = true := by
    apply Decidable.byContradiction
    intro hc
    rw [subS, if_neg hc] at hO
    simp at hO
  rw [subS, if_pos hOo] at hO
  have hy : q d1 d2 = q tn td * q n 1 / q fn fd := by rw [e2.1, e2.2, q_of]
  rw [hy] at hO
  have e3 := enc_ok (q p 1 - q tn td * q n 1 / q fn fd) (by rw [hO])
  rw [hO] at e3
  obtain ⟨e3, f3⟩ := e3
  simp only [Prod.mk.injEq, and_true] at e3
  -- as a fraction
  obtain ⟨a1, a2⟩ := mul_31 ⟨r1, r2⟩ ⟨by omega, p4⟩ (a := tn) (b := fd)
  obtain ⟨b1, b2⟩ := mul_31 (a := td) (b := fn) ⟨by omega, r4⟩ ⟨p1, p2⟩
  have hval : q p 1 - q tn td * q n 1 / q fn fd = Rat.divInt (p * (td * fn) - n * (tn * fd)) (td * fn) := by
    have x1 : td * 1 * fn = td * fn := by rw [Int.mul_one]
    have x2 : tn * n * fd = n * (tn * fd) := by rw [Int.mul_comm tn n, Int.mul_assoc]
    rw [Rat.div_def, hq p 1 (by omega), hq tn td (by omega), hq n 1 (by omega), hq fn fd (by omega), Rat.inv_divInt, Rat.divInt_mul_divInt, Rat.divInt_mul_divInt, x1, x2, Rat.sub_eq_add_neg, Rat.neg_divInt, Rat.divInt_add_divInt _ _ (by decide) (by omega)]
    congr 1 <;> simp [Int.sub_eq_add_neg]
  rw [hval] at e3 f3
  have hcross : o1 * (td * fn) = (p * (td * fn) - n * (tn * fd)) * o2 := by
    rw [e3.1, e3.2]
    have hs : Rat.divInt (Rat.divInt (p * (td * fn) - n * (tn * fd)) (td * fn)).num (Rat.divInt (p * (td * fn) - n * (tn * fd)) (td * fn)).den = Rat.divInt (p * (td * fn) - n * (tn * fd)) (td * fn) := Rat.num_divInt_den _
    have hd0 : ((Rat.divInt (p * (td * fn) - n * (tn * fd)) (td * fn)).den : Int) ≠ 0 := by have := (Rat.divInt (p * (td * fn) - n * (tn * fd)) (td * fn)).den_pos; omega
    exact (Rat.divInt_eq_divInt_iff hd0 (by omega)).1 hs
  have ho2 : 0 < o2 := by rw [e3.2]; have := (Rat.divInt (p * (td * fn) - n * (tn * fd)) (td * fn)).den_pos; omega
  have hok : ok o1 o2 = true := by rw [e3.1, e3.2]; exact ok_of _ f3
  -- the floor
  have hfl : 2 * (p * (td * fn) - n * (tn * fd)) ≤ td * fn ∧ -(td * fn) < 2 * (p * (td * fn) - n * (tn * fd)) := by
    rw [hp]
    unfold posQ
    have hm := Int.mul_ediv_add_emod (2 * n * (tn * fd) + td * fn) (2 * (td * fn))
    have h1 := Int.emod_nonneg (2 * n * (tn * fd) + td * fn) (show 2 * (td * fn) ≠ 0 by omega)
    have h2 := Int.emod_lt_of_pos (2 * n * (tn * fd) + td * fn) (show 0 < 2 * (td * fn) by omega)
    generalize (2 * n * (tn * fd) + td * fn) / (2 * (td * fn)) = Q at *
    generalize (2 * n * (tn * fd) + td * fn) % (2 * (td * fn)) = R at *
    rw [Int.mul_assoc 2 n] at hm
    generalize n * (tn * fd) = X at *
    have hc : 2 * (td * fn) * Q = 2 * (Q * (td * fn)) := by rw [Int.mul_assoc, Int.mul_comm (td * fn)]
    rw [hc] at hm
    generalize Q * (td * fn) = Y at *
    omega
  generalize p * (td * fn) - n * (tn * fd) = U at *
  generalize td * fn = B at *
  have c1 : o1 * 2 ≤ 1 * o2 := by
    have : (o1 * 2) * B ≤ (1 * o2) * B := by
      have e : o1 * 2 * B = (2 * U) * o2 := by rw [Int.mul_assoc, Int.mul_comm 2 B, ← Int.mul_assoc, hcross, Int.mul_assoc, Int.mul_comm o2 2, ← Int.mul_assoc, Int.mul_comm U 2]
      rw [e, Int.one_mul, Int.mul_comm o2 B]
      exact Int.mul_le_mul_of_nonneg_right hfl.1 (by omega)
    exact Int.le_of_mul_le_mul_right this (by omega)
  have c2 : -1 * o2 < o1 * 2 := by
    have : (-1 * o2) * B < (o1 * 2) * B := by
      have e : o1 * 2 * B = (2 * U) * o2 := by rw [Int.mul_assoc, Int.mul_comm 2 B, ← Int.mul_assoc, hcross, Int.mul_assoc, Int.mul_comm o2 2, ← Int.mul_assoc, Int.mul_comm U 2]
      rw [e]
      have e2 : -1 * o2 * B = (-B) * o2 := by rw [Int.neg_mul, Int.one_mul, Int.neg_mul, Int.neg_mul, Int.mul_comm]
      rw [e2]
      exact Int.mul_lt_mul_of_pos_right hfl.2 ho2
    exact Int.lt_of_mul_lt_mul_right this (by omega)
  have k3 : ok 1 2 = true := by decide
  have k4 : ok (-1) 2 = true := by decide
  rw [cmpS, if_pos ⟨hok, k3⟩, cmpS, if_pos ⟨hok, k4⟩]
  unfold cmpI
  constructor
  · split
    · omega
    · split <;> omega
  · rw [if_neg (by omega), if_pos c2]; omega
end RM
end Go.Proofs.YthcgcmmkajjhhaaDoor
