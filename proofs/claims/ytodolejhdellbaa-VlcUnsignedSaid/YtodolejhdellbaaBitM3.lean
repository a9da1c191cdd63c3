/- Plain mathematics: what is stored is read back. Imports nothing of the program. -/
import Derived.Test.YtodolejhdellbaaBitM2
namespace Go.Proofs.Ytodolejhdellbaa
namespace BM
theorem test8 : ∀ a b c d e f g h : Bool,
    (128 * a.toNat + 64 * b.toNat + 32 * c.toNat + 16 * d.toNat + 8 * e.toNat + 4 * f.toNat + 2 * g.toNat + h.toNat).testBit 7 = a ∧
    (128 * a.toNat + 64 * b.toNat + 32 * c.toNat + 16 * d.toNat + 8 * e.toNat + 4 * f.toNat + 2 * g.toNat + h.toNat).testBit 6 = b ∧
    (128 * a.toNat + 64 * b.toNat + 32 * c.toNat + 16 * d.toNat + 8 * e.toNat + 4 * f.toNat + 2 * g.toNat + h.toNat).testBit 5 = c ∧
    (128 * a.toNat + 64 * b.toNat + 32 * c.toNat + 16 * d.toNat + 8 * e.toNat + 4 * f.toNat + 2 * g.toNat + h.toNat).testBit 4 = d ∧
    (128 * a.toNat + 64 * b.toNat + 32 * c.toNat + 16 * d.toNat + 8 * e.toNat + 4 * f.toNat + 2 * g.toNat + h.toNat).testBit 3 = e ∧
    (128 * a.toNat + 64 * b.toNat + 32 * c.toNat + 16 * d.toNat + 8 * e.toNat + 4 * f.toNat + 2 * g.toNat + h.toNat).testBit 2 = f ∧
    (128 * a.toNat + 64 * b.toNat + 32 * c.toNat + 16 * d.toNat + 8 * e.toNat + 4 * f.toNat + 2 * g.toNat + h.toNat).testBit 1 = g ∧
    (128 * a.toNat + 64 * b.toNat + 32 * c.toNat + 16 * d.toNat + 8 * e.toNat + 4 * f.toNat + 2 * g.toNat + h.toNat).testBit 0 = h := by decide +kernel
theorem byteAt_test (l : List Bool) (i t : Nat) (ht : t < 8) : (byteAt l i).testBit (7 - t) = at_ l (8 * i + t) := by
  unfold byteAt
  obtain ⟨h7, h6, h5, h4, h3, h2, h1, h0⟩ := test8 (at_ l (8*i)) (at_ l (8*i+1)) (at_ l (8*i+2)) (at_ l (8*i+3)) (at_ l (8*i+4)) (at_ l (8*i+5)) (at_ l (8*i+6)) (at_ l (8*i+7))
  have hc : t = 0 ∨ t = 1 ∨ t = 2 ∨ t = 3 ∨ t = 4 ∨ t = 5 ∨ t = 6 ∨ t = 7 := by omega
  rcases hc with rfl | rfl | rfl | rfl | rfl | rfl | rfl | rfl
  · exact h7
  · exact h6
  · exact h5
  · exact h4
  · exact h3
  · exact h2
  · exact h1
  · exact h0
theorem fill_getD (l : List Bool) (i : Nat) (h : i < nb l.length) : (fill l).getD i 0 = byteAt l i := by
  rw [List.getD, fill_get _ _ h]; rfl
theorem pbit_fill (l : List Bool) (j : Nat) (h : j < 8 * nb l.length) : pbit (fill l) j = at_ l j := by
  unfold pbit
  rw [fill_getD _ _ (by omega), byteAt_test _ _ _ (by omega), show 8 * (j / 8) + j % 8 = j by omega]
theorem tz_eq (x k : Nat) (hx : x < 256) (hk : k < 8) (h1 : x.testBit k = true) (h2 : ∀ i, i < k → x.testBit i = false) : x ≠ 0 ∧ tz x = k := by
  have hz : x ≠ 0 := by intro e; subst e; simp at h1
  obtain ⟨a, b, c⟩ := tz_all ⟨x, hx⟩ hz
  refine ⟨hz, ?_⟩
  rcases Nat.lt_trichotomy (tz x) k with h | h | h
  · have := h2 _ h; simp only at b; rw [this] at b; cases b
  · exact h
  · have := c ⟨k, hk⟩ h; simp only at this; rw [h1] at this; cases this
theorem pay_last (l : List Bool) : (pay l).getD ((pay l).length - 1) 0 = byteAt (l ++ [true]) (l.length / 8) := by
  have e : (pay l).length = nb (l ++ [true]).length := length_fill _
  have e2 : nb (l ++ [true]).length = l.length / 8 + 1 := by simp [nb]; omega
  rw [e, e2, Nat.add_sub_cancel]
  exact fill_getD _ _ (by omega)
theorem pay_tz (l : List Bool) : byteAt (l ++ [true]) (l.length / 8) ≠ 0 ∧ tz (byteAt (l ++ [true]) (l.length / 8)) = 7 - l.length % 8 := by
  refine tz_eq _ _ (byteAt_lt _ _) (by omega) ?_ ?_
  · rw [byteAt_test _ _ _ (by omega), at_app, if_pos (by omega)]
  · intro i hi
    have := byteAt_test (l ++ [true]) (l.length / 8) (7 - i) (by omega)
    rw [show 7 - (7 - i) = i by omega, at_app, if_neg (by omega), at_past _ _ (by omega)] at this
    exact this
theorem good_pay (l : List Bool) : Good (pay l) := by
  refine ⟨fill_mem _, ?_, ?_⟩
  · unfold pay; rw [length_fill]; simp [nb]
  · rw [pay_last]; exact (pay_tz l).1
theorem cnt_pay (l : List Bool) : cnt (pay l) = l.length := by
  unfold cnt
  rw [pay_last, (pay_tz l).2]
  unfold pay
  rw [length_fill]
  simp [nb]
  omega
theorem unpk_pay (l : List Bool) : unpk (pay l) = l := by
  apply List.ext_getElem?
  intro j
  by_cases h : j < l.length
  · rw [unpk_get _ _ (by rw [cnt_pay]; exact h)]
    unfold pay
    rw [pbit_fill _ _ (by simp [nb]; omega), at_app, if_neg (by omega)]
    unfold at_
    simp [List.getD, h]
  · rw [List.getElem?_eq_none (by rw [length_unpk, cnt_pay]; omega), List.getElem?_eq_none (by omega)]
theorem length_pay (l : List Bool) : (pay l).length = l.length / 8 + 1 := by
  unfold pay; rw [length_fill]; simp [nb]; omega
theorem part_mid (a b c : List Bool) : part (a ++ b ++ c) a.length b.length = b := by
  unfold part
  rw [List.append_assoc, List.drop_left, List.take_left]
theorem bits_split (ops : List (Nat × Int)) (k : Nat) (q : Nat × Int) (h : ops[k]? = some q) : ∃ r, bits ops = bits (ops.take k) ++ one q ++ r := by
  refine ⟨bits (ops.drop (k + 1)), ?_⟩
  have hk : k < ops.length := by
    rcases Nat.lt_or_ge k ops.length with h2 | h2
    · exact h2
    · rw [List.getElem?_eq_none h2] at h; cases h
  rw [← bits_take _ _ _ h]
  unfold bits
  rw [← List.flatMap_append, List.take_append_drop]
theorem at_unpk {p : List Nat} (h : Good p) (j : Nat) (hj : j < 8 * p.length) : at_ (unpk p ++ [true]) j = pbit p j := by
  rw [at_app, length_unpk]
  by_cases h1 : j = cnt p
  · rw [if_pos h1, h1, h.mark]
  · rw [if_neg h1]
    by_cases h2 : j < cnt p
    · unfold at_; rw [List.getD, unpk_get _ _ h2]; rfl
    · rw [at_past _ _ (by rw [length_unpk]; omega), h.tail j (by omega) hj]
theorem pay_unpk {p : List Nat} (h : Good p) : pay (unpk p) = p := by
  have e := h.cnt_eq
  have t := h.tz
  have s := h.some_
  have hn : nb (unpk p ++ [true]).length = p.length := by rw [List.length_append, length_unpk]; simp [nb]; omega
  apply List.ext_getElem?
  intro i
  unfold pay
  by_cases hi : i < p.length
  · rw [fill_get _ _ (by omega), List.getElem?_eq_getElem hi]
    congr 1
    have hb := h.byte _ (List.getElem_mem hi)
    have hg : p.getD i 0 = p[i] := by rw [List.getD, List.getElem?_eq_getElem hi]; rfl
    apply Nat.eq_of_testBit_eq
    intro k
    by_cases hk : k < 8
    · have a := byteAt_test (unpk p ++ [true]) i (7 - k) (by omega)
      rw [show 7 - (7 - k) = k by omega, at_unpk h _ (by omega)] at a
      rw [a]
      unfold pbit
      rw [show (8 * i + (7 - k)) / 8 = i by omega, show 7 - (8 * i + (7 - k)) % 8 = k by omega, hg]
    · have p8 : 2 ^ 8 ≤ 2 ^ k := Nat.pow_le_pow_right (by decide) (by omega)
      rw [Nat.testBit_lt_two_pow (Nat.lt_of_lt_of_le (byteAt_lt _ _) p8), Nat.testBit_lt_two_pow (Nat.lt_of_lt_of_le hb p8)]
  · rw [List.getElem?_eq_none (by rw [length_fill]; omega), List.getElem?_eq_none (by omega)]
theorem vbits_one (b : Bool) : vbits b.toNat 1 = [b] := by cases b <;> rfl
theorem part_one (p : List Nat) (k : Nat) (h : k < cnt p) : num (part (unpk p) k 1) = (pbit p k).toNat := by
  have := part_succ (unpk p) k 0 (pbit p k) (unpk_get p k h)
  rw [this, part_zero]
  cases pbit p k <;> rfl
theorem take_unpk (p : List Nat) (k : Nat) (h : k < cnt p) : (unpk p).take (k + 1) = (unpk p).take k ++ [pbit p k] := by
  rw [List.take_add_one, unpk_get p k h]; rfl
end BM
end Go.Proofs.Ytodolejhdellbaa
