/- Plain mathematics of bits and bytes: a sequence of bits, the bytes that store it, the number that it means. Imports nothing of the program. -/
import Derived.Lib.Hide
namespace Go.Proofs.Ytodolejhdellbaa
namespace BM

/-- bit j of a sequence; false behind its end -/
def at_ (l : List Bool) (j : Nat) : Bool := l.getD j false
/-- byte i of a sequence of bits, the missing ones 0 -/
def byteAt (l : List Bool) (i : Nat) : Nat :=
  128 * (at_ l (8*i)).toNat + 64 * (at_ l (8*i+1)).toNat + 32 * (at_ l (8*i+2)).toNat + 16 * (at_ l (8*i+3)).toNat
  + 8 * (at_ l (8*i+4)).toNat + 4 * (at_ l (8*i+5)).toNat + 2 * (at_ l (8*i+6)).toNat + (at_ l (8*i+7)).toNat
def nb (n : Nat) : Nat := (n + 7) / 8
/-- the bytes of a sequence of bits -/
def fill (l : List Bool) : List Nat := (List.range (nb l.length)).map (byteAt l)
/-- the payload of a sequence of bits -/
def pay (l : List Bool) : List Nat := fill (l ++ [true])

theorem byteAt_lt (l : List Bool) (i : Nat) : byteAt l i < 256 := by
  unfold byteAt
  have h : ∀ b : Bool, b.toNat ≤ 1 := by decide
  have h0 := h (at_ l (8*i)); have h1 := h (at_ l (8*i+1)); have h2 := h (at_ l (8*i+2)); have h3 := h (at_ l (8*i+3))
  have h4 := h (at_ l (8*i+4)); have h5 := h (at_ l (8*i+5)); have h6 := h (at_ l (8*i+6)); have h7 := h (at_ l (8*i+7))
  omega
theorem length_fill (l : List Bool) : (fill l).length = nb l.length := by simp [fill]
theorem fill_nil : fill [] = [] := rfl
theorem fill_get (l : List Bool) (i : Nat) (h : i < nb l.length) : (fill l)[i]? = some (byteAt l i) := by
  unfold fill; simp [h]
theorem fill_mem (l : List Bool) : ∀ x ∈ fill l, x < 256 := by
  intro x hx
  simp only [fill, List.mem_map] at hx
  obtain ⟨i, _, rfl⟩ := hx
  exact byteAt_lt _ _

theorem at_app (l : List Bool) (b : Bool) (j : Nat) : at_ (l ++ [b]) j = if j = l.length then b else at_ l j := by
  unfold at_
  simp only [List.getD, List.getElem?_append]
  split
  · rw [if_neg (by omega)]
  · by_cases h : j = l.length
    · subst h; simp
    · rw [if_neg h]
      rw [List.getElem?_eq_none (by simp; omega), List.getElem?_eq_none (by omega)]
theorem at_past (l : List Bool) (j : Nat) (h : l.length ≤ j) : at_ l j = false := by
  unfold at_; simp [List.getD, List.getElem?_eq_none h]

theorem byte_or : ∀ (a b c d e f g x : Bool),
    ((128 * 0 ||| (x.toNat <<< 7)) = 128 * x.toNat) ∧
    ((128 * a.toNat) ||| (x.toNat <<< 6)) = 128 * a.toNat + 64 * x.toNat ∧
    ((128 * a.toNat + 64 * b.toNat) ||| (x.toNat <<< 5)) = 128 * a.toNat + 64 * b.toNat + 32 * x.toNat ∧
    ((128 * a.toNat + 64 * b.toNat + 32 * c.toNat) ||| (x.toNat <<< 4)) = 128 * a.toNat + 64 * b.toNat + 32 * c.toNat + 16 * x.toNat ∧
    ((128 * a.toNat + 64 * b.toNat + 32 * c.toNat + 16 * d.toNat) ||| (x.toNat <<< 3)) = 128 * a.toNat + 64 * b.toNat + 32 * c.toNat + 16 * d.toNat + 8 * x.toNat ∧
    ((128 * a.toNat + 64 * b.toNat + 32 * c.toNat + 16 * d.toNat + 8 * e.toNat) ||| (x.toNat <<< 2)) = 128 * a.toNat + 64 * b.toNat + 32 * c.toNat + 16 * d.toNat + 8 * e.toNat + 4 * x.toNat ∧
    ((128 * a.toNat + 64 * b.toNat + 32 * c.toNat + 16 * d.toNat + 8 * e.toNat + 4 * f.toNat) ||| (x.toNat <<< 1)) = 128 * a.toNat + 64 * b.toNat + 32 * c.toNat + 16 * d.toNat + 8 * e.toNat + 4 * f.toNat + 2 * x.toNat ∧
    ((128 * a.toNat + 64 * b.toNat + 32 * c.toNat + 16 * d.toNat + 8 * e.toNat + 4 * f.toNat + 2 * g.toNat) ||| (x.toNat <<< 0)) = 128 * a.toNat + 64 * b.toNat + 32 * c.toNat + 16 * d.toNat + 8 * e.toNat + 4 * f.toNat + 2 * g.toNat + x.toNat := by
  decide +kernel

/-- one bit more: the byte into which it goes -/
theorem byteAt_app (l : List Bool) (b : Bool) :
    byteAt (l ++ [b]) (l.length / 8) = byteAt l (l.length / 8) ||| (b.toNat <<< (7 - l.length % 8)) := by
  have hf : false.toNat = 0 := rfl
  have hr : l.length % 8 < 8 := Nat.mod_lt _ (by decide)
  have hd := Nat.div_add_mod l.length 8
  generalize hq : l.length / 8 = q at *
  generalize hm : l.length % 8 = r at *
  have key := fun a c d e f g h => byte_or a c d e f g h b
  unfold byteAt
  simp only [at_app]
  have cases : r = 0 ∨ r = 1 ∨ r = 2 ∨ r = 3 ∨ r = 4 ∨ r = 5 ∨ r = 6 ∨ r = 7 := by omega
  rcases cases with rfl | rfl | rfl | rfl | rfl | rfl | rfl | rfl
  all_goals
    first
    | rw [if_pos (show 8*q = l.length by omega)]
    | rw [if_neg (show ¬ 8*q = l.length by omega)]
    first
    | rw [if_pos (show 8*q+1 = l.length by omega)]
    | rw [if_neg (show ¬ 8*q+1 = l.length by omega)]
    first
    | rw [if_pos (show 8*q+2 = l.length by omega)]
    | rw [if_neg (show ¬ 8*q+2 = l.length by omega)]
    first
    | rw [if_pos (show 8*q+3 = l.length by omega)]
    | rw [if_neg (show ¬ 8*q+3 = l.length by omega)]
    first
    | rw [if_pos (show 8*q+4 = l.length by omega)]
    | rw [if_neg (show ¬ 8*q+4 = l.length by omega)]
    first
    | rw [if_pos (show 8*q+5 = l.length by omega)]
    | rw [if_neg (show ¬ 8*q+5 = l.length by omega)]
    first
    | rw [if_pos (show 8*q+6 = l.length by omega)]
    | rw [if_neg (show ¬ 8*q+6 = l.length by omega)]
    first
    | rw [if_pos (show 8*q+7 = l.length by omega)]
    | rw [if_neg (show ¬ 8*q+7 = l.length by omega)]
    obtain ⟨k0, k1, k2, k3, k4, k5, k6, k7⟩ := key (at_ l (8*q)) (at_ l (8*q+1)) (at_ l (8*q+2)) (at_ l (8*q+3)) (at_ l (8*q+4)) (at_ l (8*q+5)) (at_ l (8*q+6))
    (try rw [at_past l (8*q) (by omega)])
    (try rw [at_past l (8*q+1) (by omega)])
    (try rw [at_past l (8*q+2) (by omega)])
    (try rw [at_past l (8*q+3) (by omega)])
    (try rw [at_past l (8*q+4) (by omega)])
    (try rw [at_past l (8*q+5) (by omega)])
    (try rw [at_past l (8*q+6) (by omega)])
    (try rw [at_past l (8*q+7) (by omega)])
    simp only [hf, Nat.mul_zero, Nat.add_zero] at k0 k1 k2 k3 k4 k5 k6 k7 ⊢
    first
    | exact k0.symm | exact k1.symm | exact k2.symm | exact k3.symm | exact k4.symm | exact k5.symm | exact k6.symm | exact k7.symm
theorem byteAt_app_other (l : List Bool) (b : Bool) (i : Nat) (h : i ≠ l.length / 8) : byteAt (l ++ [b]) i = byteAt l i := by
  unfold byteAt
  simp only [at_app]
  rw [if_neg (by omega), if_neg (by omega), if_neg (by omega), if_neg (by omega), if_neg (by omega), if_neg (by omega), if_neg (by omega), if_neg (by omega)]
theorem byteAt_past (l : List Bool) (i : Nat) (h : l.length ≤ 8 * i) : byteAt l i = 0 := by
  unfold byteAt
  rw [at_past _ _ (by omega), at_past _ _ (by omega), at_past _ _ (by omega), at_past _ _ (by omega), at_past _ _ (by omega), at_past _ _ (by omega), at_past _ _ (by omega), at_past _ _ (by omega)]
  rfl

/-- one bit more: the bytes -/
theorem fill_app_new (l : List Bool) (b : Bool) (h : l.length % 8 = 0) :
    fill (l ++ [b]) = (fill l ++ [0]).set (l.length / 8) (0 ||| (b.toNat <<< (7 - l.length % 8))) := by
  apply List.ext_getElem?
  intro i
  have e := byteAt_app l b
  rw [byteAt_past l (l.length / 8) (by omega)] at e
  by_cases hi : i < nb (l ++ [b]).length
  · rw [fill_get _ _ hi]
    have hn : nb (l ++ [b]).length = nb l.length + 1 := by simp [nb]; omega
    have hq : nb l.length = l.length / 8 := by unfold nb; omega
    by_cases h2 : i = l.length / 8
    · subst h2
      rw [e, List.getElem?_set_self (by rw [List.length_append, length_fill]; simp; omega)]
    · rw [List.getElem?_set_ne (by omega), byteAt_app_other _ _ _ h2, List.getElem?_append_left (by rw [length_fill]; omega), fill_get _ _ (by omega)]
  · rw [List.getElem?_eq_none (by rw [length_fill]; omega), List.getElem?_eq_none]
    simp [length_fill, nb] at hi ⊢
    omega
theorem fill_app_old (l : List Bool) (b : Bool) (h : l.length % 8 ≠ 0) :
    fill (l ++ [b]) = (fill l).set (l.length / 8) (byteAt l (l.length / 8) ||| (b.toNat <<< (7 - l.length % 8))) := by
  apply List.ext_getElem?
  intro i
  have e := byteAt_app l b
  have hn : nb (l ++ [b]).length = nb l.length := by simp [nb]; omega
  by_cases hi : i < nb (l ++ [b]).length
  · rw [fill_get _ _ hi]
    by_cases h2 : i = l.length / 8
    · subst h2
      rw [e, List.getElem?_set_self (by rw [length_fill]; omega)]
    · rw [List.getElem?_set_ne (by omega), byteAt_app_other _ _ _ h2, fill_get _ _ (by omega)]
  · rw [List.getElem?_eq_none (by rw [length_fill]; omega), List.getElem?_eq_none (by rw [List.length_set, length_fill]; omega)]

/-- the n last bits of v, the first one the most significant -/
def vbits (v n : Nat) : List Bool := (List.range n).map fun i => v.testBit (n - 1 - i)
/-- the first k of them -/
def vbitsTo (v n k : Nat) : List Bool := (List.range k).map fun i => v.testBit (n - 1 - i)
theorem vbitsTo_zero (v n : Nat) : vbitsTo v n 0 = [] := rfl
theorem vbitsTo_all (v n : Nat) : vbitsTo v n n = vbits v n := rfl
theorem vbitsTo_succ (v n k : Nat) : vbitsTo v n (k + 1) = vbitsTo v n k ++ [v.testBit (n - 1 - k)] := by
  unfold vbitsTo; rw [List.range_succ, List.map_append]; rfl
theorem length_vbitsTo (v n k : Nat) : (vbitsTo v n k).length = k := by simp [vbitsTo]
theorem length_vbits (v n : Nat) : (vbits v n).length = n := by simp [vbits]
theorem bit_nat (v k : Nat) : v / 2 ^ k % 2 = (v.testBit k).toNat := by
  rw [Nat.testBit_eq_decide_div_mod_eq]
  have := Nat.mod_two_eq_zero_or_one (v / 2 ^ k)
  rcases this with h | h <;> rw [h] <;> rfl

/-- the number of a sequence of bits -/
def num (l : List Bool) : Nat := l.foldl (fun v b => 2 * v + b.toNat) 0
theorem num_nil : num [] = 0 := rfl
theorem num_snoc (l : List Bool) (b : Bool) : num (l ++ [b]) = 2 * num l + b.toNat := by
  unfold num; rw [List.foldl_append]; rfl
theorem num_vbitsTo (v n k : Nat) (hk : k ≤ n) : num (vbitsTo v n k) = v / 2 ^ (n - k) % 2 ^ k := by
  induction k with
  | zero => simp [vbitsTo, num, Nat.mod_one]
  | succ k ih =>
    rw [vbitsTo_succ, num_snoc, ih (by omega), ← bit_nat]
    have e1 : n - k = (n - 1 - k) + 1 := by omega
    have e2 : n - (k + 1) = n - 1 - k := by omega
    rw [e1, e2, Nat.pow_succ, ← Nat.div_div_eq_div_mul]
    generalize v / 2 ^ (n - 1 - k) = x
    rw [show 2 ^ (k + 1) = 2 * 2 ^ k by rw [Nat.pow_succ, Nat.mul_comm]]
    have h := Nat.mod_mul (a := 2) (b := 2 ^ k) (x := x)
    rw [h, Nat.add_comm]
theorem num_vbits (v n : Nat) (h : v < 2 ^ n) : num (vbits v n) = v := by
  rw [← vbitsTo_all, num_vbitsTo v n n (Nat.le_refl _), Nat.sub_self, Nat.pow_zero, Nat.div_one, Nat.mod_eq_of_lt h]
end BM
end Go.Proofs.Ytodolejhdellbaa
