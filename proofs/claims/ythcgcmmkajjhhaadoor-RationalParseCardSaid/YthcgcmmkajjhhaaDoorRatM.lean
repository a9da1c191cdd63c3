/- Plain numbers: fractions in lowest terms, 128 bits, Knuth's division by halves. Imports nothing of the program. -/
import Derived.Lib.Hide
namespace Go.Proofs.YthcgcmmkajjhhaaDoor
namespace RM

def ok (n d : Int) : Bool := decide (1 ≤ d ∧ -9223372036854775808 < n ∧ Nat.gcd n.natAbs d.natAbs = 1)
def q (n d : Int) : Rat := mkRat n d.toNat
def fits (x : Rat) : Bool := decide (-9223372036854775808 < x.num ∧ x.num < 9223372036854775808 ∧ (x.den : Int) < 9223372036854775808)

theorem ok_parts {n d : Int} (h : ok n d = true) : 1 ≤ d ∧ -9223372036854775808 < n ∧ Nat.gcd n.natAbs d.natAbs = 1 := by
  simpa [ok] using h

theorem q_mk {n d : Int} (h : ok n d = true) : ∃ (h1 : d.toNat ≠ 0) (h2 : n.natAbs.Coprime d.toNat), q n d = Rat.mk' n d.toNat h1 h2 := by
  obtain ⟨h1, _, h3⟩ := ok_parts h
  have e : d.natAbs = d.toNat := by omega
  refine ⟨by omega, by rw [e] at h3; exact h3, ?_⟩
  unfold q
  rw [Rat.mk_eq_mkRat]
theorem q_num {n d : Int} (h : ok n d = true) : (q n d).num = n := by
  obtain ⟨h1, h2, e⟩ := q_mk h; rw [e]
theorem q_den {n d : Int} (h : ok n d = true) : ((q n d).den : Int) = d := by
  obtain ⟨h1, h2, e⟩ := q_mk h; rw [e]
  have := ok_parts h
  show ((d.toNat : Nat) : Int) = d
  omega
theorem ok_of (x : Rat) (h : fits x = true) : ok x.num x.den = true := by
  simp only [fits, decide_eq_true_eq] at h
  simp only [ok, decide_eq_true_eq]
  have := x.den_pos
  exact ⟨by omega, by omega, by have := x.reduced; simpa [Nat.Coprime] using this⟩
theorem q_of (x : Rat) : q x.num x.den = x := by
  unfold q
  rw [Int.toNat_natCast, Rat.mkRat_self]
theorem fits_q {n d : Int} (h : ok n d = true) (hn : n < 9223372036854775808) (hd : d < 9223372036854775808) : fits (q n d) = true := by
  have := ok_parts h
  simp only [fits, decide_eq_true_eq, q_num h, q_den h]
  omega

/-- lowest terms, as it is computed -/
theorem of_parts (n d : Int) (hd : d ≠ 0) :
    (Rat.divInt n d).num = (if (n < 0) ↔ (d < 0) then ((n.natAbs / Nat.gcd n.natAbs d.natAbs : Nat) : Int) else -((n.natAbs / Nat.gcd n.natAbs d.natAbs : Nat) : Int))
    ∧ (Rat.divInt n d).den = d.natAbs / Nat.gcd n.natAbs d.natAbs := by
  rw [Rat.num_divInt, Rat.den_divInt, if_neg hd]
  have hg : d.gcd n = Nat.gcd n.natAbs d.natAbs := by rw [Int.gcd_comm]; rfl
  rw [hg]
  refine ⟨?_, rfl⟩
  have hdv : Nat.gcd n.natAbs d.natAbs ∣ n.natAbs := Nat.gcd_dvd_left _ _
  have hgp : 0 < Nat.gcd n.natAbs d.natAbs := Nat.gcd_pos_of_pos_right _ (by omega)
  generalize Nat.gcd n.natAbs d.natAbs = g at *
  obtain ⟨k, hk⟩ := hdv
  rw [hk, Nat.mul_div_cancel_left _ hgp]
  have hs : d.sign = if d < 0 then -1 else 1 := by
    split
    · exact Int.sign_eq_neg_one_of_neg ‹_›
    · exact Int.sign_eq_one_of_pos (by omega)
  rw [hs]
  have hn : n = if n < 0 then -((g : Int) * k) else (g : Int) * k := by
    rw [← Int.natCast_mul, ← hk]; split <;> omega
  have hgz : (g : Int) ≠ 0 := by omega
  by_cases h1 : n < 0 <;> by_cases h2 : d < 0 <;> simp only [h1, h2, if_true, if_false, iff_true, iff_false, not_true_eq_false] at hn ⊢ <;> rw [hn]
  · rw [show (-1 : Int) * -((g : Int) * k) = g * k by omega, Int.mul_ediv_cancel_left _ hgz]
  · rw [show (1 : Int) * -((g : Int) * k) = g * (-k) by rw [Int.one_mul, Int.mul_neg], Int.mul_ediv_cancel_left _ hgz]
  · rw [show (-1 : Int) * ((g : Int) * k) = g * (-k) by rw [Int.mul_neg]; omega, Int.mul_ediv_cancel_left _ hgz]
  · rw [Int.one_mul, Int.mul_ediv_cancel_left _ hgz]

/-- the sum over the least common denominator -/
theorem add_parts (a b : Rat) :
    (a + b).num = (a.num * ((b.den / Nat.gcd a.den b.den : Nat) : Int) + b.num * ((a.den / Nat.gcd a.den b.den : Nat) : Int)) / ((Nat.gcd (a.num * ((b.den / Nat.gcd a.den b.den : Nat) : Int) + b.num * ((a.den / Nat.gcd a.den b.den : Nat) : Int)).natAbs (Nat.gcd a.den b.den) : Nat) : Int)
    ∧ (a + b).den = (a.den / Nat.gcd a.den b.den) * b.den / Nat.gcd (a.num * ((b.den / Nat.gcd a.den b.den : Nat) : Int) + b.num * ((a.den / Nat.gcd a.den b.den : Nat) : Int)).natAbs (Nat.gcd a.den b.den) := by
  have aux := Rat.add.aux a b rfl rfl rfl
  simp only at aux
  rw [aux]
  have e := Rat.add_def' a b
  have hg : 0 < Nat.gcd a.den b.den := Nat.gcd_pos_of_pos_left _ a.den_pos
  obtain ⟨x, hx⟩ : Nat.gcd a.den b.den ∣ a.den := Nat.gcd_dvd_left _ _
  obtain ⟨y, hy⟩ : Nat.gcd a.den b.den ∣ b.den := Nat.gcd_dvd_right _ _
  have ha := a.den_pos
  have hb := b.den_pos
  generalize hgg : Nat.gcd a.den b.den = g at *
  have ea : a.den / g = x := by rw [hx, Nat.mul_div_cancel_left _ hg]
  have eb : b.den / g = y := by rw [hy, Nat.mul_div_cancel_left _ hg]
  rw [ea, eb]
  have key : a + b = mkRat (a.num * (y : Int) + b.num * (x : Int)) (x * b.den) := by
    rw [e]
    have e1 : a.num * (b.den : Int) + b.num * (a.den : Int) = (g : Int) * (a.num * (y : Int) + b.num * (x : Int)) := by
      have h1 : (b.den : Int) = (g : Int) * y := by rw [hy]; simp
      have h2 : (a.den : Int) = (g : Int) * x := by rw [hx]; simp
      rw [h1, h2, Int.mul_add]
      congr 1
      · rw [← Int.mul_assoc, Int.mul_comm a.num, Int.mul_assoc]
      · rw [← Int.mul_assoc, Int.mul_comm b.num, Int.mul_assoc]
    have e2 : a.den * b.den = g * (x * b.den) := by rw [← Nat.mul_assoc, ← hx]
    rw [e1, e2, Rat.mkRat_mul_left (by omega)]
  have hx0 : x ≠ 0 := by intro h; subst h; simp at hx; omega
  have hz : x * b.den ≠ 0 := Nat.mul_ne_zero hx0 (by omega)
  rw [key, Rat.num_mkRat, Rat.den_mkRat, if_neg hz, if_neg hz, Nat.gcd_comm (x * b.den)]
  exact ⟨rfl, rfl⟩

theorem mul_parts (a b : Rat) :
    (a * b).num = (a.num / ((Nat.gcd a.num.natAbs b.den : Nat) : Int)) * (b.num / ((Nat.gcd b.num.natAbs a.den : Nat) : Int))
    ∧ (a * b).den = (a.den / Nat.gcd b.num.natAbs a.den) * (b.den / Nat.gcd a.num.natAbs b.den) := by
  have e : a * b = Rat.mul a b := rfl
  rw [e]
  unfold Rat.mul
  simp only [Int.divExact_eq_ediv, Nat.divExact_eq_div, and_self]
/-- a product of two int64, by the product of the two uint64 -/
theorem prod_split (x y : Int) (hx : -9223372036854775808 ≤ x ∧ x ≤ 9223372036854775807) (hy : -9223372036854775808 ≤ y ∧ y ≤ 9223372036854775807) :
    x * y = (x % 18446744073709551616) * (y % 18446744073709551616) - 18446744073709551616 * ((if x < 0 then y else 0) + (if y < 0 then x % 18446744073709551616 else 0)) := by
  have h1 : x % 18446744073709551616 = if x < 0 then x + 18446744073709551616 else x := by split <;> omega
  have h2 : y % 18446744073709551616 = if y < 0 then y + 18446744073709551616 else y := by split <;> omega
  rw [h1, h2]
  by_cases a : x < 0 <;> by_cases b : y < 0 <;> simp only [a, b, if_true, if_false, Int.add_mul, Int.mul_add] <;> omega

theorem prod_bound (x y : Int) (hx : -9223372036854775808 ≤ x ∧ x ≤ 9223372036854775807) (hy : -9223372036854775808 ≤ y ∧ y ≤ 9223372036854775807) :
    -85070591730234615865843651857942052864 ≤ x * y ∧ x * y ≤ 85070591730234615865843651857942052864 := by
  have h : (x * y).natAbs ≤ 9223372036854775808 * 9223372036854775808 := by
    rw [Int.natAbs_mul]; exact Nat.mul_le_mul (by omega) (by omega)
  omega

theorem div_hi (hi lo den : Nat) (hd : 0 < den) :
    (hi * 18446744073709551616 + lo) / den = hi / den * 18446744073709551616 + (hi % den * 18446744073709551616 + lo) / den
    ∧ (hi * 18446744073709551616 + lo) % den = (hi % den * 18446744073709551616 + lo) % den := by
  have e : hi * 18446744073709551616 + lo = den * (hi / den * 18446744073709551616) + (hi % den * 18446744073709551616 + lo) := by
    have := Nat.div_add_mod hi den
    calc hi * 18446744073709551616 + lo = (den * (hi / den) + hi % den) * 18446744073709551616 + lo := by rw [this]
      _ = _ := by rw [Nat.add_mul, Nat.mul_assoc, Nat.add_assoc]
  constructor
  · rw [e, Nat.mul_add_div hd]
  · rw [e, Nat.mul_add_mod]

theorem div_lt (r lo den : Nat) (hr : r < den) (hl : lo < 18446744073709551616) :
    (r * 18446744073709551616 + lo) / den < 18446744073709551616 := by
  rw [Nat.div_lt_iff_lt_mul (by omega)]
  have : (r + 1) * 18446744073709551616 ≤ den * 18446744073709551616 := Nat.mul_le_mul_right _ hr
  rw [Nat.mul_comm 18446744073709551616 den]
  omega

/-- division rounds down, by the complement -/
theorem div_neg (v den : Int) (hd : 0 < den) :
    v / den = -((-v - 1) / den) - 1 ∧ v % den = den - 1 - (-v - 1) % den := by
  have h := Int.mul_ediv_add_emod (-v - 1) den
  have h2 := Int.emod_nonneg (-v - 1) (show den ≠ 0 by omega)
  have h3 := Int.emod_lt_of_pos (-v - 1) hd
  generalize hq : (-v - 1) / den = q at *
  generalize hr : (-v - 1) % den = r at *
  have e : v = (den - 1 - r) + den * (-q - 1) := by rw [Int.mul_sub, Int.mul_neg]; omega
  constructor
  · rw [e, Int.add_mul_ediv_left _ _ (by omega), Int.ediv_eq_zero_of_lt (by omega) (by omega)]; omega
  · rw [e, Int.add_mul_emod_self_left, Int.emod_eq_of_lt (by omega) (by omega)]

theorem knuth_step_exit (y1 y0 u d q r : Nat) (hy0 : y0 < 4294967296)
    (hinv : q * y1 + r = u) (hle : q * y0 ≤ 4294967296 * r + d)
    (hge : (u * 4294967296 + d) / (y1 * 4294967296 + y0) ≤ q) (hpos : 0 < y1) :
    q = (u * 4294967296 + d) / (y1 * 4294967296 + y0) := by
  apply Nat.le_antisymm _ hge
  rw [Nat.le_div_iff_mul_le (by omega)]
  have e1 : q * (y1 * 4294967296 + y0) = q * y1 * 4294967296 + q * y0 := by rw [Nat.mul_add, Nat.mul_assoc]
  rw [e1, ← hinv, Nat.add_mul]
  omega

theorem knuth_step_down (y1 y0 u d q r : Nat)
    (hinv : q * y1 + r = u) (hgt : 4294967296 * r + d < q * y0) (hpos : 0 < y1) :
    (u * 4294967296 + d) / (y1 * 4294967296 + y0) < q := by
  rw [Nat.div_lt_iff_lt_mul (by omega)]
  have e1 : q * (y1 * 4294967296 + y0) = q * y1 * 4294967296 + q * y0 := by rw [Nat.mul_add, Nat.mul_assoc]
  rw [e1, ← hinv, Nat.add_mul]
  omega

theorem knuth_lt (y u d : Nat) (hu : u < y) (hd : d < 4294967296) :
    (u * 4294967296 + d) / y < 4294967296 := by
  rw [Nat.div_lt_iff_lt_mul (by omega)]
  have : (u + 1) * 4294967296 ≤ y * 4294967296 := Nat.mul_le_mul_right _ hu
  rw [Nat.mul_comm 4294967296 y]
  omega

/-- the first guess is not too small, and at most two too large -/
theorem knuth_start (y1 y0 u d : Nat) (hy1 : 2147483648 ≤ y1) (hy0 : y0 < 4294967296)
    (hd : d < 4294967296) (hu : u < y1 * 4294967296 + y0) :
    (u * 4294967296 + d) / (y1 * 4294967296 + y0) ≤ u / y1 ∧ u / y1 ≤ 4294967297 := by
  constructor
  · rw [Nat.le_div_iff_mul_le (by omega)]
    generalize hq : (u * 4294967296 + d) / (y1 * 4294967296 + y0) = q
    have h1 : q * (y1 * 4294967296 + y0) ≤ u * 4294967296 + d := by rw [← hq]; exact Nat.div_mul_le_self _ _
    have e1 : q * (y1 * 4294967296 + y0) = q * y1 * 4294967296 + q * y0 := by rw [Nat.mul_add, Nat.mul_assoc]
    rw [e1] at h1
    generalize q * y1 = a at *
    generalize q * y0 = b at *
    omega
  · have : u / y1 < 4294967298 := by
      rw [Nat.div_lt_iff_lt_mul (by omega)]
      omega
    omega

/-- what is returned for an exact result -/
def enc (x : Rat) : Int × Int × Int := if fits x = true then (x.num, x.den, 0) else (0, 0, 2)
def ofS (n d : Int) : Int × Int × Int := if d = 0 then (0, 0, 1) else enc (Rat.divInt n d)
def addS (a b c d : Int) : Int × Int × Int := if ok a b = true ∧ ok c d = true then enc (q a b + q c d) else (0, 0, 1)
def subS (a b c d : Int) : Int × Int × Int := if ok a b = true ∧ ok c d = true then enc (q a b - q c d) else (0, 0, 1)
def mulS (a b c d : Int) : Int × Int × Int := if ok a b = true ∧ ok c d = true then enc (q a b * q c d) else (0, 0, 1)
def divS (a b c d : Int) : Int × Int × Int := if ok a b = true ∧ ok c d = true ∧ c ≠ 0 then enc (q a b / q c d) else (0, 0, 1)

/-- the greatest common divisor with a number that is not zero -/
theorem gcd_facts (n d : Int) (hd : d ≠ 0) :
    1 ≤ ((Nat.gcd n.natAbs d.natAbs : Nat) : Int) ∧ ((Nat.gcd n.natAbs d.natAbs : Nat) : Int) ≤ d.natAbs
    ∧ 0 ≤ (n.natAbs : Int) / ((Nat.gcd n.natAbs d.natAbs : Nat) : Int) ∧ (n.natAbs : Int) / ((Nat.gcd n.natAbs d.natAbs : Nat) : Int) ≤ n.natAbs
    ∧ 1 ≤ (d.natAbs : Int) / ((Nat.gcd n.natAbs d.natAbs : Nat) : Int) ∧ (d.natAbs : Int) / ((Nat.gcd n.natAbs d.natAbs : Nat) : Int) ≤ d.natAbs := by
  have hgp : 0 < Nat.gcd n.natAbs d.natAbs := Nat.gcd_pos_of_pos_right _ (by omega)
  have hle : Nat.gcd n.natAbs d.natAbs ≤ d.natAbs := Nat.gcd_le_right _ (by omega)
  have hdp : 0 < d.natAbs / Nat.gcd n.natAbs d.natAbs := Nat.div_pos hle hgp
  have h1 := Nat.div_le_self n.natAbs (Nat.gcd n.natAbs d.natAbs)
  have h2 := Nat.div_le_self d.natAbs (Nat.gcd n.natAbs d.natAbs)
  rw [← Int.natCast_ediv, ← Int.natCast_ediv]
  generalize n.natAbs / Nat.gcd n.natAbs d.natAbs = x at *
  generalize d.natAbs / Nat.gcd n.natAbs d.natAbs = y at *
  omega

theorem ofS_arg (n : Int) : ofS n 0 = (0, 0, 1) := rfl
theorem ofS_same (n d : Int) (hd : d ≠ 0) (hs : (n < 0) ↔ (d < 0))
    (h1 : (n.natAbs : Int) / ((Nat.gcd n.natAbs d.natAbs : Nat) : Int) ≤ 9223372036854775807) (h2 : (d.natAbs : Int) / ((Nat.gcd n.natAbs d.natAbs : Nat) : Int) ≤ 9223372036854775807) :
    ofS n d = ((n.natAbs : Int) / ((Nat.gcd n.natAbs d.natAbs : Nat) : Int), (d.natAbs : Int) / ((Nat.gcd n.natAbs d.natAbs : Nat) : Int), 0) := by
  obtain ⟨e1, e2⟩ := of_parts n d hd
  rw [if_pos hs] at e1
  have hf := gcd_facts n d hd
  have hfit : fits (Rat.divInt n d) = true := by
    simp only [fits, decide_eq_true_eq, e1, e2, Int.natCast_ediv]
    omega
  rw [ofS, if_neg hd, enc, if_pos hfit, e1, e2, Int.natCast_ediv, Int.natCast_ediv]
theorem ofS_other (n d : Int) (hd : d ≠ 0) (hs : ¬ ((n < 0) ↔ (d < 0)))
    (h1 : (n.natAbs : Int) / ((Nat.gcd n.natAbs d.natAbs : Nat) : Int) ≤ 9223372036854775807) (h2 : (d.natAbs : Int) / ((Nat.gcd n.natAbs d.natAbs : Nat) : Int) ≤ 9223372036854775807) :
    ofS n d = (-((n.natAbs : Int) / ((Nat.gcd n.natAbs d.natAbs : Nat) : Int)), (d.natAbs : Int) / ((Nat.gcd n.natAbs d.natAbs : Nat) : Int), 0) := by
  obtain ⟨e1, e2⟩ := of_parts n d hd
  rw [if_neg hs] at e1
  have hf := gcd_facts n d hd
  have hfit : fits (Rat.divInt n d) = true := by
    simp only [fits, decide_eq_true_eq, e1, e2, Int.natCast_ediv]
    omega
  rw [ofS, if_neg hd, enc, if_pos hfit, e1, e2, Int.natCast_ediv, Int.natCast_ediv]
theorem ofS_range (n d : Int) (hd : d ≠ 0)
    (h1 : 9223372036854775807 < (n.natAbs : Int) / ((Nat.gcd n.natAbs d.natAbs : Nat) : Int) ∨ 9223372036854775807 < (d.natAbs : Int) / ((Nat.gcd n.natAbs d.natAbs : Nat) : Int)) :
    ofS n d = (0, 0, 2) := by
  obtain ⟨e1, e2⟩ := of_parts n d hd
  have hf := gcd_facts n d hd
  have hfit : ¬ fits (Rat.divInt n d) = true := by
    simp only [fits, decide_eq_true_eq, e1, e2, Int.natCast_ediv]
    split <;> omega
  rw [ofS, if_neg hd, enc, if_neg hfit]

def madeS (s : Bool) (a b : Int) : Int × Int × Int := if 9223372036854775807 < a ∨ 9223372036854775807 < b then (0, 0, 2) else (if s = true then -a else a, b, 0)
theorem madeS_of (n d : Int) (hd : d ≠ 0) :
    madeS (decide (n ≠ 0) && (decide (n < 0) != decide (d < 0))) ((n.natAbs : Int) / ((Nat.gcd n.natAbs d.natAbs : Nat) : Int)) ((d.natAbs : Int) / ((Nat.gcd n.natAbs d.natAbs : Nat) : Int)) = ofS n d := by
  unfold madeS
  split
  · rw [ofS_range n d hd ‹_›]
  · by_cases hs : (n < 0) ↔ (d < 0)
    · rw [ofS_same n d hd hs (by omega) (by omega), if_neg (by simp [hs])]
    · rw [ofS_other n d hd hs (by omega) (by omega)]
      by_cases h0 : n = 0
      · subst h0; simp
      · rw [if_pos]
        by_cases a : n < 0 <;> by_cases b : d < 0 <;> simp_all
theorem madeS_ne (n d : Int) (hd : d ≠ 0) (hn : n ≠ 0) :
    madeS (!(decide (n < 0) == decide (d < 0))) ((n.natAbs : Int) / ((Nat.gcd n.natAbs d.natAbs : Nat) : Int)) ((d.natAbs : Int) / ((Nat.gcd n.natAbs d.natAbs : Nat) : Int)) = ofS n d := by
  rw [← madeS_of n d hd]
  congr 1
  simp only [ne_eq, hn, not_false_eq_true, decide_true, Bool.true_and]
  rfl
theorem madeS_eq (n d : Int) (hd : d ≠ 0) (hn : n = 0) :
    madeS false ((n.natAbs : Int) / ((Nat.gcd n.natAbs d.natAbs : Nat) : Int)) ((d.natAbs : Int) / ((Nat.gcd n.natAbs d.natAbs : Nat) : Int)) = ofS n d := by
  rw [← madeS_of n d hd]
  congr 1
  simp [hn]
theorem madeS_zero (d : Int) (hd : d ≠ 0) : madeS false 0 1 = ofS 0 d := by
  rw [← madeS_eq 0 d hd rfl]
  have : (d.natAbs : Int) / (d.natAbs : Int) = 1 := Int.ediv_self (by omega)
  simp [this]
theorem madeS_range (s : Bool) (a b : Int) (h : 9223372036854775807 < a ∨ 9223372036854775807 < b) : madeS s a b = (0, 0, 2) := by rw [madeS, if_pos h]
theorem madeS_neg (a b : Int) (h1 : a ≤ 9223372036854775807) (h2 : b ≤ 9223372036854775807) : madeS true a b = (-a, b, 0) := by rw [madeS, if_neg (by omega)]; rfl
theorem madeS_pos (a b : Int) (h1 : a ≤ 9223372036854775807) (h2 : b ≤ 9223372036854775807) : madeS false a b = (a, b, 0) := by rw [madeS, if_neg (by omega)]; rfl

end RM
end Go.Proofs.YthcgcmmkajjhhaaDoor
