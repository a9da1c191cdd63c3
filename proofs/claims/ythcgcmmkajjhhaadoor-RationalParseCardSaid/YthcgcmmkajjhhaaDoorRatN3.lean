/- Plain numbers for the division of 128 by 64 bits. Imports nothing of the program. -/
import Derived.Test.YthcgcmmkajjhhaaDoorRatN2
import Derived.Lib.ItoaNum
import Derived.Laws.BitsAllLaws
namespace Go.Proofs.YthcgcmmkajjhhaaDoor
namespace RM
open Go Go.RowKit
def lz (y : Int) : Int := 64 - (Lib.bitLen y.toNat : Int)
def dq (hi lo y : Int) : Int := (hi * 18446744073709551616 + lo) / y
def dr (hi lo y : Int) : Int := (hi * 18446744073709551616 + lo) % y

theorem lz_facts (y : Int) (hy : 1 ≤ y ∧ y ≤ 18446744073709551615) :
    0 ≤ lz y ∧ lz y ≤ 63 ∧ ∃ s : Nat, (lz y).toNat = s ∧ (64 - lz y).toNat = 64 - s ∧ s ≤ 63 ∧ 9223372036854775808 ≤ y * 2 ^ s ∧ y * 2 ^ s ≤ 18446744073709551615 := by
  obtain ⟨n, rfl⟩ := Int.eq_ofNat_of_zero_le (show 0 ≤ y by omega)
  have hb := Lib.bitLenAux_bounds 64 n (by omega) (by omega)
  unfold lz Lib.bitLen
  rw [Int.toNat_natCast]
  generalize Lib.bitLenAux 64 n = L at *
  obtain ⟨h1, h2, h3⟩ := hb
  have hL : L ≤ 64 := by
    apply Decidable.byContradiction
    intro hc
    have : 2 ^ 64 ≤ 2 ^ (L - 1) := Nat.pow_le_pow_right (by decide) (by omega)
    omega
  refine ⟨by omega, by omega, 64 - L, by omega, by omega, by omega, ?_, ?_⟩
  · have : 2 ^ (L - 1) * 2 ^ (64 - L) ≤ n * 2 ^ (64 - L) := Nat.mul_le_mul_right _ h2
    rw [← Nat.pow_add, show L - 1 + (64 - L) = 63 by omega] at this
    have e : ((n * 2 ^ (64 - L) : Nat) : Int) = (n : Int) * 2 ^ (64 - L) := by simp
    rw [← e]
    omega
  · have : n * 2 ^ (64 - L) < 2 ^ L * 2 ^ (64 - L) := Nat.mul_lt_mul_of_pos_right h3 (Nat.pow_pos (by decide))
    rw [← Nat.pow_add, show L + (64 - L) = 64 by omega] at this
    have e : ((n * 2 ^ (64 - L) : Nat) : Int) = (n : Int) * 2 ^ (64 - L) := by simp
    rw [← e]
    omega

/-- the dividend, shifted -/
theorem shifted (hi lo y : Int) (s : Nat) (hs : s ≤ 63) (hh : 0 ≤ hi) (hy : hi < y) (hl : 0 ≤ lo ∧ lo ≤ 18446744073709551615) (hp : y * 2 ^ s ≤ 18446744073709551615) :
    0 ≤ hi * 2 ^ s ∧ hi * 2 ^ s ≤ 18446744073709551615
    ∧ Go.bits .or .u64 (hi * 2 ^ s) (lo / 2 ^ (64 - s)) = hi * 2 ^ s + lo / 2 ^ (64 - s)
    ∧ 0 ≤ lo / 2 ^ (64 - s) ∧ lo / 2 ^ (64 - s) ≤ 18446744073709551615 ∧ hi * 2 ^ s + lo / 2 ^ (64 - s) < y * 2 ^ s
    ∧ (hi * 18446744073709551616 + lo) * 2 ^ s = (hi * 2 ^ s + lo / 2 ^ (64 - s)) * 18446744073709551616 + (lo * 2 ^ s) % 18446744073709551616 := by
  obtain ⟨a, rfl⟩ := Int.eq_ofNat_of_zero_le hh
  obtain ⟨l, rfl⟩ := Int.eq_ofNat_of_zero_le hl.1
  obtain ⟨b, rfl⟩ := Int.eq_ofNat_of_zero_le (show 0 ≤ y by omega)
  have hp2 : b * 2 ^ s ≤ 18446744073709551615 := by
    have e : ((b * 2 ^ s : Nat) : Int) = (b : Int) * 2 ^ s := by simp
    rw [← e] at hp; omega
  have hr : 2 ^ s * 2 ^ (64 - s) = 18446744073709551616 := by rw [← Nat.pow_add, show s + (64 - s) = 64 by omega]
  have hps : 0 < 2 ^ s := Nat.pow_pos (by decide)
  have hrs : 0 < 2 ^ (64 - s) := Nat.pow_pos (by decide)
  have e1 : ((a : Int) * 2 ^ s) = ((a * 2 ^ s : Nat) : Int) := by simp
  have e2 : ((l : Int) / 2 ^ (64 - s)) = ((l / 2 ^ (64 - s) : Nat) : Int) := by simp
  have e3 : ((l : Int) * 2 ^ s) = ((l * 2 ^ s : Nat) : Int) := by simp
  have e4 : ((b : Int) * 2 ^ s) = ((b * 2 ^ s : Nat) : Int) := by simp
  have hlt : l / 2 ^ (64 - s) < 2 ^ s := by
    rw [Nat.div_lt_iff_lt_mul hrs, hr]; omega
  have hab : a * 2 ^ s + 2 ^ s ≤ b * 2 ^ s := by
    have : (a + 1) * 2 ^ s ≤ b * 2 ^ s := Nat.mul_le_mul_right _ (by omega)
    rw [Nat.add_mul, Nat.one_mul] at this
    exact this
  have hlo : l * 2 ^ s = l / 2 ^ (64 - s) * 18446744073709551616 + (l % 2 ^ (64 - s)) * 2 ^ s := by
    rw [← hr]
    have := Nat.div_add_mod l (2 ^ (64 - s))
    calc l * 2 ^ s = (2 ^ (64 - s) * (l / 2 ^ (64 - s)) + l % 2 ^ (64 - s)) * 2 ^ s := by rw [this]
      _ = _ := by rw [Nat.add_mul]; congr 1; rw [Nat.mul_comm (2 ^ (64 - s)), Nat.mul_assoc, Nat.mul_comm (2 ^ (64 - s))]
  have hml : (l % 2 ^ (64 - s)) * 2 ^ s < 18446744073709551616 := by
    rw [← hr, Nat.mul_comm (2 ^ s)]
    exact Nat.mul_lt_mul_of_pos_right (Nat.mod_lt _ hrs) hps
  have hmod : l * 2 ^ s % 18446744073709551616 = (l % 2 ^ (64 - s)) * 2 ^ s := by omega
  have hor : a * 2 ^ s ||| l / 2 ^ (64 - s) = a * 2 ^ s + l / 2 ^ (64 - s) := by
    rw [← Nat.shiftLeft_eq]; exact (Nat.shiftLeft_add_eq_or_of_lt hlt a).symm
  have e5 : (((a : Int) * 18446744073709551616 + (l : Int)) * 2 ^ s) = (((a * 18446744073709551616 + l) * 2 ^ s : Nat) : Int) := by simp
  rw [e5, e1, e2, e3, e4, Go.u64_or_nat _ _ (by omega) (by omega), hor]
  have hfin : (a * 18446744073709551616 + l) * 2 ^ s = (a * 2 ^ s + l / 2 ^ (64 - s)) * 18446744073709551616 + l * 2 ^ s % 18446744073709551616 := by
    rw [hmod, Nat.add_mul, hlo, Nat.add_mul]
    have : a * 18446744073709551616 * 2 ^ s = a * 2 ^ s * 18446744073709551616 := by rw [Nat.mul_assoc, Nat.mul_comm 18446744073709551616, ← Nat.mul_assoc]
    rw [this]
    omega
  rw [hfin]
  generalize a * 2 ^ s = A at *
  generalize b * 2 ^ s = B at *
  generalize l * 2 ^ s = C at *
  generalize l / 2 ^ (64 - s) = D at *
  omega

/-! Knuth's step on integers: b = 2^32 -/
def kq (Y u d : Int) : Int := (u * 4294967296 + d) / Y
def kr (Y u d : Int) : Int := (u * 4294967296 + d) % Y

theorem kq_bd (Y u d : Int) (hY : 0 < Y) (hu : 0 ≤ u ∧ u < Y) (hd : 0 ≤ d ∧ d ≤ 4294967295) : 0 ≤ kq Y u d ∧ kq Y u d ≤ 4294967295 := by
  unfold kq
  refine ⟨Int.ediv_nonneg (by omega) (by omega), ?_⟩
  have : (u * 4294967296 + d) / Y < 4294967296 := Int.ediv_lt_of_lt_mul hY (by omega)
  omega
theorem kr_bd (Y u d : Int) (hY : 0 < Y) : 0 ≤ kr Y u d ∧ kr Y u d < Y := ⟨Int.emod_nonneg _ (by omega), Int.emod_lt_of_pos _ hY⟩
theorem k_eq (Y u d : Int) : kq Y u d * Y + kr Y u d = u * 4294967296 + d := by
  unfold kq kr; rw [Int.mul_comm]; exact Int.mul_ediv_add_emod _ _

/-- the first guess -/
theorem k_start (Y Y1 Y0 u d : Int) (hY : Y = Y1 * 4294967296 + Y0) (h1 : 2147483648 ≤ Y1) (h0 : 0 ≤ Y0 ∧ Y0 ≤ 4294967295) (hu : 0 ≤ u ∧ u < Y) (hd : 0 ≤ d ∧ d ≤ 4294967295) :
    kq Y u d ≤ u / Y1 ∧ u / Y1 ≤ 4294967297 ∧ 0 ≤ u / Y1 ∧ u / Y1 * Y1 + u % Y1 = u ∧ 0 ≤ u % Y1 ∧ u % Y1 < Y1 := by
  have e := Int.mul_ediv_add_emod u Y1
  have m1 := Int.emod_nonneg u (show Y1 ≠ 0 by omega)
  have m2 := Int.emod_lt_of_pos u (show 0 < Y1 by omega)
  refine ⟨?_, ?_, Int.ediv_nonneg hu.1 (by omega), by rw [Int.mul_comm]; exact e, m1, m2⟩
  · rw [Int.le_ediv_iff_mul_le (by omega)]
    have hk := k_eq Y u d
    have hr := kr_bd Y u d (by omega)
    have hq := kq_bd Y u d (by omega) hu hd
    generalize kq Y u d = q at *
    generalize kr Y u d = r at *
    rw [hY, Int.mul_add, ← Int.mul_assoc] at hk
    have : 0 ≤ q * Y0 := Int.mul_nonneg hq.1 h0.1
    generalize q * Y1 = A at *
    generalize q * Y0 = B at *
    omega
  · have : u / Y1 < 4294967298 := Int.ediv_lt_of_lt_mul (by omega) (by omega)
    omega
/-- the guess is too great just where the test says so -/
theorem k_test (Y Y1 Y0 u d a b : Int) (hY : Y = Y1 * 4294967296 + Y0) (h1 : 2147483648 ≤ Y1) (h0 : 0 ≤ Y0) (hinv : a * Y1 + b = u) :
    kq Y u d < a ↔ b * 4294967296 + d < a * Y0 := by
  unfold kq
  rw [Int.ediv_lt_iff_lt_mul (by omega), hY, ← hinv, Int.mul_add, ← Int.mul_assoc, Int.add_mul]
  generalize a * Y1 = A
  generalize a * Y0 = B
  omega
theorem k_step (Y1 u a b : Int) (hinv : a * Y1 + b = u) : (a - 1) * Y1 + (b + Y1) = u := by rw [Int.sub_mul]; omega
theorem k_prod (a Y0 : Int) (ha : 0 ≤ a ∧ a ≤ 4294967296) (h0 : 0 ≤ Y0 ∧ Y0 ≤ 4294967295) : 0 ≤ a * Y0 ∧ a * Y0 ≤ 18446744069414584320 := by
  refine ⟨Int.mul_nonneg ha.1 h0.1, ?_⟩
  have : a * Y0 ≤ 4294967296 * 4294967295 := Int.mul_le_mul ha.2 h0.2 h0.1 (by omega)
  omega
/-- from the two halves to the whole -/
theorem k_whole (hi lo y U L Y : Int) (s : Nat) (hY : Y = y * 2 ^ s) (hy : 0 < y) (_hU : 0 ≤ U ∧ U < Y) (_hL : 0 ≤ L ∧ L ≤ 18446744073709551615)
    (he : (hi * 18446744073709551616 + lo) * 2 ^ s = U * 18446744073709551616 + L) :
    dq hi lo y = kq Y U (L / 4294967296) * 4294967296 + kq Y (kr Y U (L / 4294967296)) (L % 4294967296)
    ∧ dr hi lo y = kr Y (kr Y U (L / 4294967296)) (L % 4294967296) / 2 ^ s := by
  have hps : (0 : Int) < 2 ^ s := Int.pow_pos (by decide)
  have hYp : 0 < Y := by rw [hY]; exact Int.mul_pos hy hps
  have k1 := k_eq Y U (L / 4294967296)
  have k2 := k_eq Y (kr Y U (L / 4294967296)) (L % 4294967296)
  have r2 := kr_bd Y (kr Y U (L / 4294967296)) (L % 4294967296) hYp
  generalize kr Y (kr Y U (L / 4294967296)) (L % 4294967296) = R at *
  generalize kq Y (kr Y U (L / 4294967296)) (L % 4294967296) = Q0 at *
  generalize kr Y U (L / 4294967296) = V at *
  generalize kq Y U (L / 4294967296) = Q1 at *
  have key : (hi * 18446744073709551616 + lo) * 2 ^ s = R + Y * (Q1 * 4294967296 + Q0) := by
    rw [he, Int.mul_add, ← Int.mul_assoc, Int.mul_comm Y Q1, Int.mul_comm Y Q0]
    generalize Q1 * Y = A at *
    generalize Q0 * Y = B at *
    omega
  constructor
  · unfold dq
    rw [← Int.mul_ediv_mul_of_pos_left _ _ hps, ← hY, key, Int.add_mul_ediv_left _ _ (by omega), Int.ediv_eq_zero_of_lt r2.1 r2.2]
    omega
  · unfold dr
    have : (hi * 18446744073709551616 + lo) % y * 2 ^ s = R := by
      rw [Int.mul_comm, ← Int.mul_emod_mul_of_pos _ _ hps, Int.mul_comm (2 ^ s) y, ← hY, Int.mul_comm (2 ^ s), key, Int.add_mul_emod_self_left, Int.emod_eq_of_lt r2.1 r2.2]
    rw [← this, Int.mul_ediv_cancel _ (by omega)]
/-- a remainder that is computed modulo 2^64 -/
theorem k_rest (Y u d : Int) (hY : 0 < Y ∧ Y ≤ 18446744073709551615) :
    IntKind.u64.wrap (IntKind.u64.wrap (IntKind.u64.wrap (u * 4294967296) + d) - IntKind.u64.wrap (kq Y u d * Y)) = kr Y u d := by
  have k1 := k_eq Y u d
  have r2 := kr_bd Y u d hY.1
  simp only [IntKind.wrap_u64]
  generalize kr Y u d = R at *
  generalize kq Y u d * Y = A at *
  omega
end RM
end Go.Proofs.YthcgcmmkajjhhaaDoor
