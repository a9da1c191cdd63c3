/- Plain numbers for sums. -/
import Derived.Test.YthcgcmmkajjhhaaDoorRatMul
namespace Go.Proofs.YthcgcmmkajjhhaaDoor
open Go.RowKit
namespace RM
theorem hi_div_a (v d : Int) (hd : 1 ≤ d ∧ d ≤ 18446744073709551615) (hv : -9223372036854775808 ≤ hi64 v ∧ hi64 v ≤ 9223372036854775807) : -9223372036854775808 ≤ hi64 (v / d) ∧ hi64 (v / d) ≤ 9223372036854775807 := by
  obtain ⟨e, _⟩ := wide_div v d hd
  rw [e]
  have := ediv_facts (hi64 v) d (by omega) hv
  omega
theorem addS_bad1 {a b c d : Int} (h : ok a b = false) : addS a b c d = (0, 0, 1) := by simp [addS, h]
theorem addS_bad2 {a b c d : Int} (h : ok c d = false) : addS a b c d = (0, 0, 1) := by simp [addS, h]
theorem gcd_mod (N g : Int) (_hg : 0 < g) : Nat.gcd (N % g).natAbs g.natAbs = Nat.gcd N.natAbs g.natAbs := by
  have e := Int.mul_ediv_add_emod N g
  apply Nat.dvd_antisymm
  · apply Nat.dvd_gcd _ (Nat.gcd_dvd_right _ _)
    rw [← Int.natCast_dvd_natCast, Int.dvd_natAbs]
    have h1 : ((Nat.gcd (N % g).natAbs g.natAbs : Nat) : Int) ∣ N % g := by rw [← Int.dvd_natAbs]; exact Int.natCast_dvd_natCast.2 (Nat.gcd_dvd_left _ _)
    have h2 : ((Nat.gcd (N % g).natAbs g.natAbs : Nat) : Int) ∣ g := by rw [← Int.dvd_natAbs]; exact Int.natCast_dvd_natCast.2 (Nat.gcd_dvd_right _ _)
    have h3 := Int.dvd_add (Int.dvd_trans h2 (Int.dvd_mul_right _ (N / g))) h1
    rw [e] at h3
    exact h3
  · apply Nat.dvd_gcd _ (Nat.gcd_dvd_right _ _)
    rw [← Int.natCast_dvd_natCast, Int.dvd_natAbs]
    have h1 : ((Nat.gcd N.natAbs g.natAbs : Nat) : Int) ∣ N := by rw [← Int.dvd_natAbs]; exact Int.natCast_dvd_natCast.2 (Nat.gcd_dvd_left _ _)
    have h2 : ((Nat.gcd N.natAbs g.natAbs : Nat) : Int) ∣ g := by rw [← Int.dvd_natAbs]; exact Int.natCast_dvd_natCast.2 (Nat.gcd_dvd_right _ _)
    have e2 : N % g = N - g * (N / g) := by omega
    rw [e2]
    exact Int.dvd_sub h1 (Int.dvd_trans h2 (Int.dvd_mul_right _ _))
theorem prod_bd63 (x y : Int) (hx : -9223372036854775807 ≤ x ∧ x ≤ 9223372036854775807) (hy : 1 ≤ y ∧ y ≤ 9223372036854775807) :
    -85070591730234615847396907784232501249 ≤ x * y ∧ x * y ≤ 85070591730234615847396907784232501249 := by
  have h : (x * y).natAbs ≤ 9223372036854775807 * 9223372036854775807 := by
    rw [Int.natAbs_mul]; exact Nat.mul_le_mul (by omega) (by omega)
  omega
theorem add_facts {a b c d : Int} (h1 : ok a b = true) (h2 : ok c d = true) (ha : a ≤ 9223372036854775807) (hc : c ≤ 9223372036854775807) (hb : b ≤ 9223372036854775807) (hd : d ≤ 9223372036854775807) :
    ∃ g x y e z : Int, ((Nat.gcd b.natAbs d.natAbs : Nat) : Int) = g ∧ 1 ≤ g ∧ g ≤ 9223372036854775807 ∧ b / g = x ∧ 1 ≤ x ∧ x ≤ 9223372036854775807 ∧ d / g = y ∧ 1 ≤ y ∧ y ≤ 9223372036854775807
    ∧ ((Nat.gcd ((a * y + c * x) % g).natAbs g.natAbs : Nat) : Int) = e ∧ 1 ≤ e ∧ e ≤ 9223372036854775807 ∧ d / e = z ∧ 1 ≤ z ∧ z ≤ 9223372036854775807
    ∧ -9223372036854775808 ≤ hi64 (a * y + c * x) ∧ hi64 (a * y + c * x) ≤ 9223372036854775807
    ∧ fitS ((a * y + c * x) / e) (x * z) = addS a b c d := by
  obtain ⟨p1, p2, _⟩ := ok_parts h1
  obtain ⟨p3, p4, _⟩ := ok_parts h2
  have k1 : 0 < Nat.gcd b.natAbs d.natAbs := Nat.gcd_pos_of_pos_right _ (by omega)
  have l1 : Nat.gcd b.natAbs d.natAbs ≤ d.natAbs := Nat.gcd_le_right _ (by omega)
  have l2 : Nat.gcd b.natAbs d.natAbs ≤ b.natAbs := Nat.gcd_le_left _ (by omega)
  have gd : Nat.gcd b.natAbs d.natAbs ∣ d.natAbs := Nat.gcd_dvd_right _ _
  have mp := add_parts (q a b) (q c d)
  have eb : (q a b).den = b.natAbs := by have := q_den h1; omega
  have ed : (q c d).den = d.natAbs := by have := q_den h2; omega
  rw [q_num h1, q_num h2, eb, ed] at mp
  have f1 : (b.natAbs : Int) = b := by omega
  have f2 : (d.natAbs : Int) = d := by omega
  rw [Int.natCast_ediv, Int.natCast_ediv, f1, f2] at mp
  have m1 : 1 ≤ b / ((Nat.gcd b.natAbs d.natAbs : Nat) : Int) := by rw [Int.le_ediv_iff_mul_le (by omega)]; omega
  have m2 : 1 ≤ d / ((Nat.gcd b.natAbs d.natAbs : Nat) : Int) := by rw [Int.le_ediv_iff_mul_le (by omega)]; omega
  have n1 : b / ((Nat.gcd b.natAbs d.natAbs : Nat) : Int) ≤ b := Int.ediv_le_self _ (by omega)
  have n2 : d / ((Nat.gcd b.natAbs d.natAbs : Nat) : Int) ≤ d := Int.ediv_le_self _ (by omega)
  have hx : (b.natAbs / Nat.gcd b.natAbs d.natAbs : Nat) = (b / ((Nat.gcd b.natAbs d.natAbs : Nat) : Int)).natAbs := by
    have : ((b.natAbs / Nat.gcd b.natAbs d.natAbs : Nat) : Int) = b / ((Nat.gcd b.natAbs d.natAbs : Nat) : Int) := by rw [Int.natCast_ediv, f1]
    omega
  rw [hx] at mp
  generalize hgg : Nat.gcd b.natAbs d.natAbs = gn at *
  generalize hxx : b / (gn : Int) = x at *
  generalize hyy : d / (gn : Int) = y at *
  have hgm := gcd_mod (a * y + c * x) gn (by omega)
  rw [show ((gn : Int)).natAbs = gn from rfl] at hgm
  have ke : 0 < Nat.gcd (a * y + c * x).natAbs gn := Nat.gcd_pos_of_pos_right _ (by omega)
  have le : Nat.gcd (a * y + c * x).natAbs gn ≤ gn := Nat.gcd_le_right _ (by omega)
  have de : Nat.gcd (a * y + c * x).natAbs gn ∣ d.natAbs := Nat.dvd_trans (Nat.gcd_dvd_right _ _) gd
  have b1 := prod_bd63 a y (by omega) (by omega)
  have b2 := prod_bd63 c x (by omega) (by omega)
  have hN := hi_bd (a * y + c * x) (by omega)
  generalize hN2 : a * y + c * x = N at *
  have mz : 1 ≤ d / ((Nat.gcd N.natAbs gn : Nat) : Int) := by rw [Int.le_ediv_iff_mul_le (by omega)]; omega
  have nz : d / ((Nat.gcd N.natAbs gn : Nat) : Int) ≤ d := Int.ediv_le_self _ (by omega)
  refine ⟨gn, x, y, ((Nat.gcd N.natAbs gn : Nat) : Int), d / ((Nat.gcd N.natAbs gn : Nat) : Int), rfl, by omega, by omega, hxx, m1, by omega, hyy, m2, by omega, ?_, by omega, by omega, rfl, mz, by omega, ?_, ?_, ?_⟩
  · rw [hN2, ← hgm]; rfl
  · rw [hN2]; exact hN.1
  · rw [hN2]; exact hN.2
  · rw [addS, if_pos ⟨h1, h2⟩, hN2]
    refine fit_enc _ _ _ mp.1 ?_
    rw [mp.2, Nat.mul_div_assoc _ de, Int.natCast_mul, Int.natCast_ediv, f2]
    rw [show ((x.natAbs : Nat) : Int) = x by omega]
end RM

theorem cell_drewN_new (w : World) (n : Nat) (O : Obj) (o : Nat) : ((w.drewN n).alloc O).cell? ⟨w.heap.size, o, none⟩ = (w.alloc O).cell? ⟨w.heap.size, o, none⟩ := rfl
theorem frozen_drewN_new (w : World) (n : Nat) (O : Obj) (o : Nat) : ((w.drewN n).alloc O).frozen? ⟨w.heap.size, o, none⟩ = (w.alloc O).frozen? ⟨w.heap.size, o, none⟩ := rfl

end Go.Proofs.YthcgcmmkajjhhaaDoor
